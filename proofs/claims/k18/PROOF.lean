import PyProof.Rows.All
import Wide.All
import OpenK.AllK
import Wide.FinOn
import HandS.ForMost
import HandS.Wide
import HandS.RaiseMore
import HandS.ExcInit
import HandS.IsInst
import HandS.TryOnly
import HandS.ExcOwn
import HandS.WordsExc
import HandS.Flow
import HandS.Style
import HandS.Zip
import HandS.StrMore
import HandS.TupAny
import HandS.Defaults
import HandS.Walk
import PyProof.Draws
import KE.GoesMore
import HandS.Conv
import KE.DataMinMax
import HandS.SortKw
import HandS.Iter
import HandS.SetFor
import KE.KDictZip
import HandS.Exc
import HandS.ExcValue
import PyProof.ListNew
import HandS.SortInts
import HandS.NoneIn
import HandS.WideBits
import KE.KMathGC
import PyProof.FitsInt
import KE.KEqSeq
import PyProof.StrLawsIn
import PySem.Challenge.RW_lazyspill_k18_great_rows_counted
set_option Elab.async false
set_option linter.all false
set_option maxRecDepth 100000
set_option maxHeartbeats 4000000
/-! Further rules: powers of great ints, a text times an int, the text (repr) of nested data, defs that ask for it. -/
namespace Z
open PySem PySem.Spec PyProof.Rows L2

/-! ### numbers and texts -/
section
variable {X : Cx}
/-- x ** n, both any size that the machine allows -/
def CPowZ (i j : Int) : Prop := 0 ≤ j ∧ (Builtin.Int.intBits i : Int) * j ≤ 2 ^ 27
theorem op_powZ : OpR X (binaryOp .Pow) (rI CPowZ fun i j => .int (i ^ j.toNat)) :=
  opI fun i j t u s Q E hc q => pow_int hc.1 hc.2 q
/-- a text so many times -/
def rStrRep : R2 := fun x y H Q => ∃ (z : Str) (n : Int), x = .str z ∧ y = .int n ∧ MulOk z n ∧ Q (.str (Txt.mul z n)) H
theorem op_strRep : OpR X (binaryOp .Mult) rStrRep := by
  intro pins s σ H x y v u Q I rx ry h
  obtain ⟨z, n, rfl, rfl, ok, q⟩ := h
  obtain ⟨t1, rfl⟩ := rx
  obtain ⟨t2, rfl⟩ := ry
  refine SB.mul ok fun t' k => ?_
  exact ⟨.str (Txt.mul z n), H, I.tok k, ⟨t', rfl⟩, q⟩
/-- the text of data -/
def rRepr (K : PySem.W.Frag) : List V → Hp → VK → Prop := fun xs H Q =>
  ∃ a d, xs = [V.ref a] ∧ Dp K H (.ref a) d ∧ d.showable = true ∧ d.hasDict = false ∧ d.depth ≤ 60 ∧ d.shown.length ≤ sizeLine ∧ Q (.str d.shown) H
theorem call_reprD (hg : X.A.guards = some []) (hu : X.A.units + 64 < cLine) : CallR X (.builtin "repr") (rRepr X.K) := by
  intro pins s σ H xs us Q I r h
  obtain ⟨a, d, rfl, hd, h1, h2, h3, h4, q⟩ := h
  obtain ⟨u, rfl, ru⟩ := vals1 r
  have e : u = Value.ref a := ru
  subst e
  obtain ⟨as, rd⟩ := Dp.reads I d _ _ hd rfl
  refine repr_of_reads' rd h1 (PyData.noDict_hsm h2) hg (by omega) (fun _ _ e => e) (fun h' t tk hk => ?_) h4
  exact ⟨.str d.shown, H, I.kept (t' := tk) hk, ⟨t, rfl⟩, q⟩
end

/-! ### defs around which nothing asks for a text -/
/-- a def's promise where nothing of the kind runs around it -/
structure FnG (P : Program) (w : World) (K : PySem.W.Frag) (mg : Str → Option Value) (base : Heap) (k : Nat) (f : Addr) (fd : FuncData) (ps : List Str) (sp : Sp) : Prop where
  len : ∀ vs H Q E, sp vs H Q E → vs.length = ps.length
  run : ∀ (A : Around), A.guards = some [] → ∀ (outer : List Env) (s : Shared) (H : Hp) (args : Args) (us : List Value) (vs : List V) (Q : VK) (E : XK),
    Room k A → Env0 P w K mg base A outer s H → BindsTo s fd args (ps.zip us) → Vals vs us → sp vs H Q E → codeAny (model P w) A (.call (.ref f) args) (CR CX0 outer P w H s Q E) s

theorem guards_deeper {A : Around} {env : Env} : (A.deeper env).guards = A.guards := rfl

theorem FnG.of {P : Program} {w : World} {K : PySem.W.Frag} {mg : Str → Option Value} {base : Heap} {x qual : Str} {st : Stmt} {f : Addr} {fd : FuncData} {N ps : List Str} {k : Nat} {sp : Sp}
    (F : Fun K x qual st f fd) (S : FnScope N ps (defScope st)) (len : ∀ vs H Q E, sp vs H Q E → vs.length = ps.length)
    (hb : ∀ (cdv : Value) (A : Around) (outer : List Env) (s : Shared) (H : Hp) (vs : List V) (Q : VK) (E : XK),
      Room k (A.deeper (envOfC qual (defScope st) s.heap.objs.size f cdv)) → (A.deeper (envOfC qual (defScope st) s.heap.objs.size f cdv)).guards = some [] → sp vs H Q E →
      ∃ t, PSs (cxOf CX0 P w K mg base N qual (defScope st) f cdv A outer s H E).nox (defBody st) t ∧ t { nx := fun _ H' => Q .non H', rt := Q } (start N vs) H) :
    FnG P w K mg base (k + 1) f fd ps sp := by
  obtain ⟨oc, od, kV, doc, pm, an, cdv, ct, osl, rfl, lk, hcd⟩ := F.ex
  constructor
  · exact len
  · intro A hg outer s H args us vs Q E hr e0 bnd rv hsp
    have hl : vs.length = ps.length := len _ _ _ _ hsp
    have inS : K.In s.heap := e0.mod.kin.keeps fun b o e => (e0.bs b o e).1
    have free : s.heap.NoLimit := e0.mod.nolimit.keeps fun b o e => (e0.bs b o e).1
    have kinds : ∀ y ∈ ps.zip us, (defScope st).names.lookup y.1 = some .local ∨ ((defScope st).names.lookup y.1 = some .cell ∧ ((cellsFrom (s.heap.objs.size + 1) (defScope st).names []).lookup y.1).isSome = true) := by
      rintro ⟨n, v⟩ hy
      cases S.par n (List.of_mem_zip hy).1 with
      | inl q => exact .inl q
      | inr q => exact .inr ⟨q, PySem.W.cellsFrom_some _ _ _ (.inl q)⟩
    refine codeAny_call_function hr.depth (inS _ _ lk) rfl S.co S.gen rfl (PySem.W.codeRec_of inS hcd) (bnd _ _ _ _ ?_)
    refine wpAny_newFunctionEnv_cells S.kind kinds fun env he s1 x => ?_
    cases he
    refine ⟨free.keeps x.toInCall.keep, codeAny_func ?_⟩
    obtain ⟨t, ht, hq⟩ := hb cdv A outer s H vs Q E (hr.deeper _) hg hsp
    have J := inv_start (CX := CX0) (K := K) (E := E) S hr.hd e0 hl rv x
    refine wpAny_mono (ht.nox.run [] s1 _ H _ J hq) ?_ (fun e s' hs => hs)
    intro fl s' hs
    cases fl with
    | next => obtain ⟨σ', H', J', q⟩ := hs; exact ⟨.non, H', J'.os, J'.bare, J'.base, J'.hok, rfl, q⟩
    | ret u => obtain ⟨v, σ', H', J', r', q⟩ := hs; exact ⟨v, H', J'.os, J'.bare, J'.base, J'.hok, r', q⟩
    | brk => obtain ⟨_, _, _, q⟩ := hs; exact q.elim
    | cont => obtain ⟨_, _, _, q⟩ := hs; exact q.elim
theorem FnG.mono {P : Program} {w : World} {K : PySem.W.Frag} {mg : Str → Option Value} {base : Heap} {j k : Nat} {f : Addr} {fd : FuncData} {ps : List Str} {sp : Sp} (F : FnG P w K mg base j f fd ps sp) (h : j ≤ k) : FnG P w K mg base k f fd ps sp :=
  ⟨F.len, fun A hg outer s H args us vs Q E hr => F.run A hg outer s H args us vs Q E (hr.mono h)⟩

section
variable {X : Cx} {k : Nat} {f : Addr} {fd : FuncData} {ps : List Str} {sp : Sp} {E : XK} {x : Str} {p pos : Pos} {e : Expr} {es : List Expr} {t : TA}
/-- f(e, ..) of such a def -/
theorem pe_callG (F : FnG X.prog X.w X.K X.mg X.base k f fd ps sp) (hA : X.A.guards = some []) (hr : Room k X.A) (hg : Gl X x) (hm : X.mg x = some (.ref f)) (hk : PySem.W.keepIn X.K (.ref f) = true) (hb : Binds X.K fd ps [])
    (ha : PA X (e :: es) t) (hdb : (x == ("__debug__" : Str)) = false := by decide) (he : starEach (e :: es) X.env = (false, eval e X.env) :: starEach es X.env := by rfl) (hpl : (backTo pos (starEach es X.env)).any (·.1) = false := by rfl) :
    PE X (.Call (.Name x p) (e :: es) [] pos) (tCall sp [] E t) := by
  constructor
  intro pins s σ H Q I h
  refine wpAny_Call_Name_kw (ld_glob I hg hm ?_ hdb)
  refine PySem.W.callWith_K (h₀ := X.base) I.ok.mod.kin hk (thn (ha.run pos pins s σ H _ I h) ?_) he hpl
  rintro us s1 ⟨vs, H1, I1, r, q⟩
  refine ⟨I1.kIn, wpAny_call (codeAny_mono (F.run X.A hA X.stack s1 H1 ⟨us, []⟩ us vs Q E hr I1.env0 ?_ r (by simpa using q)) ?_)⟩
  · have hl : us.length = ps.length := by
      have := F.len _ _ _ _ q
      rw [← r.length]
      simpa using this
    simpa using hb s1 us I1.kIn (by simpa using hl)
  · intro res s' hq
    cases res with
    | error e => exact False.elim hq
    | ok fl => cases fl with
      | ret u => exact I1.after hq
      | next => exact False.elim hq
      | brk => exact False.elim hq
      | cont => exact False.elim hq
end
end Z
namespace Z
open PySem PySem.Spec PyProof.Rows L2

/-- the script's heap: the script alone, locked -/
def scriptH (a : Addr) (vs : List Value) (ns : List Int) : Hp := fun b => if b = a then some (.frz { cls := .type "list", data := .seq vs.toArray } (.lst (ns.map V.int))) else none

/-- the heap of the machine without what is tracked gives the base -/
theorem base_at {h : Heap} {H : Hp} {b : Addr} {o : Obj} (e : h.get? b = some o) (n : H b = none) : (hidT h H).get? b = some o := hidT_get e n

theorem lawRun {P : Program} {w : World} {K : PySem.W.Frag} {mg mb : Str → Option Value} {k : Nat} {fa a : Addr} {fd : FuncData} {x : Str} {sp : Sp} {s₁ : Shared} {vs : List Value} (H : Hp)
    (kin : K.In s₁.heap) (nsm : s₁.heap.Ns mainGlobals mg) (nsb : s₁.heap.Ns builtinsNs mb) (boot : ∀ y : Str, y ≠ "__name__" → mb y = bootBuiltins y) (lim : s₁.heap.NoLimit) (gens : s₁.gens = #[])
    (obj : s₁.heap.get? a = some { cls := .type "list", data := .seq vs.toArray }) (room : Room k callerA)
    (F : ∀ base : Heap, K.In base → base.Ns mainGlobals mg → FnG P w K mg base k fa fd [x] sp) (bind : ∀ (s : Shared) (u : Value), BindsTo s fd ⟨[u], []⟩ [(x, u)])
    (only : Only H) (alone : ∀ b, H b ≠ none → b = a) (notK : H a ≠ none → K.lookup a = none) (held : HOk P w H s₁.heap)
    (want : sp [.ref a] H (fun v _ => v = .bl true) fun _ _ _ => False) :
    codeAny (model P w) callerA (.call (.ref fa) ⟨[.ref a], []⟩) (fun r s' => r = .ok (.ret (.bool true)) ∧ OldK s₁.heap s'.heap ∧ s'.os = s₁.os ∧ AllBare s'.gens) s₁ := by
  have untracked : ∀ {b : Addr} {o : Obj} {es : Array DictEntry} {ep : Nat}, s₁.heap.get? b = some o → o.data = .dict es ep → H b = none := by
    intro b o es ep e d
    cases q : H b with
    | none => rfl
    | some u =>
      have : b = a := alone b (by rw [q]; simp)
      rw [this, obj] at e
      cases e
      exact Data.noConfusion d
  have spaces : ∀ {b : Addr} {m : Str → Option Value}, s₁.heap.Ns b m → (hidT s₁.heap H).Ns b m := by
    rintro b m ⟨o, es, ep, e, d, r⟩
    exact ⟨o, es, ep, base_at e (untracked e d), d, r⟩
  have kinB : K.In (hidT s₁.heap H) := by
    intro b o e
    refine base_at (kin b o e) ?_
    cases q : H b with
    | none => rfl
    | some u =>
      have : b = a := alone b (by rw [q]; simp)
      subst this
      have := notK (by rw [q]; simp)
      rw [this] at e
      cases e
  have md : Mod K mg (hidT s₁.heap H) := by
    obtain ⟨mc, c1, c2⟩ := lim
    exact ⟨kinB, spaces nsm, ⟨mb, spaces nsb, boot⟩, ⟨mc, spaces c1, c2⟩⟩
  have env : Env0 P w K mg (hidT s₁.heap H) callerA [] s₁ H :=
    { frames := rfl, mod := md, bs := fun b o e => of_hidT e, bsz := Nat.le_of_eq (hidT_size _ _), funs := trivial, frf := fun b hb => absurd (show b ∈ ([] : List Addr) from hb) (by simp), hok := held, bare := .of_eq gens }
  have go := (F _ kinB (spaces nsm)).run callerA rfl [] s₁ H ⟨[.ref a], []⟩ [.ref a] [.ref a] (fun v _ => v = .bl true) (fun _ _ _ => False) room env (bind s₁ (.ref a)) (.cons rfl .nil) want
  refine codeAny_mono go ?_
  intro r s' hr
  cases r with
  | error e => exact False.elim hr
  | ok fl =>
    cases fl with
    | next => exact False.elim hr
    | brk => exact False.elim hr
    | cont => exact False.elim hr
    | ret u =>
      obtain ⟨v, H', hos, hbare, un, hok', rv, ev⟩ := hr
      have ev' : v = .bl true := ev
      subst ev'
      have eu : u = Value.bool true := rv
      subst eu
      refine ⟨rfl, OldK.of_keep ?_, hos, hbare⟩
      intro b o e
      cases q : H b with
      | none => exact un.keep b o e q (fun z => absurd (show b ∈ ([] : List Addr) from z) (by simp)) (by simp)
      | some u =>
        cases only b with
        | inl z => rw [q] at z; cases z
        | inr z =>
          obtain ⟨ob, xs, z⟩ := z
          have e1 := (held b _ z).1
          have e2 := (hok' b _ (un.frzs b ob _ z)).1
          rw [e] at e1
          cases e1
          exact e2

/-- the end of a law's row, by the promise of its def -/
theorem walkG {l : PySem.W.OpenLaw} {n k : Nat} {q : Program} {loose : List Str} {XP : (Str → Option Value) → Heap → Prop} {YP : World → Heap → Prop} {d : DefRec} {K : Params → PySem.W.Frag} {sp : PySem.W.Frag → Sp} {x : Str}
    (hn : l.most = some n) (hn2 : n ≤ sizeLine) (hdf : d.params.defaults = []) (hr : Room k callerA)
    (hY : ∀ (w : World) (h : Heap), YP w h → (K w.params).In h)
    (F : ∀ (w : World) (mg : Str → Option Value) (fa : Addr) (h : Heap), (K w.params).In h → h.Ns mainGlobals mg → mg d.name = some (.ref fa) →
      ∃ fd : FuncData, (∀ (s : Shared) (u : Value), BindsTo s fd ⟨[u], []⟩ [(x, u)]) ∧
        ∀ base : Heap, (K w.params).In base → base.Ns mainGlobals mg → FnG l.prog w (K w.params) mg base k fa fd [x] (sp (K w.params)))
    (hsp : ∀ (K : PySem.W.Frag) (H : Hp) (a : Addr) (ns : List Int), ns.length ≤ n → SqL K H a (ns.map V.int) → sp K [.ref a] H (fun v _ => v = .bl true) fun _ _ _ => False) :
    PySem.W.WalkO q loose XP YP l.row.toRowW d [] (fun f vs => PySem.call f vs) := by
  refine Att.attach_call hn hdf ?_
  intro w s₀ s₁ mg mb fa o pm cd doc a vs ns G Y ho hd hcd hmg hobj hints hlen hg
  have kin := hY w _ Y
  obtain ⟨fd, hb, hF⟩ := F w mg fa _ kin G.T.g hmg
  have vals := vals_ints hints
  have size : ns.length ≤ sizeLine := Nat.le_trans hlen hn2
  cases hk : (K w.params).lookup a with
  | some ob =>
    have e := kin a ob hk
    rw [hobj] at e
    cases e
    refine lawRun (fun _ => none) kin G.T.g G.T.b G.T.builtins G.T.nolimit hg hobj hr hF hb (fun _ => .inl rfl) (fun b z => absurd rfl z) (fun z => absurd rfl z) (fun b u z => by cases z) (hsp _ _ a ns hlen (.inr ⟨_, vs.toArray, _, hk, rfl, rfl, rfl, ?_, by simpa using vals⟩))
    rw [List.size_toArray, hints.length]
    exact size
  | none =>
    have at_a : scriptH a vs ns a = some (.frz { cls := .type "list", data := .seq vs.toArray } (.lst (ns.map V.int))) := if_pos rfl
    have off : ∀ {b}, b ≠ a → scriptH a vs ns b = none := fun h => if_neg h
    refine lawRun (scriptH a vs ns) kin G.T.g G.T.b G.T.builtins G.T.nolimit hg hobj hr hF hb ?_ ?_ (fun _ => hk) ?_ (hsp _ _ a ns hlen (.inl (.inr ⟨_, at_a⟩)))
    · intro b
      by_cases h : b = a
      · subst h; exact .inr ⟨_, _, at_a⟩
      · exact .inl (off h)
    · intro b z
      by_cases h : b = a
      · exact h
      · exact absurd (off h) z
    · intro b u z
      by_cases h : b = a
      · subst h
        rw [at_a] at z
        cases z
        exact ⟨hobj, by rw [List.length_map]; exact size, vs, _, vals, hobj⟩
      · rw [off h] at z; cases z
end Z
/-! enumerate over a text. -/
namespace Z
open PySem PySem.Spec PyProof.Rows L2

/-- (i, sign) for each sign of x, in new pairs -/
def Ites (x : Str) : It :=
  ⟨fun i _ => i < x.cps.size, fun i H v H' => ∃ T c, v = .ref T ∧ H T = none ∧ H' = upd H T (.tup [.int (i : Nat), .str ⟨#[c]⟩]) ∧ x.cps[i]? = some c, fun i _ => i = x.cps.size⟩

theorem drawsS {P : Program} {w : World} {A : Around} (hh : A.handled = none) (it : Addr) (x : Str) (t : Tok) :
    Draws P w A it [it] x.cps.size (fun i v => ∃ c u, x.cps[i]? = some c ∧ v = .str ⟨#[c]⟩ u) (fun i h => h.IsStrIter it (strIterType x) x t i) := by
  unfold strIterType
  split
  · exact Draws.strAscii hh it x t
  · exact Draws.strWide hh it x t

theorem turn_enumS {P : Program} {w : World} {K : PySem.W.Frag} {elts : List Expr} {kk : Nat} {tpos : Pos} (x : Str) (t : Tok) (e it : Addr) :
    Turn P w K (.Tuple elts kk tpos) (Ites x) [e, it] e (fun i h => (∃ old, IsEnum h e it ((i : Nat) : Int) old) ∧ h.IsStrIter it (strIterType x) x t i ∧ e ≠ it) := by
  constructor
  · simp
  · rintro i h ⟨⟨old, he⟩, ⟨o, ho, hc, hd⟩, _⟩ b hb
    rcases (by simpa using hb : b = e ∨ b = it) with z | z
    · subst z; exact ⟨_, he, fun v q => nomatch q⟩
    · subst z; exact ⟨o, ho, fun v q => by rw [hd] at q; cases q⟩
  · rintro i h h' ⟨⟨old, he⟩, ⟨o, ho, r⟩, hne⟩ k
    exact ⟨⟨old, k e (by simp) _ he⟩, ⟨o, k it (by simp) _ ho, r⟩, hne⟩
  · intro X hP hw hK hc i pins s σ H E I hf st hg
    subst hP hw hK
    obtain ⟨⟨old, he⟩, hit, hne⟩ := st
    have le : e < s.heap.objs.size := Heap.lt_size he
    have li : it < s.heap.objs.size := by obtain ⟨_, q, _⟩ := hit; exact Heap.lt_size q
    refine wpAny_pyNext_enum_itemD (drawsS (A := X.A.in1) (I.ok.hd hc) it x t) he hit hg hne (by simpa using hne) ?_
    rintro v h' tk ⟨c, u, hcx, rfl⟩ ho hit' hT hsz hk
    refine ⟨_, rfl, wpAny_letOwnedTupleGo_enum (s := { s with heap := h', toks := tk + 1 }) ho fun h'' he' sb => ?_⟩
    have hT2 : h''.get? s.heap.objs.size = some { cls := .type "tuple", data := .seq #[.int i tk, .str ⟨#[c]⟩ u] } := (sb.2 _ (Nat.ne_of_gt le)).trans hT
    have new : ObjOk X.prog X.w (upd H s.heap.objs.size (.tup [.int (i : Nat), .str ⟨#[c]⟩])) h'' s.heap.objs.size (.tup [.int (i : Nat), .str ⟨#[c]⟩]) :=
      ⟨by show 2 ≤ sizeLine; decide, [.int i tk, .str ⟨#[c]⟩ u], .cons ⟨_, rfl⟩ (.cons ⟨_, rfl⟩ .nil), ⟨_, hT2, rfl, _, rfl⟩⟩
    have J : Inv X pins σ (upd H s.heap.objs.size (.tup [.int (i : Nat), .str ⟨#[c]⟩])) { s with heap := h'', toks := tk + 1 } := by
      refine I.turnedNew (ch := [e, it]) (fun b ob hb q => ?_) hf (Nat.le_refl _) new
      have n1 : b ≠ e := fun z => hb (by simp [z])
      have n2 : b ≠ it := fun z => hb (by simp [z])
      exact (sb.2 b n1).trans (hk b ob n1 n2 q)
    refine ⟨.ref s.heap.objs.size, _, J, rfl, ⟨_, c, rfl, I.hok.fresh (Nat.le_refl _), rfl, hcx⟩, ⟨⟨.str ⟨#[c]⟩ u, ?_⟩, ?_, hne⟩, ?_⟩
    · rw [show ((i + 1 : Nat) : Int) = (i : Int) + 1 by omega]; exact he'
    · obtain ⟨o', q1, q2⟩ := hit'
      exact ⟨o', (sb.2 it (Ne.symm hne)).trans q1, q2⟩
    · intro b hb
      have lb : b < s.heap.objs.size := by
        rcases (by simpa using hb : b = e ∨ b = it) with z | z
        · rw [z]; exact le
        · rw [z]; exact li
      rw [upd_ne (Nat.ne_of_lt lb)]
      exact (hf b hb).1
  · intro X hP hw hK hc i pins s σ H E I hf st hg
    subst hP hw hK
    obtain ⟨⟨old, he⟩, hit, hne⟩ := st
    obtain ⟨f0, f1, f2, f3, f4, f5⟩ := hf it (by simp)
    have hi : i = x.cps.size := hg
    subst hi
    exact wpAny_pyNext_enum_endD (drawsS (A := X.A.in1) (I.ok.hd hc) it x t) he hit fun h' eb => ⟨rfl, I.turned (t' := s.toks) (fun b o hb q => eb b o hb q) f0 f1 f3 f4 f5⟩
  · rintro A i s Q E ⟨⟨_, he⟩, _⟩ h
    exact wpAny_pyIter_enum he h

def iEnumS (ta : TA) : TI := fun σ H R => ta σ H fun vs H1 => ∃ x, vs = [.str x] ∧ R (Ites x) H1
theorem pi_enumS {X : Cx} {e : Expr} {ta : TA} {p pos tpos : Pos} {elts : List Expr} {kk : Nat} (hg : Gl X "enumerate") (hm : X.mg "enumerate" = none) (ha : PA X [e] ta) (hs : starEach [e] X.env = [(false, eval e X.env)] := by rfl) :
    PI X (.Tuple elts kk tpos) (.Call (.Name "enumerate" p) [e] [] pos) (iEnumS ta) := by
  constructor
  intro pins s σ H R I h
  refine Call_ (ld_blt I hg hm boot_enumerate (PyProof.Rows.callWith_type1 (thn (ha.run pos pins s σ H _ I h) ?_) hs rfl))
  rintro us s1 ⟨vs, H1, I1, r1, x, ex, q⟩
  subst ex
  obtain ⟨u, rfl, t, rfl⟩ := vals1 r1
  refine call_enumerate_str fun h' he hit hsz hk => wpAny_pyIter_enum he ?_
  refine ⟨s1.heap.objs.size + 1, [s1.heap.objs.size + 1, s1.heap.objs.size], _, _, H1, rfl, I1.kept (t' := s1.toks) hk, turn_enumS x t (s1.heap.objs.size + 1) s1.heap.objs.size, ⟨⟨.none, he⟩, hit, Nat.succ_ne_self _⟩, fun b hb => ?_, q⟩
  have hle : s1.heap.objs.size ≤ b := by
    rcases (by simpa using hb : b = s1.heap.objs.size + 1 ∨ b = s1.heap.objs.size) with z | z
    · rw [z]; exact Nat.le_succ _
    · rw [z]; exact Nat.le_refl _
  exact I1.fpOk hle (I1.hok.fresh hle)
theorem walk_enumS {x : Str} : Walk (Ites x) x.cps.size (fun _ => True) (fun i H v H' => ∃ T c, v = .ref T ∧ H T = none ∧ H' = upd H T (.tup [.int (i : Nat), .str ⟨#[c]⟩]) ∧ x.cps[i]? = some c) :=
  ⟨fun _ _ hi _ => hi, fun _ _ => rfl, fun _ _ _ _ _ _ y => y⟩
end Z
/-! What is known of the heap: lists of one's own (they may change), and data (it stays). -/
namespace Z
open PySem PySem.Spec PyProof.Rows L2

abbrev OL := List (Addr × HO)
abbrev DL := List (List V × List PyData)

mutual
theorem dp_same {K : PySem.W.Frag} {H H' : Hp} (e : Same H H') : ∀ {v : V} {d : PyData}, Dp K H v d → Dp K H' v d
  | _, _, .non => .non
  | _, _, .bl b => .bl b
  | _, _, .int i => .int i
  | _, _, .str x => .str x
  | _, _, .lst h a => .lst (e.seq h) (dpa_same e a)
  | _, _, .tup h a => .tup (by
      rcases h with (h | ⟨o, h⟩) | h
      · exact .inl (.inl (e _ _ h))
      · exact .inl (.inr ⟨o, e _ _ h⟩)
      · exact .inr h) (dpa_same e a)
theorem dpa_same {K : PySem.W.Frag} {H H' : Hp} (e : Same H H') : ∀ {vs : List V} {ds : List PyData}, DpAll K H vs ds → DpAll K H' vs ds
  | _, _, .nil => .nil
  | _, _, .cons a b => .cons (dp_same e a) (dpa_same e b)
end
theorem sqt_same {K : PySem.W.Frag} {H H' : Hp} {a : Addr} {xs : List V} (e : Same H H') (h : SqT K H a xs) : SqT K H' a xs := by
  rcases h with (h | ⟨o, h⟩) | h
  · exact .inl (.inl (e _ _ h))
  · exact .inl (.inr ⟨o, e _ _ h⟩)
  · exact .inr h

section
variable {K : PySem.W.Frag} {H H' : Hp} {vs us : List V} {ds es : List PyData} {v : V} {d : PyData}
theorem dpa_len : ∀ {vs : List V} {ds : List PyData}, DpAll K H vs ds → vs.length = ds.length
  | _, _, .nil => rfl
  | _, _, .cons _ b => by rw [List.length_cons, List.length_cons, dpa_len b]
theorem dpa_app : ∀ {vs us : List V} {ds es : List PyData}, DpAll K H vs ds → DpAll K H us es → DpAll K H (vs ++ us) (ds ++ es)
  | _, _, _, _, .nil, b => b
  | _, _, _, _, .cons a r, b => .cons a (dpa_app r b)
theorem dpa_one (h : DpAll K H [v] [d]) : Dp K H v d := by cases h with | cons a _ => exact a
theorem dpa_get : ∀ {vs : List V} {ds : List PyData} {i : Nat} {v : V} {d : PyData}, DpAll K H vs ds → vs[i]? = some v → ds[i]? = some d → Dp K H v d
  | _, _, 0, _, _, .cons a _, h1, h2 => by cases h1; cases h2; exact a
  | _, _, i + 1, _, _, .cons _ b, h1, h2 => dpa_get (i := i) b h1 h2
  | _, _, _, _, _, .nil, h1, _ => by simp at h1
theorem dpa_ints : ∀ {vs : List V} {ns : List Int}, DpAll K H vs (ns.map PyData.int) → vs = ns.map V.int
  | _, [], h => by cases h; rfl
  | _, n :: ns, h => by
    cases h with
    | cons a b =>
      cases a
      rw [dpa_ints b]; rfl
theorem ints_dpa : ∀ ns : List Int, DpAll K H (ns.map V.int) (ns.map PyData.int)
  | [] => .nil
  | n :: ns => .cons (.int n) (ints_dpa ns)
theorem dpa_strs : ∀ {vs : List V} {ns : List Str}, DpAll K H vs (ns.map PyData.str) → vs = ns.map V.str
  | _, [], h => by cases h; rfl
  | _, n :: ns, h => by
    cases h with
    | cons a b =>
      cases a
      rw [dpa_strs b]; rfl
theorem strs_dpa : ∀ ns : List Str, DpAll K H (ns.map V.str) (ns.map PyData.str)
  | [] => .nil
  | n :: ns => .cons (.str n) (strs_dpa ns)
theorem dpa_bls : ∀ {vs : List V} {ns : List Bool}, DpAll K H vs (ns.map PyData.bool) → vs = ns.map V.bl
  | _, [], h => by cases h; rfl
  | _, n :: ns, h => by
    cases h with
    | cons a b =>
      cases a
      rw [dpa_bls b]; rfl
theorem bls_dpa : ∀ ns : List Bool, DpAll K H (ns.map V.bl) (ns.map PyData.bool)
  | [] => .nil
  | n :: ns => .cons (.bl n) (bls_dpa ns)
theorem dpa_take : ∀ {vs : List V} {ds : List PyData} (n : Nat), DpAll K H vs ds → DpAll K H (vs.take n) (ds.take n)
  | _, _, 0, _ => .nil
  | _, _, _ + 1, .nil => .nil
  | _, _, n + 1, .cons a b => .cons a (dpa_take n b)
theorem dpa_drop : ∀ {vs : List V} {ds : List PyData} (n : Nat), DpAll K H vs ds → DpAll K H (vs.drop n) (ds.drop n)
  | _, _, 0, h => h
  | _, _, _ + 1, .nil => .nil
  | _, _, n + 1, .cons _ b => dpa_drop n b
theorem dpa_rev : ∀ {vs : List V} {ds : List PyData}, DpAll K H vs ds → DpAll K H vs.reverse ds.reverse
  | _, _, .nil => .nil
  | _, _, .cons a b => by
    rw [List.reverse_cons, List.reverse_cons]
    exact dpa_app (dpa_rev b) (.cons a .nil)
end

/-- O: one's own lists and their items; L: data -/
structure St (K : PySem.W.Frag) (O : OL) (L : DL) (H : Hp) : Prop where
  ex : ∃ G : Hp, Same G H ∧ (∀ e ∈ L, DpAll K G e.1 e.2) ∧ (O.map (·.1)).Nodup ∧ ∀ e ∈ O, G e.1 = none ∧ H e.1 = some e.2

/-- what is told of these items follows from L -/
def Its (K : PySem.W.Frag) (L : DL) (vs : List V) (ds : List PyData) : Prop := ∀ G : Hp, (∀ e ∈ L, DpAll K G e.1 e.2) → DpAll K G vs ds
section
variable {K : PySem.W.Frag} {L L' : DL} {O O' : OL} {H H' : Hp} {vs us xs : List V} {ds es : List PyData} {v : V} {d : PyData} {p : Addr}
theorem Its.nil : Its K L [] [] := fun _ _ => .nil
theorem Its.mem (h : (vs, ds) ∈ L) : Its K L vs ds := fun G hG => hG _ h
theorem Its.app (a : Its K L vs ds) (b : Its K L us es) : Its K L (vs ++ us) (ds ++ es) := fun G hG => dpa_app (a G hG) (b G hG)
theorem Its.cons (a : Its K L [v] [d]) (b : Its K L us es) : Its K L (v :: us) (d :: es) := fun G hG => .cons (dpa_one (a G hG)) (b G hG)
theorem Its.int (i : Int) : Its K L [.int i] [.int i] := fun _ _ => .cons (.int i) .nil
theorem Its.bl (b : Bool) : Its K L [.bl b] [.bool b] := fun _ _ => .cons (.bl b) .nil
theorem Its.str (x : Str) : Its K L [.str x] [.str x] := fun _ _ => .cons (.str x) .nil
theorem Its.non : Its K L [.non] [.none] := fun _ _ => .cons .non .nil
theorem Its.ints (ns : List Int) : Its K L (ns.map V.int) (ns.map PyData.int) := fun _ _ => ints_dpa ns
theorem Its.strs (ns : List Str) : Its K L (ns.map V.str) (ns.map PyData.str) := fun _ _ => strs_dpa ns
theorem Its.bls (ns : List Bool) : Its K L (ns.map V.bl) (ns.map PyData.bool) := fun _ _ => bls_dpa ns
theorem Its.take (n : Nat) (a : Its K L vs ds) : Its K L (vs.take n) (ds.take n) := fun G hG => dpa_take n (a G hG)
theorem Its.drop (n : Nat) (a : Its K L vs ds) : Its K L (vs.drop n) (ds.drop n) := fun G hG => dpa_drop n (a G hG)
theorem Its.rev (a : Its K L vs ds) : Its K L vs.reverse ds.reverse := fun G hG => dpa_rev (a G hG)
theorem Its.get {i : Nat} (a : Its K L vs ds) (h1 : vs[i]? = some v) (h2 : ds[i]? = some d) : Its K L [v] [d] := fun G hG => .cons (dpa_get (a G hG) h1 h2) .nil
theorem Its.of (a : Its K L vs ds) (h : ds = es) : Its K L vs es := h ▸ a

theorem same_upd {H : Hp} {p : Addr} {o : HO} (h : H p = none) : Same H (upd H p o) := fun b x e => by
  rw [upd_ne (ne_of_none e h)]; exact e
theorem St.free (S : St K O L H) (h : H p = none) : p ∉ O.map (·.1) := by
  obtain ⟨G, a, b, c, e⟩ := S.ex
  intro z
  obtain ⟨q, hq, e1⟩ := List.mem_map.mp z
  have := (e q hq).2
  rw [e1, h] at this; cases this
/-- more is tracked -/
theorem St.grow (S : St K O L H) (e : Same H H') : St K O L H' := by
  obtain ⟨G, a, b, c, f⟩ := S.ex
  exact ⟨G, a.trans e, b, c, fun q hq => ⟨(f q hq).1, e _ _ (f q hq).2⟩⟩
/-- another telling of the data -/
theorem St.tell (S : St K O L H) (h : ∀ e ∈ L', Its K L e.1 e.2) : St K O L' H := by
  obtain ⟨G, a, b, c, f⟩ := S.ex
  exact ⟨G, a, fun q hq => h q hq G b, c, f⟩
theorem St.more (S : St K O L H) (h : Its K L vs ds) : St K O ((vs, ds) :: L) H := S.tell fun q hq => by
  rcases List.mem_cons.mp hq with z | z
  · rw [z]; exact h
  · exact .mem z
theorem St.less (S : St K O L H) (h : ∀ e ∈ L', e ∈ L) : St K O L' H := S.tell fun q hq => .mem (h q hq)
/-- own lists forgotten -/
theorem St.lose (S : St K O L H) (h : List.Sublist O' O) : St K O' L H := by
  obtain ⟨G, a, b, c, f⟩ := S.ex
  exact ⟨G, a, b, c.sublist (h.map _), fun q hq => f q (h.subset hq)⟩
/-- own lists in another sequence -/
theorem St.perm (S : St K O L H) (h : List.Perm O O') : St K O' L H := by
  obtain ⟨G, a, b, c, f⟩ := S.ex
  exact ⟨G, a, b, (h.map _).nodup_iff.mp c, fun q hq => f q (h.mem_iff.mpr hq)⟩
/-- a new list of one's own -/
theorem St.own {o : HO} (S : St K O L H) (h : H p = none) : St K ((p, o) :: O) L (upd H p o) := by
  have fr := S.free h
  obtain ⟨G, a, b, c, f⟩ := S.ex
  refine ⟨G, a.trans (same_upd h), b, List.nodup_cons.mpr ⟨fr, c⟩, fun q hq => ?_⟩
  rcases List.mem_cons.mp hq with z | z
  · rw [z]; exact ⟨a.free h, upd_same⟩
  · exact ⟨(f q z).1, by rw [upd_ne (ne_of_none (f q z).2 h)]; exact (f q z).2⟩
theorem St.data (S : St K O L H) (h : H p = none) (o : HO) (hd : ∀ G : Hp, G p = none → (∀ e ∈ L, DpAll K G e.1 e.2) → DpAll K (upd G p o) [.ref p] [d]) : St K O (([.ref p], [d]) :: L) (upd H p o) := by
  obtain ⟨G, a, b, c, f⟩ := S.ex
  have gp : G p = none := a.free h
  refine ⟨upd G p o, fun x y e => ?_, fun q hq => ?_, c, fun q hq => ?_⟩
  · by_cases hx : x = p
    · subst hx; rw [upd_same] at e ⊢; exact e
    · rw [upd_ne hx] at e ⊢; exact a _ _ e
  · rcases List.mem_cons.mp hq with z | z
    · rw [z]; exact hd G gp b
    · exact dpa_same (same_upd gp) (b q z)
  · have ne : q.1 ≠ p := ne_of_none (f q hq).2 h
    rw [upd_ne ne, upd_ne ne]
    exact f q hq
/-- a new tuple, a new list that stays as it is -/
theorem St.tup (S : St K O L H) (h : H p = none) (i : Its K L vs ds) : St K O (([.ref p], [.tuple ds]) :: L) (upd H p (.tup vs)) :=
  S.data h _ fun G gp hG => .cons (.tup (SqT.of upd_same) (dpa_same (same_upd gp) (i G hG))) .nil
theorem St.lst (S : St K O L H) (h : H p = none) (i : Its K L vs ds) : St K O (([.ref p], [.list ds]) :: L) (upd H p (.lst vs)) :=
  S.data h _ fun G gp hG => .cons (.lst (SqL.of upd_same) (dpa_same (same_upd gp) (i G hG))) .nil
/-- an own list becomes data -/
theorem St.freeze (S : St K ((p, .lst vs) :: O) L H) (i : Its K L vs ds) : St K O (([.ref p], [.list ds]) :: L) H := by
  obtain ⟨G, a, b, c, f⟩ := S.ex
  obtain ⟨gp, hp⟩ := f (p, .lst vs) List.mem_cons_self
  have c' : p ∉ O.map (·.1) ∧ (O.map (·.1)).Nodup := List.nodup_cons.mp c
  refine ⟨upd G p (.lst vs), fun x y e => ?_, fun q hq => ?_, c'.2, fun q hq => ?_⟩
  · by_cases hx : x = p
    · subst hx; rw [upd_same] at e; rw [← e]; exact hp
    · rw [upd_ne hx] at e; exact a _ _ e
  · rcases List.mem_cons.mp hq with z | z
    · rw [z]; exact .cons (.lst (SqL.of upd_same) (dpa_same (same_upd gp) (i G b))) .nil
    · exact dpa_same (same_upd gp) (b q z)
  · have ne : q.1 ≠ p := fun z => c'.1 (List.mem_map.mpr ⟨q, hq, z⟩)
    rw [upd_ne ne]
    exact f q (List.mem_cons_of_mem _ hq)
theorem set_addrs {k : Nat} {o u : HO} (hk : O[k]? = some (p, o)) : (O.set k (p, u)).map (·.1) = O.map (·.1) := by
  have hkl := (List.getElem?_eq_some_iff.mp hk).1
  refine List.ext_getElem? fun j => ?_
  rw [List.getElem?_map, List.getElem?_map]
  by_cases e : k = j
  · subst e
    rw [List.getElem?_set_self hkl, hk]
    rfl
  · rw [List.getElem?_set_ne e]
/-- an own list gets other items -/
theorem St.put {k : Nat} {o u : HO} (S : St K O L H) (hk : O[k]? = some (p, o)) : St K (O.set k (p, u)) L (upd H p u) := by
  obtain ⟨G, a, b, c, f⟩ := S.ex
  obtain ⟨gp, hp⟩ := f (p, o) (List.mem_of_getElem? hk)
  refine ⟨G, fun x y e => ?_, b, ?_, fun q hq => ?_⟩
  · rw [upd_ne (ne_of_none e gp)]; exact a _ _ e
  · rw [set_addrs hk]; exact c
  · by_cases hq1 : q.1 = p
    · obtain ⟨j, hj⟩ := List.mem_iff_getElem?.mp hq
      have hkl := (List.getElem?_eq_some_iff.mp hk).1
      have ek : ((O.set k (p, u)).map (·.1))[k]? = some p := by rw [List.getElem?_map, List.getElem?_set_self hkl]; rfl
      have ej : ((O.set k (p, u)).map (·.1))[j]? = some p := by rw [List.getElem?_map, hj, ← hq1]; rfl
      have nd : ((O.set k (p, u)).map (·.1)).Nodup := by rw [set_addrs hk]; exact c
      have jk := nd_ix nd ej ek
      subst jk
      have : q = (p, u) := by
        rw [List.getElem?_set_self hkl] at hj
        exact (Option.some.inj hj).symm
      rw [this]
      exact ⟨gp, upd_same⟩
    · rw [upd_ne hq1]
      have : q ∈ O := by
        rcases List.mem_or_eq_of_mem_set hq with z | z
        · exact z
        · exact absurd (by rw [z]) hq1
      exact f q this
theorem St.at {k : Nat} {o : HO} (S : St K O L H) (hk : O[k]? = some (p, o)) : H p = some o := by
  obtain ⟨G, a, b, c, f⟩ := S.ex
  exact (f _ (List.mem_of_getElem? hk)).2
theorem St.atL {k : Nat} (S : St K O L H) (hk : O[k]? = some (p, .lst vs)) : SqL K H p vs := SqL.of (S.at hk)
theorem St.dpa (S : St K O L H) (i : Its K L vs ds) : DpAll K H vs ds := by
  obtain ⟨G, a, b, c, f⟩ := S.ex
  exact dpa_same a (i G b)
theorem St.dp (S : St K O L H) (i : Its K L [v] [d]) : Dp K H v d := dpa_one (S.dpa i)
/-- an own list, read as data -/
theorem St.dpO {k : Nat} (S : St K O L H) (hk : O[k]? = some (p, .lst vs)) (i : Its K L vs ds) : Dp K H (.ref p) (.list ds) := .lst (S.atL hk) (S.dpa i)
/-- the items of a list, of a tuple -/
theorem St.seq (S : St K O L H) (i : Its K L [v] [.list ds]) : ∃ a xs, v = .ref a ∧ SqL K H a xs ∧ xs.length = ds.length ∧ St K O ((xs, ds) :: L) H := by
  obtain ⟨G, a, b, c, f⟩ := S.ex
  have := dpa_one (i G b)
  cases this with
  | lst h1 h2 =>
    refine ⟨_, _, rfl, a.seq h1, dpa_len h2, ⟨G, a, fun q hq => ?_, c, f⟩⟩
    rcases List.mem_cons.mp hq with z | z
    · rw [z]; exact h2
    · exact b q z
theorem St.tseq (S : St K O L H) (i : Its K L [v] [.tuple ds]) : ∃ a xs, v = .ref a ∧ SqT K H a xs ∧ xs.length = ds.length ∧ St K O ((xs, ds) :: L) H := by
  obtain ⟨G, a, b, c, f⟩ := S.ex
  have := dpa_one (i G b)
  cases this with
  | tup h1 h2 =>
    refine ⟨_, _, rfl, sqt_same a h1, dpa_len h2, ⟨G, a, fun q hq => ?_, c, f⟩⟩
    rcases List.mem_cons.mp hq with z | z
    · rw [z]; exact h2
    · exact b q z
/-- a list that is read all along stays: as data its address and items -/
theorem St.seqAt {a : Addr} (S : St K O L H) (i : Its K L [.ref a] [.list ds]) : ∃ xs, SqL K H a xs ∧ xs.length = ds.length ∧ St K O ((xs, ds) :: L) H := by
  obtain ⟨b, xs, e, h⟩ := S.seq i
  cases e
  exact ⟨xs, h⟩
/-- scalars -/
theorem St.isInt {j : Int} (S : St K O L H) (i : Its K L [v] [.int j]) : v = .int j := by cases S.dp i; rfl
theorem St.isBl {j : Bool} (S : St K O L H) (i : Its K L [v] [.bool j]) : v = .bl j := by cases S.dp i; rfl
theorem St.isStr {j : Str} (S : St K O L H) (i : Its K L [v] [.str j]) : v = .str j := by cases S.dp i; rfl
theorem St.isNon (S : St K O L H) (i : Its K L [v] [.none]) : v = .non := by cases S.dp i; rfl
theorem St.areInts {ns : List Int} (S : St K O L H) (i : Its K L vs (ns.map PyData.int)) : vs = ns.map V.int := dpa_ints (S.dpa i)
theorem St.areStrs {ns : List Str} (S : St K O L H) (i : Its K L vs (ns.map PyData.str)) : vs = ns.map V.str := dpa_strs (S.dpa i)
theorem St.areBls {ns : List Bool} (S : St K O L H) (i : Its K L vs (ns.map PyData.bool)) : vs = ns.map V.bl := dpa_bls (S.dpa i)
/-- nothing is told of an empty start -/
theorem St.start (H : Hp) : St K [] [] H := ⟨H, Same.refl H, (fun e he => by cases he), List.nodup_nil, (fun e he => by cases he)⟩
/-- data that is already there -/
theorem St.known {a : Addr} (h : SqL K H a xs) (i : DpAll K H xs ds) : St K [] [([.ref a], [.list ds])] H :=
  ⟨H, Same.refl H, fun e he => by rw [List.mem_singleton.mp he]; exact .cons (.lst h i) .nil, List.nodup_nil, (fun e he => by cases he)⟩
end
end Z
/-! Loops of the mirror, and how a loop of the text follows its mirror. -/
namespace Z
open PySem PySem.Spec PyProof.Rows L2

/-- behind a turn: on with s, out of the loop with s, out of the def with r -/
inductive Step (S R : Type) where
  | go (s : S) | out (s : S) | ret (r : R)
variable {S R T U : Type}
def loopM (f : T → S → Option (Step S R)) : List T → S → Option (Step S R)
  | [], s => some (.go s)
  | x :: r, s => match f x s with
    | none => none
    | some (.go s') => loopM f r s'
    | some (.out s') => some (.go s')
    | some (.ret v) => some (.ret v)
def whileM (f : S → Option (Step S R)) : Nat → S → Option (Step S R)
  | 0, _ => none
  | n + 1, s => match f s with
    | none => none
    | some (.go s') => whileM f n s'
    | some (.out s') => some (.go s')
    | some (.ret v) => some (.ret v)
/-- a list comprehension with a state -/
def compM (f : T → S → Option (Option U × S)) : List T → S → Option (List U × S)
  | [], s => some ([], s)
  | x :: r, s => match f x s with
    | none => none
    | some (none, s') => compM f r s'
    | some (some u, s') => match compM f r s' with
      | none => none
      | some (us, s2) => some (u :: us, s2)
def chk (c : Prop) [Decidable c] : Option Unit := if c then some () else none
theorem chk_of {c : Prop} [Decidable c] {α : Type} {k : Unit → Option α} {r : α} (h : (chk c >>= k) = some r) : c ∧ k () = some r := by
  unfold chk at h
  by_cases hc : c
  · rw [if_pos hc] at h; exact ⟨hc, h⟩
  · rw [if_neg hc] at h; cases h
theorem bind_of {α β : Type} {m : Option α} {k : α → Option β} {r : β} (h : (m >>= k) = some r) : ∃ a, m = some a ∧ k a = some r := by
  cases m with
  | none => cases h
  | some a => exact ⟨a, rfl, h⟩
theorem chk_yes {c : Prop} [Decidable c] (h : c) : chk c = some () := if_pos h

/-- THE LOOP: a for of the text and its mirror -/
theorem for_loop {J : It} {n : Nat} {G : Hp → Prop} {Y : Nat → Hp → V → Hp → Prop} {g : TG} {tb : TS} {D : Ends} {σ : L2.St} {H : Hp} {res : Step S R} (w : Walk J n G Y) (items : List T) (hn : items.length = n) (f : T → S → Option (Step S R)) (s0 : S)
    (hl : loopM f items s0 = some res) (Iv : S → L2.St → Hp → Prop) (h0 : Iv s0 σ H) (hG : ∀ s σ H, Iv s σ H → G H) (after : ∀ s σ H, Iv s σ H → res = .go s → D.nx σ H)
    (turn : (∀ s σ H, Iv s σ H → res = .go s → D.nx σ H) → ∀ (i : Nat) (x : T) (v : V) (s : S) (fl : Step S R) (σ : L2.St) (H H' : Hp), items[i]? = some x → Iv s σ H → Y i H v H' → f x s = some fl → (∀ r, fl = .ret r → res = .ret r) → (∀ s', fl = .out s' → res = .go s') →
      g v σ H' fun σ2 H2 => tb { D with nx := fun σ' H' => ∃ s', fl = .go s' ∧ Iv s' σ' H', ct := fun σ' H' => ∃ s', fl = .go s' ∧ Iv s' σ' H', bk := D.nx } σ2 H2) :
    ∃ W : Nat → Nat → L2.St → Hp → Prop, (∃ m, W 0 m σ H) ∧ ∀ i m σ H, W i m σ H →
      (J.stop i H ∧ D.nx σ H) ∨ (J.go i H ∧ ∃ N : L2.St → Hp → Prop, (∀ σ' H', N σ' H' → ∃ m', m' < m ∧ W (i + 1) m' σ' H') ∧ ∀ x H', J.yld i H x H' → g x σ H' fun σ2 H2 => tb { D with nx := N, ct := N, bk := D.nx } σ2 H2) := by
  refine ⟨fun i m σ H => m = n - i ∧ i ≤ n ∧ ∃ s, Iv s σ H ∧ loopM f (items.drop i) s = some res, ⟨n, by simp, Nat.zero_le _, s0, h0, hl⟩, ?_⟩
  rintro i m σ H ⟨rfl, hi, s, iv, hm⟩
  by_cases hlt : i < n
  · have hx : i < items.length := by omega
    rw [List.drop_eq_getElem_cons hx] at hm
    unfold loopM at hm
    cases hf : f items[i] s with
    | none => rw [hf] at hm; cases hm
    | some fl =>
      rw [hf] at hm
      refine .inr ⟨w.goes i H hlt (hG s σ H iv), _, ?_, fun v H' y => turn after i items[i] v s fl σ H H' (by simp [hx]) iv (w.yields i H v H' hlt (hG s σ H iv) y) hf ?_ ?_⟩
      · rintro σ' H' ⟨s', e, iv'⟩
        subst e
        exact ⟨n - (i + 1), by omega, rfl, hlt, s', iv', hm⟩
      · rintro r e; subst e; exact (Option.some.inj hm).symm
      · rintro r e; subst e; exact (Option.some.inj hm).symm
  · have e : i = n := by omega
    subst e
    rw [List.drop_eq_nil_of_le (by omega)] at hm
    exact .inl ⟨w.stops H (hG s σ H iv), after s σ H iv (Option.some.inj hm).symm⟩

/-- a while of the text and its mirror (f asks the test too: out where it is false) -/
theorem while_loop {c : TT} {tb : TS} {D : Ends} {σ : L2.St} {H : Hp} {res : Step S R} (f : S → Option (Step S R)) (fuel : Nat) (s0 : S) (hl : whileM f fuel s0 = some res) (Iv : S → L2.St → Hp → Prop) (h0 : Iv s0 σ H)
    (after : ∀ s σ H, Iv s σ H → res = .go s → D.nx σ H)
    (turn : (∀ s σ H, Iv s σ H → res = .go s → D.nx σ H) → ∀ (s : S) (fl : Step S R) (σ : L2.St) (H : Hp) (m : Nat) (W : Nat → L2.St → Hp → Prop), Iv s σ H → f s = some fl → (∀ r, fl = .ret r → res = .ret r) → (∀ s', fl = .out s' → res = .go s') →
      (∀ σ' H', (∃ s', fl = .go s' ∧ Iv s' σ' H') → ∃ m', m' < m ∧ W m' σ' H') →
      c σ H fun b H1 => if b = true then ∃ N : L2.St → Hp → Prop, (∀ σ' H', N σ' H' → ∃ m', m' < m ∧ W m' σ' H') ∧ tb { D with nx := N, ct := N, bk := D.nx } σ H1 else D.nx σ H1) : tWhile c tb D σ H := by
  refine ⟨fun m σ H => ∃ s, Iv s σ H ∧ whileM f m s = some res, ⟨fuel, s0, h0, hl⟩, ?_⟩
  rintro m σ H ⟨s, iv, hm⟩
  cases m with
  | zero => cases hm
  | succ m =>
    unfold whileM at hm
    cases hf : f s with
    | none => rw [hf] at hm; cases hm
    | some fl =>
      rw [hf] at hm
      refine turn after s fl σ H (m + 1) _ iv hf ?_ ?_ ?_
      · rintro r e; subst e; exact (Option.some.inj hm).symm
      · rintro r e; subst e; exact (Option.some.inj hm).symm
      · rintro σ' H' ⟨s', e, iv'⟩
        subst e
        exact ⟨m, Nat.lt_succ_self m, s', iv', hm⟩

/-- a list comprehension of the text and its mirror: Iv tells the heap by what is made so far and the state -/
theorem lc_loop {J : It} {n : Nat} {G : Hp → Prop} {Y : Nat → Hp → V → Hp → Prop} {g : TG} {tt : TT} {te : TE} {vs : List Nat} {σ : L2.St} {H1 : Hp} {D : Addr} {Qd : Hp → Prop} {made : List U} {sz : S} (w : Walk J n G Y) (items : List T) (hn : items.length = n)
    (f : T → S → Option (Option U × S)) (s0 : S) (hl : compM f items s0 = some (made, sz)) (Iv : List U → S → Hp → Prop) (h0 : Iv [] s0 (upd H1 D (.lst []))) (hG : ∀ l s H, Iv l s H → G H) (hsz : n < sizeLine) (hlen : ∀ l s H, Iv l s H → ∃ acc, H D = some (.lst acc) ∧ acc.length = l.length)
    (turn : ∀ (i : Nat) (x : T) (v : V) (l : List U) (s : S) (fl : Option U × S) (H H' : Hp) (Nx : Hp → Prop), l.length < sizeLine → items[i]? = some x → Iv l s H → Y i H v H' → f x s = some fl → (∀ H', Iv (l ++ fl.1.toList) fl.2 H' → Nx H') →
      g v (wipe σ vs) H' fun σ2 H2 => wipe σ2 vs = wipe σ vs ∧ tt σ2 H2 fun b H3 =>
        if b = true then te σ2 H3 fun y H4 => ∃ acc, H4 D = some (.lst acc) ∧ acc.length < sizeLine ∧ Nx (upd H4 D (.lst (acc ++ [y]))) else Nx H3)
    (fin : ∀ H, Iv made sz H → Qd H) :
    ∃ W : Nat → Nat → Hp → Prop, (∃ m, W 0 m (upd H1 D (.lst []))) ∧ ∀ i m H, W i m H →
      (J.stop i H ∧ Qd H) ∨ (J.go i H ∧ ∃ Nx : Hp → Prop, (∀ H', Nx H' → ∃ m', m' < m ∧ W (i + 1) m' H') ∧ ∀ x H', J.yld i H x H' → g x (wipe σ vs) H' fun σ2 H2 => wipe σ2 vs = wipe σ vs ∧ tt σ2 H2 fun b H3 =>
        if b = true then te σ2 H3 fun y H4 => ∃ acc, H4 D = some (.lst acc) ∧ acc.length < sizeLine ∧ Nx (upd H4 D (.lst (acc ++ [y]))) else Nx H3) := by
  refine ⟨fun i m H => m = n - i ∧ i ≤ n ∧ ∃ l s, Iv l s H ∧ l.length ≤ i ∧ ∃ more, compM f (items.drop i) s = some (more, sz) ∧ made = l ++ more, ⟨n, by simp, Nat.zero_le _, [], s0, h0, Nat.le_refl _, made, hl, rfl⟩, ?_⟩
  rintro i m H ⟨rfl, hi, l, s, iv, hll, more, hm, em⟩
  by_cases hlt : i < n
  · have hx : i < items.length := by omega
    rw [List.drop_eq_getElem_cons hx] at hm
    unfold compM at hm
    cases hf : f items[i] s with
    | none => rw [hf] at hm; cases hm
    | some fl =>
      rw [hf] at hm
      obtain ⟨u, s'⟩ := fl
      refine .inr ⟨w.goes i H hlt (hG l s H iv), fun H' => Iv (l ++ u.toList) s' H', ?_, fun v H' y => turn i items[i] v l s (u, s') H H' _ (Nat.lt_of_le_of_lt hll (Nat.lt_trans hlt hsz)) (by simp [hx]) iv (w.yields i H v H' hlt (hG l s H iv) y) hf (fun H' q => q)⟩
      intro H' iv'
      refine ⟨n - (i + 1), by omega, rfl, hlt, _, s', iv', ?_, ?_⟩
      · cases u with
        | none => simp only [Option.toList, List.append_nil]; omega
        | some u => simp only [Option.toList, List.length_append, List.length_cons, List.length_nil]; omega
      · cases u with
        | none => exact ⟨more, hm, by simpa using em⟩
        | some u =>
          simp only at hm
          cases hc : compM f (List.drop (i + 1) items) s' with
          | none => rw [hc] at hm; cases hm
          | some q =>
            rw [hc] at hm
            obtain ⟨us, s2⟩ := q
            have e := Option.some.inj hm
            simp only [Prod.mk.injEq] at e
            obtain ⟨rfl, rfl⟩ := e
            exact ⟨us, rfl, by simp [em]⟩
  · have e : i = n := by omega
    subst e
    rw [List.drop_eq_nil_of_le (by omega)] at hm
    have e := Option.some.inj hm
    simp only [Prod.mk.injEq] at e
    obtain ⟨rfl, rfl⟩ := e
    rw [List.append_nil] at em
    subst em
    exact .inl ⟨w.stops H (hG _ _ H iv), fin H iv⟩

/-! ### joining ways -/
theorem joinS {t : TS} {D : Ends} {σ : L2.St} {H : Hp} (P : L2.St → Hp → Prop) (h1 : ∀ σ' H', P σ' H' → D.nx σ' H') (h2 : (∀ σ' H', P σ' H' → D.nx σ' H') → t D σ H) : t D σ H := h2 h1
theorem joinB {t : TT} {σ : L2.St} {H : Hp} {Q : Bool → Hp → Prop} (P : Bool → Hp → Prop) (h1 : ∀ b H', P b H' → Q b H') (h2 : (∀ b H', P b H' → Q b H') → t σ H Q) : t σ H Q := h2 h1
theorem joinE {t : TE} {σ : L2.St} {H : Hp} {Q : VK} (P : V → Hp → Prop) (h1 : ∀ v H', P v H' → Q v H') (h2 : (∀ v H', P v H' → Q v H') → t σ H Q) : t σ H Q := h2 h1
/-- a and b, a or b, a if t else b, where nothing changes -/
theorem andJ {u : TT} {σ : L2.St} {H : Hp} {Q : Bool → Hp → Prop} {c d : Bool} (h : c = true → Q d H → u σ H Q) (q : Q (c && d) H) : if c = true then u σ H Q else Q false H := by
  cases c with
  | true => exact h rfl q
  | false => exact q
theorem orJ {u : TT} {σ : L2.St} {H : Hp} {Q : Bool → Hp → Prop} {c d : Bool} (h : c = false → Q d H → u σ H Q) (q : Q (c || d) H) : if c = true then Q true H else u σ H Q := by
  cases c with
  | true => exact q
  | false => exact h rfl q
theorem iteJ {ta tb : TE} {σ : L2.St} {H : Hp} {Q : VK} {c : Bool} {α : Type} (k : α → V) {x y : α} (ha : c = true → Q (k x) H → ta σ H Q) (hb : c = false → Q (k y) H → tb σ H Q) (q : Q (k (if c = true then x else y)) H) : if c = true then ta σ H Q else tb σ H Q := by
  cases c with
  | true => exact ha rfl q
  | false => exact hb rfl q
theorem iteS {A B : Prop} {c : Bool} (ha : c = true → A) (hb : c = false → B) : if c = true then A else B := by
  cases c with
  | true => exact ha rfl
  | false => exact hb rfl
theorem if_t {α : Type} {c : Bool} {a b r : Option α} (hc : c = true) (h : (if c = true then a else b) = r) : a = r := by rw [if_pos hc] at h; exact h
theorem if_f {α : Type} {c : Bool} {a b r : Option α} (hc : c = false) (h : (if c = true then a else b) = r) : b = r := by rw [hc, if_neg Bool.false_ne_true] at h; exact h
end Z
/-! a, b, c = x, y, z; f(k = e, ..). -/
namespace Z
open PySem PySem.Spec PyProof.Rows L2
section
variable {X : Cx} {pos : Pos}
def tPar3 (i j k : Nat) (ta : TA) : TS := fun D σ H => ta σ H fun vs H1 => ∃ u v w, vs = [u, v, w] ∧ D.nx (((σ.set i (some u)).set j (some v)).set k (some w)) H1
theorem vals3 {xs : List V} {us : List Value} {a b c : V} (r : Vals xs us) (e : xs = [a, b, c]) : ∃ x y z, us = [x, y, z] ∧ RelV a x ∧ RelV b y ∧ RelV c z := by
  subst e
  cases r with
  | cons p q => cases q with
    | cons p' q' => cases q' with
      | cons p'' q'' => cases q''; exact ⟨_, _, _, rfl, p, p', p''⟩
/-- three plain local names at once: stored from the right -/
theorem ps_par3 {i j k : Nat} {x y z : Str} {es : List Expr} {ta : TA} {px py pz pt : Pos} {kt k2 : Nat} {pt2 : Pos} (hc : X.calm = true) (hN : X.N.Nodup) (hi : X.N[i]? = some x) (hj : X.N[j]? = some y) (hk : X.N[k]? = some z) (d1 : i ≠ j) (d2 : i ≠ k) (d3 : j ≠ k)
    (hx : X.env.scope.names.lookup x = some .local) (hy : X.env.scope.names.lookup y = some .local) (hz : X.env.scope.names.lookup z = some .local) (ha : PA X es ta)
    (hw : swappedStores [.Tuple [.Name x px, .Name y py, .Name z pz] kt pt] (.Tuple es k2 pt2) X.env = pure (some [x, y, z]))
    (hs : swapsWithSole [.Tuple [.Name x px, .Name y py, .Name z pz] kt pt] (.Tuple es k2 pt2) pos.line X.env = pure false := by rfl) :
    PS X (.Assign [.Tuple [.Name x px, .Name y py, .Name z pz] kt pt] (.Tuple es k2 pt2) pos) (tPar3 i j k ta) := by
  constructor
  intro pins s σ H D I h
  rw [exec_Assign_arm]
  refine wpAny_bind (wpAny_standAt ?_)
  rw [hs]
  refine wpAny_bind (wpAny_pure ?_)
  rw [if_neg (by decide)]
  refine wpAny_bind (Tuple_ (thn (ha.run _ pins s σ H _ I h) ?_))
  rintro us s1 ⟨vs, H1, I1, r1, u, v, w', e1, q1⟩
  obtain ⟨a1, a2, a3, rfl, ru, rv, rw'⟩ := vals3 r1 e1
  refine wpAny_newObj_type ?_ (by show 3 ≤ sizeLine; decide)
  have J : Inv X pins σ H1 { s1 with heap := s1.heap.push { cls := .type "tuple", data := .seq [a1, a2, a3].toArray } } := I1.kept (t' := s1.toks) fun b o e => Heap.get?_push_of_some _ e
  rw [hw]
  refine wpAny_bind (wpAny_pure ?_)
  show wpAny (model X.prog X.w) X.A (do rule "assign.swapped-stores"; let its ← unpackItems (.ref s1.heap.objs.size) 3 none; assignInOrder [fun v => bindName X.env z v, fun v => bindName X.env y v, fun v => bindName X.env x v] its.reverse; pure Flow.next) _ _ _
  refine wpAny_bind (wpAny_rule (wpAny_bind (unpackItems_tuple (items := #[a1, a2, a3]) (I.ok.hd hc) (IsTup.new s1.heap _) ?_)))
  intro h' hx'
  have J3 := J.kept (h' := h') (t' := s1.toks) fun b o e => hx' b o (Nat.ne_of_lt (Heap.lt_size e)) e
  show wpAny _ _ (assignInOrder [fun v => bindName X.env z v, fun v => bindName X.env y v, fun v => bindName X.env x v] [a3, a2, a1] >>= fun _ => pure Flow.next) _ _ _
  refine wpAny_bind (assignInOrder_cons (wpAny_bindName (store_ok J3 hN hk (.inl hz) rw' (fun s2 J4 => ?_) (.inr hz))))
  refine assignInOrder_cons (wpAny_bindName (store_ok J4 hN hj (.inl hy) rv (fun s3 J5 => ?_) (.inr hy)))
  refine assignInOrder_cons (wpAny_bindName (store_ok J5 hN hi (.inl hx) ru (fun s4 J6 => assignInOrder_nil (wpAny_pure ?_)) (.inr hx)))
  rw [List.set_comm _ _ (Ne.symm d1), List.set_comm _ _ (Ne.symm d2), List.set_comm _ _ (Ne.symm d3)] at J6
  first
    | exact ⟨_, H1, J6, q1⟩
    | (rw [List.set_comm _ _ d2] at J6; exact ⟨_, H1, J6, q1⟩)
end

section
variable {X : Cx} {k : Nat} {f : Addr} {fd : FuncData} {ps ks : List Str} {sp : Sp} {E : XK} {x : Str} {p pos : Pos} {kws : List Keyword} {tk : TA} {g : List Value → List Value → List Value} {gV : List V → List V → List V}
/-- f(k = e, ..), no argument by its place -/
def tCallK0 (sp : Sp) (gV : List V → List V → List V) (E : XK) (tk : TA) : TE := fun σ H Q => tk σ H fun zs H1 => sp (gV [] zs) H1 Q E
theorem pe_callK0 {CX : CXT} (F : FnOk X.prog X.w X.K X.mg X.base CX k f fd ps sp) (hr : Room k X.A) (hg : Gl X x) (hm : X.mg x = some (.ref f)) (hk : PySem.W.keepIn X.K (.ref f) = true) (hb : KBinds X.K fd ps ks g gV) (hx : Passes CX X E)
    (hkw : PK X kws tk) (hall : (backToKw pos (keywordEach kws X.env)).all (·.1.isSome) = true := by rfl) (hks : (backToKw pos (keywordEach kws X.env)).filterMap (·.1) = ks := by rfl)
    (hdb : (x == ("__debug__" : Str)) = false := by decide) (hpl : ((backTo pos (starEach [] X.env)).any (·.1) || (backToKw pos (keywordEach kws X.env)).any (·.1.isNone)) = false := by rfl) :
    PE X (.Call (.Name x p) [] kws pos) (tCallK0 sp gV E tk) := by
  constructor
  intro pins s σ H Q I h
  refine wpAny_Call_Name_kw (ld_glob I hg hm ?_ hdb)
  refine PySem.W.callWith_KW0 (h₀ := X.base) I.ok.mod.kin hk hall (thn (hkw.run pos pins s σ H _ I h) ?_) hpl
  rintro ws s1 ⟨zs, H1, I1, rz, q⟩
  refine ⟨I1.kIn, ?_⟩
  rw [hks]
  exact run_fnk F hr hb hx I1 .nil rz q
end
end Z
/-! xs + ys of lists that are read; s[::-1]; what the mirrors' tests stand for. -/
namespace Z
open PySem PySem.Spec PyProof.Rows L2
section
variable {X : Cx}
def rCatR (K : PySem.W.Frag) : R2 := fun x y H Q => ∃ l b xs zs, x = .ref l ∧ y = .ref b ∧ SqL K H l xs ∧ SqL K H b zs ∧ xs.length + zs.length ≤ sizeLine ∧ ∀ p, H p = none → Q (.ref p) (upd H p (.lst (xs ++ zs)))
theorem op_catR : OpR X (binaryOp .Add) (rCatR X.K) := by
  intro pins s σ H x y v u Q I rx ry h
  obtain ⟨l, b, xs, zs, rfl, rfl, h1, h2, hz, q⟩ := h
  cases rx
  cases ry
  obtain ⟨its, r, ⟨o, n, e, ec, ed, es⟩, k1⟩ := I.list h1
  obtain ⟨its2, r2, ⟨o2, n2, e2, ec2, ed2, es2⟩, k2⟩ := I.list h2
  have l1 := r.length
  have l2 := r2.length
  obtain ⟨c1, d1, t1, s1⟩ := o
  obtain ⟨c2, d2, t2, s2⟩ := o2
  simp only at ec es ec2 es2
  subst ec es ec2 es2
  have add := list_addW l b its.toArray its2.toArray n n2 d1 d2 s1 s2 (by simp; omega)
  refine concat_meets ⟨_, e, rfl⟩ ⟨_, e2, rfl⟩ noFill_list_add seq_list_add F.slot_list_add F.entry_list_add
    (F.args_list_add_2 _ _) add ⟨e, e2, ?_⟩
  rw [show its.toArray ++ its2.toArray = (its ++ its2).toArray by simp]
  exact ⟨.ref _, _, I.lnew (t' := s.toks) (r.append r2) (by rw [List.length_append]; omega), rfl, q _ I.fresh⟩
end
/-! ### the text backwards -/
def backS (z : Str) : Str := ⟨z.cps.toList.reverse.toArray⟩
theorem backS_len (z : Str) : (backS z).length = z.length := by
  unfold backS Str.length; simp
theorem back_slice (z : Str) : (⟨((Builtin.Str.strSliceIndices none none (-1) z.length).filterMap (z.cps[·]?)).toArray⟩ : Str) = backS z := by
  unfold Builtin.Str.strSliceIndices backS
  have e : ∀ n : Nat, (if (-1 : Int) > 0 then (0 : Int) else (n : Int) - 1) = (n : Int) - 1 := fun n => if_neg (by decide)
  have e2 : ∀ n : Nat, (if (-1 : Int) > 0 then (n : Int) else -1) = -1 := fun n => if_neg (by decide)
  simp only [e, e2]
  rw [PySem.W.krv_sliceRange, PySem.W.krv_range, List.filterMap_reverse]
  show (⟨((List.range z.cps.size).filterMap (z.cps[·]?)).reverse.toArray⟩ : Str) = _
  rw [PySem.W.krv_all]
section
variable {X : Cx}
def tBackS (te : TE) : TE := fun σ H Q => te σ H fun x H1 => ∃ z, x = .str z ∧ z.length ≤ sizeLine ∧ Q (.str (backS z)) H1
theorem pe_backS {e : Expr} {te : TE} {k : Nat} {p1 p2 p3 pos : Pos} (he : PE X e te) : PE X (.Subscript e (.Slice none none (some (.UnaryOp .USub (.Constant (.int 1) k p1) p2)) p3) pos) (tBackS te) := by
  constructor
  intro pins s σ H Q I h
  refine Subscript_ (thn (he.run pins s σ H _ I h) ?_)
  rintro v s1 ⟨x, H1, I1, r1, z, ex, hz, q⟩
  subst ex
  obtain ⟨tz, rfl⟩ := r1
  have step : PO X (some (.UnaryOp .USub (.Constant (.int 1) k p1) p2)) (tPart (tUn (rU fun i => .int (-i)) (tC (.int 1)))) := po_some (pe_un un_neg pe_int)
  refine wpAny_Slice (thn (po_none.run pins s1 σ H1 (fun o H2 => o = none ∧ H2 = H1) I1 ⟨rfl, rfl⟩) ?_)
  rintro vl s2 ⟨l, H2, I2, pl, rfl, rfl⟩
  refine thn (po_none.run pins s2 σ H2 (fun o H3 => o = none ∧ H3 = H2) I2 ⟨rfl, rfl⟩) ?_
  rintro vu s3 ⟨u, H3, I3, pu, rfl, rfl⟩
  refine thn (step.run pins s3 σ H3 (fun o H4 => o = some (-1) ∧ H4 = H3) I3 ⟨1, rfl, -1, rfl, rfl, rfl⟩) ?_
  rintro vs s4 ⟨o, H4, I4, ps, rfl, rfl⟩
  have J : Inv X pins σ H4 { s4 with heap := s4.heap.push { cls := .type "slice", data := .fields #[vl, vu, vs] } } := I4.kept (t' := s4.toks) fun b ob q => Heap.get?_push_of_some _ q
  obtain ⟨ol, el, el2⟩ := IsPart.raw pl
  obtain ⟨ou, eu, eu2⟩ := IsPart.raw pu
  obtain ⟨os, es, es2⟩ := IsPart.raw ps
  have hl : ol = none := by cases ol with | none => rfl | some _ => cases el2
  have hu : ou = none := by cases ou with | none => rfl | some _ => cases eu2
  obtain ⟨a, rfl⟩ : ∃ a, os = some ((-1 : Int), a) := by
    cases os with
    | none => cases es2
    | some p => obtain ⟨i, t⟩ := p; cases es2; exact ⟨t, rfl⟩
  subst hl hu el eu es
  refine tail_any (ops := [.str z tz, .ref s4.heap.objs.size]) (typeIs_str _ _ _) F.slot_str_getitem.lookup ?_ (by with_unfolding_all rfl)
  refine wpAny_getItem_str_slice (l := none) (u := none) (st := some (-1, a)) ⟨_, Heap.get?_push_size _ rfl, rfl, rfl⟩ rfl ?_
  have b := back_slice z
  have bl := backS_len z
  show Made.post (if ((-1 : Int) == 1 && (Builtin.Str.strSliceIndices none none (-1) z.length).length == z.length) = true then Made.val (.str z tz)
    else Made.str ⟨((Builtin.Str.strSliceIndices none none (-1) z.length).filterMap (z.cps[·]?)).toArray⟩) (EP X pins σ Q) _
  rw [if_neg (by simp), b]
  exact ⟨by rw [bl]; exact hz, .str _, H4, J.tok _, ⟨_, rfl⟩, q⟩
end
end Z
namespace Z
open PySem PySem.Spec PyProof.Rows L2
/-- an int or None -/
def vO : Option Int → V
  | none => .non
  | some i => .int i
def dO : Option Int → PyData
  | none => .none
  | some i => .int i
def imax (i j : Int) : Int := if j > i then j else i
def imin (i j : Int) : Int := if j < i then j else i
def iabs (i : Int) : Int := if i < 0 then -i else i
instance (i j : Int) : Decidable (CPowZ i j) := by unfold CPowZ; infer_instance
instance (i j : Int) : Decidable (CMulW i j) := by unfold CMulW; infer_instance
instance (i j : Int) : Decidable (CDivW i j) := by unfold CDivW; infer_instance
/-- a short text so many times -/
def CRep (z : Str) (n : Int) : Prop := z.length ≤ 16 ∧ -(2 ^ 63) ≤ n ∧ n ≤ 1000000
instance (z : Str) (n : Int) : Decidable (CRep z n) := by unfold CRep; infer_instance
theorem CRep.ok {z : Str} {n : Int} (h : CRep z n) : MulOk z n := mulOk_of 16 1000000 h.1 h.2.2 (by have := h.2.1; omega) (by decide) (by decide)
/-- what repr asks of data -/
def CShow (d : PyData) : Prop := d.showable = true ∧ d.hasDict = false ∧ d.depth ≤ 60 ∧ d.shown.length ≤ sizeLine
instance (d : PyData) : Decidable (CShow d) := by unfold CShow; infer_instance
def CEq (d e : PyData) : Prop := SeqAt.shaped d = true ∧ SeqAt.shaped e = true
instance (d e : PyData) : Decidable (CEq d e) := by unfold CEq; infer_instance
def CRng (i : Int) : Prop := -(2 ^ 62) ≤ i ∧ i < 2 ^ 62
instance (i : Int) : Decidable (CRng i) := by unfold CRng; infer_instance
/-- the ints i, i + 1, .. below j -/
def upto (i j : Int) : List Int := (List.range (j - i).toNat).map fun k => i + (k : Nat)
theorem upto_len (i j : Int) : (upto i j).length = (j - i).toNat := by unfold upto; simp
theorem upto_get {i j : Int} {k : Nat} {x : Int} (h : (upto i j)[k]? = some x) : x = i + k := by
  unfold upto at h
  rw [List.getElem?_map] at h
  by_cases hk : k < (j - i).toNat
  · rw [List.getElem?_range hk] at h; exact (Option.some.inj h).symm
  · rw [List.getElem?_eq_none (by simpa using hk)] at h; cases h
/-- the signs of a text -/
def signsZ (z : Str) : List Str := z.cps.toList.map fun c => ⟨#[c]⟩
theorem signs_len (z : Str) : (signsZ z).length = z.cps.size := by unfold signsZ; simp
theorem signs_get {z : Str} {k : Nat} {x : Str} {c : Nat} (h : (signsZ z)[k]? = some x) (hc : z.cps[k]? = some c) : x = ⟨#[c]⟩ := by
  unfold signsZ at h
  rw [List.getElem?_map, Array.getElem?_toList, hc] at h
  exact (Option.some.inj h).symm
def joinZ (a : Str) (ys : List Str) : Str := Txt.join a ys
def CJoin (a : Str) (ys : List Str) : Prop := (ys.map (·.length)).sum + ys.length * a.length ≤ 16777216
instance (a : Str) (ys : List Str) : Decidable (CJoin a ys) := by unfold CJoin; infer_instance
/-- items by place -/
theorem atI_map {α β : Type} (f : α → β) (xs : List α) (i : Int) : atI (xs.map f) i = (atI xs i).map f := by
  unfold atI
  rw [List.length_map]
  cases ixN xs.length i with
  | none => rfl
  | some j => simp
theorem atI_f {α : Type} {f : α → V} {xs : List α} {i : Int} {x : α} (h : atI xs i = some x) : atI (xs.map f) i = some (f x) := by rw [atI_map, h]; rfl
def cutL {α : Type} (xs : List α) (lo hi : Option Int) : List α := (xs.drop (HT.sIx xs.length 0 lo)).take (HT.sIx xs.length xs.length hi - HT.sIx xs.length 0 lo)
theorem cut_map {α : Type} (f : α → V) (xs : List α) (lo hi : Option Int) : cutV (xs.map f) lo hi = (cutL xs lo hi).map f := by
  unfold cutV cutL
  rw [List.length_map, List.map_take, List.map_drop]
/-- xs[i] = x -/
def setI {α : Type} (xs : List α) (i : Int) (x : α) : Option (List α) := (ixN xs.length i).map fun j => xs.set j x
theorem setI_f {α : Type} {f : α → V} {xs ys : List α} {i : Int} {x : α} (h : setI xs i x = some ys) : ∃ j, ixN (xs.map f).length i = some j ∧ (xs.map f).set j (f x) = ys.map f := by
  unfold setI at h
  rw [List.length_map]
  cases e : ixN xs.length i with
  | none => rw [e] at h; cases h
  | some j =>
    rw [e] at h
    refine ⟨j, rfl, ?_⟩
    have h' : xs.set j x = ys := Option.some.inj h
    rw [← h', List.map_set]

section
variable {K : PySem.W.Frag} {L L' : DL} {O O' : OL} {H H' : Hp} {vs us xs : List V} {ds es : List PyData} {v : V} {d : PyData} {p : Addr}
theorem Its.oint (o : Option Int) : Its K L [vO o] [dO o] := by
  cases o with
  | none => exact Its.non
  | some i => exact Its.int i
theorem Its.mapI {α : Type} {f : α → V} {g : α → PyData} (h : ∀ x, Its K L [f x] [g x]) : ∀ xs : List α, Its K L (xs.map f) (xs.map g)
  | [] => .nil
  | x :: r => .cons (h x) (Its.mapI h r)
/-- own lists taken by their places, those behind the first n stay -/
theorem sel_mem {α : Type} {n : Nat} {ks : List Nat} {l : List α} : ∀ {x : α}, x ∈ ks.filterMap (fun k => l[k]?) ++ l.drop n → x ∈ l := fun {x} h => by
  rcases List.mem_append.mp h with h | h
  · obtain ⟨k, _, e⟩ := List.mem_filterMap.mp h
    exact List.mem_of_getElem? e
  · exact List.mem_of_mem_drop h
theorem sel_nodup {α : Type} {n : Nat} {l : List α} (hl : l.Nodup) : ∀ {ks : List Nat}, ks.Nodup → (∀ k ∈ ks, k < n) → (ks.filterMap (fun k => l[k]?) ++ l.drop n).Nodup
  | [], _, _ => by simpa using hl.sublist (List.drop_sublist n l)
  | k :: ks, nd, hk => by
    have nd' := List.nodup_cons.mp nd
    have ih := sel_nodup (n := n) hl nd'.2 fun j hj => hk j (List.mem_cons_of_mem _ hj)
    cases e : l[k]? with
    | none => simpa [List.filterMap_cons, e] using ih
    | some x =>
      rw [List.filterMap_cons, e]
      refine List.nodup_cons.mpr ⟨fun h => ?_, ih⟩
      rcases List.mem_append.mp h with h | h
      · obtain ⟨j, hj, ej⟩ := List.mem_filterMap.mp h
        have : j = k := nd_ix hl ej e
        subst this
        exact nd'.1 hj
      · obtain ⟨j, hj, ej⟩ := List.mem_iff_getElem.mp h
        rw [List.getElem_drop] at ej
        rw [List.length_drop] at hj
        have e2 : l[n + j]? = some x := by rw [List.getElem?_eq_getElem (by omega), ej]
        have := nd_ix hl e2 e
        have := hk k List.mem_cons_self
        omega
theorem St.sel (S : St K O L H) (n : Nat) (ks : List Nat) (nd : ks.Nodup := by decide) (hk : ∀ k ∈ ks, k < n := by decide) : St K (ks.filterMap (fun k => O[k]?) ++ O.drop n) L H := by
  obtain ⟨G, a, b, c, f⟩ := S.ex
  refine ⟨G, a, b, ?_, fun q hq => f q (sel_mem hq)⟩
  have e : (ks.filterMap (fun k => O[k]?) ++ O.drop n).map (·.1) = ks.filterMap (fun k => (O.map (·.1))[k]?) ++ (O.map (·.1)).drop n := by
    rw [List.map_append, List.map_drop, List.map_filterMap]
    simp only [List.getElem?_map]
  rw [e]
  exact sel_nodup c nd hk
/-- the telling: the first k stay, those up to n go -/
theorem St.cut (S : St K O L H) (k n : Nat) : St K O (L.take k ++ L.drop n) H := S.less fun e he => by
  rcases List.mem_append.mp he with h | h
  · exact List.mem_of_mem_take h
  · exact List.mem_of_mem_drop h
theorem St.gone (S : St K O L H) (n : Nat) : St K O (L.drop n) H := S.less fun e he => List.mem_of_mem_drop he
theorem St.keep1 (S : St K O L H) (n : Nat) (i : Its K L vs ds) : St K O ((vs, ds) :: L.drop n) H := (S.more i).less fun e he => by
  rcases List.mem_cons.mp he with h | h
  · rw [h]; exact List.mem_cons_self
  · exact List.mem_cons_of_mem _ (List.mem_of_mem_drop h)
/-- own items: one more, one stored, the last one gone -/
theorem St.app {α : Type} {f : α → V} {k : Nat} {ys : List α} {x : α} (S : St K O L H) (hk : O[k]? = some (p, .lst (ys.map f))) : St K (O.set k (p, .lst ((ys ++ [x]).map f))) L (upd H p (.lst (ys.map f ++ [f x]))) := by
  rw [List.map_append]
  exact S.put hk
/-- a list of a tuple's items -/
theorem St.split (S : St K O L H) (i : Its K L xs (d :: ds)) : ∃ v vs, xs = v :: vs ∧ St K O (([v], [d]) :: (vs, ds) :: L) H := by
  obtain ⟨G, a, b, c, f⟩ := S.ex
  have h := i G b
  cases h with
  | cons h1 h2 =>
    refine ⟨_, _, rfl, G, a, fun q hq => ?_, c, f⟩
    rcases List.mem_cons.mp hq with z | hq
    · rw [z]; exact .cons h1 .nil
    · rcases List.mem_cons.mp hq with z | hq
      · rw [z]; exact h2
      · exact b q hq
theorem St.nilOf (S : St K O L H) (i : Its K L xs []) : xs = [] := by
  have := dpa_len (S.dpa i)
  exact List.length_eq_zero_iff.mp this
theorem St.isO {j : Option Int} (S : St K O L H) (i : Its K L [v] [dO j]) : v = vO j := by
  cases j with
  | none => exact S.isNon i
  | some k => exact S.isInt i
/-- the item at a place of data -/
theorem St.itemAt {i : Int} (S : St K O L H) (hl : Its K L xs ds) (hd : atI ds i = some d) : ∃ v, atI xs i = some v ∧ St K O (([v], [d]) :: L) H := by
  obtain ⟨G, a, b, c, f⟩ := S.ex
  have h := hl G b
  have len := dpa_len h
  unfold atI at hd ⊢
  rw [len]
  cases e : ixN ds.length i with
  | none => rw [e] at hd; cases hd
  | some j =>
    rw [e] at hd
    have hd' : ds[j]? = some d := hd
    have hj : j < xs.length := by rw [len]; exact (List.getElem?_eq_some_iff.mp hd').1
    refine ⟨xs[j], by simp [hj], G, a, fun q hq => ?_, c, f⟩
    rcases List.mem_cons.mp hq with z | hq
    · rw [z]; exact .cons (dpa_get h (List.getElem?_eq_getElem hj) hd') .nil
    · exact b q hq
theorem St.nth {i : Nat} (S : St K O L H) (hl : Its K L xs ds) (hx : xs[i]? = some v) (hd : ds[i]? = some d) : St K O (([v], [d]) :: L) H := S.more (hl.get hx hd)
end
/-- isinstance where the kinds are plain -/
theorem kitYes {K : PySem.W.Frag} {a : String} : PySem.W.kitOne K (.type a) (.type a) = some true := if_pos (beq_self_eq_true _)
end Z
/-! What is walked, as it is read at each turn; calls by names alone; how loops end. -/
namespace Z
open PySem PySem.Spec PyProof.Rows L2
section
variable {K : PySem.W.Frag} {a b : Addr} {n : Nat}
theorem walkL : Walk (Itl K a) n (fun H => ∃ xs, SqL K H a xs ∧ xs.length = n) (fun i H v H' => H' = H ∧ ∀ xs, SqL K H a xs → xs[i]? = some v) :=
  ⟨fun i H hi ⟨xs, q, e⟩ => ⟨xs, xs[i]'(by omega), q, by simp⟩, fun H ⟨xs, q, e⟩ => ⟨xs, q, Nat.le_of_eq e⟩, fun _ _ _ _ _ _ y => y⟩
theorem walkT : Walk (Itt K a) n (fun H => ∃ xs, SqT K H a xs ∧ xs.length = n) (fun i H v H' => H' = H ∧ ∀ xs, SqT K H a xs → xs[i]? = some v) :=
  ⟨fun i H hi ⟨xs, q, e⟩ => ⟨xs, xs[i]'(by omega), q, by simp⟩, fun H ⟨xs, q, e⟩ => ⟨xs, q, Nat.le_of_eq e⟩, fun _ _ _ _ _ _ y => y⟩
theorem walkE : Walk (Ite K a) n (fun H => ∃ xs, SqL K H a xs ∧ xs.length = n) (fun i H v H' => ∃ T x, v = .ref T ∧ H T = none ∧ H' = upd H T (.tup [.int (i : Nat), x]) ∧ ∀ xs, SqL K H a xs → xs[i]? = some x) :=
  ⟨fun i H hi ⟨xs, q, e⟩ => ⟨xs, xs[i]'(by omega), q, by simp⟩, fun H ⟨xs, q, e⟩ => ⟨xs, q, Nat.le_of_eq e⟩, fun _ _ _ _ _ _ y => y⟩
theorem walkZ : Walk (Itz K a b) n (fun H => ∃ xs ys, SqL K H a xs ∧ SqL K H b ys ∧ min xs.length ys.length = n)
    (fun i H v H' => ∃ T x y, v = .ref T ∧ H T = none ∧ H' = upd H T (.tup [x, y]) ∧ (∀ xs, SqL K H a xs → xs[i]? = some x) ∧ ∀ ys, SqL K H b ys → ys[i]? = some y) := by
  refine ⟨?_, ?_, fun _ _ _ _ _ _ y => y⟩
  · rintro i H hi ⟨xs, ys, q1, q2, e⟩
    have h1 : i < xs.length := by omega
    have h2 : i < ys.length := by omega
    exact ⟨xs, ys, xs[i], ys[i], q1, q2, by simp [h1], by simp [h2]⟩
  · rintro H ⟨xs, ys, q1, q2, e⟩
    exact ⟨xs, ys, q1, q2, by omega⟩
end
/-- (0, x), (1, y), .. -/
def enumFrom {α : Type} : Int → List α → List (Int × α)
  | _, [] => []
  | k, x :: r => (k, x) :: enumFrom (k + 1) r
def enumZ {α : Type} (xs : List α) : List (Int × α) := enumFrom 0 xs
theorem enumFrom_len {α : Type} : ∀ (k : Int) (xs : List α), (enumFrom k xs).length = xs.length
  | _, [] => rfl
  | k, x :: r => by show (enumFrom (k + 1) r).length + 1 = r.length + 1; rw [enumFrom_len]
theorem enumZ_len {α : Type} (xs : List α) : (enumZ xs).length = xs.length := enumFrom_len 0 xs
theorem enumFrom_get {α : Type} : ∀ (k : Int) (xs : List α) (i : Nat) (q : Int × α), (enumFrom k xs)[i]? = some q → q.1 = k + i ∧ xs[i]? = some q.2
  | _, [], i, q, h => by simp [enumFrom] at h
  | k, x :: r, 0, q, h => by
    have e : (k, x) = q := Option.some.inj h
    subst e; simp
  | k, x :: r, i + 1, q, h => by
    have h' : (enumFrom (k + 1) r)[i]? = some q := h
    obtain ⟨h1, h2⟩ := enumFrom_get (k + 1) r i q h'
    refine ⟨?_, by simpa using h2⟩
    rw [h1]; omega
theorem enumZ_get {α : Type} {xs : List α} {i : Nat} {q : Int × α} (h : (enumZ xs)[i]? = some q) : q.1 = (i : Int) ∧ xs[i]? = some q.2 := by
  have := enumFrom_get 0 xs i q h
  exact ⟨by omega, this.2⟩
theorem zip_get {α β : Type} {xs : List α} {ys : List β} {i : Nat} {q : α × β} (h : (xs.zip ys)[i]? = some q) : xs[i]? = some q.1 ∧ ys[i]? = some q.2 := by
  rw [List.getElem?_zip_eq_some] at h; exact h
theorem map_at {α β : Type} {f : α → β} {xs : List α} {i : Nat} {x : α} (h : xs[i]? = some x) : (xs.map f)[i]? = some (f x) := by rw [List.getElem?_map, h]; rfl
theorem same_at {α : Type} {o : Option α} {x y : α} (h1 : o = some x) (h2 : o = some y) : x = y := Option.some.inj (h1.symm.trans h2)

/-- behind a loop of a def; behind a loop within a loop -/
def after {S R : Type} (res : Step S R) (k : S → Option R) : Option R :=
  match res with
  | .go s => k s
  | .ret r => some r
  | .out _ => none
def afterS {S S' R : Type} (res : Step S R) (k : S → Option (Step S' R)) : Option (Step S' R) :=
  match res with
  | .go s => k s
  | .ret r => some (.ret r)
  | .out _ => none

section
variable {X : Cx} {k : Nat} {f : Addr} {fd : FuncData} {ps ks : List Str} {sp : Sp} {E : XK} {x : Str} {p pos : Pos} {kws : List Keyword} {tk : TA} {π : List Nat}
def perm {α : Type} (d : α) (π : List Nat) (l : List α) : List α := π.map fun i => l.getD i d
theorem perm_vals {zs : List V} {ws : List Value} (r : Vals zs ws) : ∀ π : List Nat, Vals (perm .non π zs) (perm .none π ws)
  | [] => .nil
  | i :: π => .cons (by
      show RelV (zs.getD i V.non) (ws.getD i Value.none)
      cases e : zs[i]? with
      | none => rw [List.getD_eq_getElem?_getD, List.getD_eq_getElem?_getD, e, r.none_of e]; rfl
      | some v =>
        obtain ⟨u, hu, ru⟩ := r.get e
        rw [List.getD_eq_getElem?_getD, List.getD_eq_getElem?_getD, e, hu]
        exact ru) (perm_vals r π)
/-- how a call by names alone binds -/
def KB (fd : FuncData) (ps ks : List Str) (π : List Nat) : Prop := ∀ (s : Shared) (ws : List Value), ws.length = ks.length → BindsTo s fd ⟨[], ks.zip ws⟩ (ps.zip (perm .none π ws))
theorem kb_of {K : PySem.W.Frag} {x qual : Str} {st : Stmt} {f : Addr} {fd : FuncData} {ps ks : List Str} {π : List Nat} (F : Fun K x qual st f fd)
    (h : ∀ (kV doc pm : Value) (an : Option Addr) (cdv ct : Value) (ws : List Value), ws.length = ks.length → bindArgs (PySem.W.fnOf x qual (defArgs st) (defBody st) (defScope st) .none kV doc pm an cdv ct) ⟨[], ks.zip ws⟩ = pure (ps.zip (perm .none π ws))) : KB fd ps ks π := by
  obtain ⟨oc, od, kV, doc, pm, an, cdv, ct, osl, rfl, lk, hcd⟩ := F.ex
  exact fun s ws hl => .of_eq (h kV doc pm an cdv ct ws hl)
def tCallP (sp : Sp) (π : List Nat) (n : Nat) (E : XK) (tk : TA) : TE := fun σ H Q => tk σ H fun zs H1 => zs.length = n ∧ sp (perm .non π zs) H1 Q E
/-- f(k = e, ..) -/
theorem pe_callP (F : FnOk X.prog X.w X.K X.mg X.base CX0 k f fd ps sp) (hr : Room k X.A) (hg : Gl X x) (hm : X.mg x = some (.ref f)) (hk : PySem.W.keepIn X.K (.ref f) = true) (hb : KB fd ps ks π)
    (hkw : PK X kws tk) (hall : (backToKw pos (keywordEach kws X.env)).all (·.1.isSome) = true := by rfl) (hks : (backToKw pos (keywordEach kws X.env)).filterMap (·.1) = ks := by rfl)
    (hdb : (x == ("__debug__" : Str)) = false := by decide) (hpl : ((backTo pos (starEach [] X.env)).any (·.1) || (backToKw pos (keywordEach kws X.env)).any (·.1.isNone)) = false := by rfl) :
    PE X (.Call (.Name x p) [] kws pos) (tCallP sp π ks.length E tk) := by
  constructor
  intro pins s σ H Q I h
  refine wpAny_Call_Name_kw (ld_glob I hg hm ?_ hdb)
  refine PySem.W.callWith_KW0 (h₀ := X.base) I.ok.mod.kin hk hall (thn (hkw.run pos pins s σ H _ I h) ?_) hpl
  rintro ws s1 ⟨zs, H1, I1, rz, hl, q⟩
  refine ⟨I1.kIn, ?_⟩
  rw [hks]
  have hw : ws.length = ks.length := by rw [← rz.length]; exact hl
  refine wpAny_call (codeAny_mono (F.run X.A X.stack s1 H1 ⟨[], ks.zip ws⟩ _ _ Q E hr I1.env0 (hb s1 ws hw) (perm_vals rz π) q) ?_)
  intro res s' hq
  cases res with
  | error e => exact False.elim hq
  | ok fl => cases fl with
    | ret u => exact I1.after hq
    | next => exact False.elim hq
    | brk => exact False.elim hq
    | cont => exact False.elim hq
end
end Z
namespace Z
open PySem PySem.Spec PyProof.Rows L2
/-- more turns than any loop here takes -/
def FUEL : Nat := 1000000
theorem joinE' {t : TE} {σ : L2.St} {H : Hp} {Q : VK} (P : V → Hp → Prop) (h2 : (∀ v H', P v H' → Q v H') → t σ H Q) (h1 : ∀ v H', P v H' → Q v H') : t σ H Q := h2 h1
theorem joinB' {t : TT} {σ : L2.St} {H : Hp} {Q : Bool → Hp → Prop} (P : Bool → Hp → Prop) (h2 : (∀ b H', P b H' → Q b H') → t σ H Q) (h1 : ∀ b H', P b H' → Q b H') : t σ H Q := h2 h1
theorem keepE {t : TE} {σ : L2.St} {H : Hp} {Q : VK} (v : V) (h2 : Q v H → t σ H Q) (h1 : Q v H) : t σ H Q := h2 h1
theorem keepB {t : TT} {σ : L2.St} {H : Hp} {Q : Bool → Hp → Prop} (b : Bool) (h2 : Q b H → t σ H Q) (h1 : Q b H) : t σ H Q := h2 h1
theorem joinQ {t u : TS} {D : Ends} {σ : L2.St} {H : Hp} (P : L2.St → Hp → Prop) (h2 : (∀ σ' H', P σ' H' → u D σ' H') → t { D with nx := u D } σ H) (h1 : ∀ σ' H', P σ' H' → u D σ' H') : tSeq t u D σ H := h2 h1
theorem andJV {ub : TE} {σ : L2.St} {H : Hp} {Q : VK} {c d : Bool} (h : c = true → Q (.bl d) H → ub σ H Q) (q : Q (.bl (c && d)) H) : if c = true then ub σ H Q else Q (.bl false) H := by
  cases c with
  | true => exact h rfl q
  | false => exact q
theorem orJV {ub : TE} {σ : L2.St} {H : Hp} {Q : VK} {c d : Bool} (h : c = false → Q (.bl d) H → ub σ H Q) (q : Q (.bl (c || d)) H) : if c = true then Q (.bl true) H else ub σ H Q := by
  cases c with
  | true => exact q
  | false => exact h rfl q
theorem chainJ {G : Prop} {H : Hp} {Q : VK} {c d : Bool} (h : c = true → Q (.bl d) H → G) (q : Q (.bl (c && d)) H) : if c = true then G else Q (.bl false) H := by
  cases c with
  | true => exact h rfl q
  | false => exact q
def lmax : List Int → Int
  | [] => 0
  | x :: r => r.foldl (fun a b => if b > a then b else a) x
def lmin : List Int → Int
  | [] => 0
  | x :: r => r.foldl (fun a b => if b < a then b else a) x
theorem foldmax (r : List Int) : ∀ x, (x ≤ r.foldl (fun a b => if b > a then b else a) x ∧ ∀ y ∈ r, y ≤ r.foldl (fun a b => if b > a then b else a) x) ∧ (r.foldl (fun a b => if b > a then b else a) x = x ∨ r.foldl (fun a b => if b > a then b else a) x ∈ r) := by
  induction r with
  | nil => intro x; simp
  | cons a r ih =>
    intro x
    simp only [List.foldl_cons]
    obtain ⟨⟨h1, h2⟩, h3⟩ := ih (if a > x then a else x)
    have hx : x ≤ (if a > x then a else x) := by split <;> omega
    have ha : a ≤ (if a > x then a else x) := by split <;> omega
    refine ⟨⟨by omega, fun y hy => ?_⟩, ?_⟩
    · rcases List.mem_cons.mp hy with e | hy
      · subst e; omega
      · exact h2 y hy
    · rcases h3 with e | e
      · rw [e]
        split
        · exact .inr List.mem_cons_self
        · exact .inl rfl
      · exact .inr (List.mem_cons_of_mem _ e)
theorem foldmin (r : List Int) : ∀ x, (r.foldl (fun a b => if b < a then b else a) x ≤ x ∧ ∀ y ∈ r, r.foldl (fun a b => if b < a then b else a) x ≤ y) ∧ (r.foldl (fun a b => if b < a then b else a) x = x ∨ r.foldl (fun a b => if b < a then b else a) x ∈ r) := by
  induction r with
  | nil => intro x; simp
  | cons a r ih =>
    intro x
    simp only [List.foldl_cons]
    obtain ⟨⟨h1, h2⟩, h3⟩ := ih (if a < x then a else x)
    have hx : (if a < x then a else x) ≤ x := by split <;> omega
    have ha : (if a < x then a else x) ≤ a := by split <;> omega
    refine ⟨⟨by omega, fun y hy => ?_⟩, ?_⟩
    · rcases List.mem_cons.mp hy with e | hy
      · subst e; omega
      · exact h2 y hy
    · rcases h3 with e | e
      · rw [e]
        split
        · exact .inr List.mem_cons_self
        · exact .inl rfl
      · exact .inr (List.mem_cons_of_mem _ e)
theorem lmax_of {l : List Int} {m : Int} (h1 : m ∈ l) (h2 : ∀ y, y ∈ l → y ≤ m) : m = lmax l := by
  cases l with
  | nil => cases h1
  | cons x r =>
    obtain ⟨⟨a, b⟩, c⟩ := foldmax r x
    have ge : m ≤ lmax (x :: r) := by
      rcases List.mem_cons.mp h1 with e | e
      · rw [e]; exact a
      · exact b m e
    have le : lmax (x :: r) ≤ m := by
      rcases c with e | e
      · show r.foldl _ x ≤ m
        rw [e]; exact h2 x List.mem_cons_self
      · exact h2 _ (List.mem_cons_of_mem _ e)
    omega
theorem lmin_of {l : List Int} {m : Int} (h1 : m ∈ l) (h2 : ∀ y, y ∈ l → m ≤ y) : m = lmin l := by
  cases l with
  | nil => cases h1
  | cons x r =>
    obtain ⟨⟨a, b⟩, c⟩ := foldmin r x
    have ge : lmin (x :: r) ≤ m := by
      rcases List.mem_cons.mp h1 with e | e
      · rw [e]; exact a
      · exact b m e
    have le : m ≤ lmin (x :: r) := by
      rcases c with e | e
      · show m ≤ r.foldl _ x
        rw [e]; exact h2 x List.mem_cons_self
      · exact h2 _ (List.mem_cons_of_mem _ e)
    omega
theorem at_lit {α : Type} {xs : List α} {j : Nat} {x : α} (h : xs[j]? = some x) : atI xs (j : Int) = some x := atI_nat h
theorem atI_d {α : Type} {g : α → PyData} {xs : List α} {i : Int} {x : α} (h : atI xs i = some x) : atI (xs.map g) i = some (g x) := by rw [atI_map, h]; rfl
section
variable {K : PySem.W.Frag} {L L' : DL} {O O' : OL} {H H' : Hp} {vs us xs : List V} {ds es : List PyData} {v : V} {d : PyData} {p a : Addr}
theorem Its.weak {e : List V × List PyData} (i : Its K L vs ds) : Its K (e :: L) vs ds := fun G hG => i G fun q hq => hG q (List.mem_cons_of_mem _ hq)
theorem St.lenOf (S : St K O L H) (i : Its K L vs ds) : vs.length = ds.length := dpa_len (S.dpa i)
theorem tyL (h : SqL K H a xs) : TyX K H (.ref a) (.type "list") := by
  rcases h with (h | ⟨o, h⟩) | ⟨o, its, n, hk, hc, _⟩
  · exact .base (.lst h)
  · exact .base (.frz h)
  · exact .kList hk hc
/-- what a walk asks of its list at each turn -/
theorem ownL {n : Nat} (S : St K O L H) (h : (p, .lst xs) ∈ O) (e : xs.length = n) : ∃ ys, SqL K H p ys ∧ ys.length = n := by
  obtain ⟨k, hk⟩ := List.mem_iff_getElem?.mp h
  exact ⟨xs, S.atL hk, e⟩
theorem dataL {n : Nat} (S : St K O L H) (h : ([V.ref a], [PyData.list ds]) ∈ L) (e : ds.length = n) : ∃ ys, SqL K H a ys ∧ ys.length = n := by
  obtain ⟨xs, q, l, _⟩ := S.seqAt (.mem h)
  exact ⟨xs, q, l.trans e⟩
theorem both {b : Addr} {m n : Nat} (h1 : ∃ xs, SqL K H a xs ∧ xs.length = m) (h2 : ∃ ys, SqL K H b ys ∧ ys.length = n) : ∃ xs ys, SqL K H a xs ∧ SqL K H b ys ∧ min xs.length ys.length = min m n := by
  obtain ⟨xs, q1, e1⟩ := h1
  obtain ⟨ys, q2, e2⟩ := h2
  exact ⟨xs, ys, q1, q2, by rw [e1, e2]⟩
end
end Z
/-! zip of three lists. -/
namespace Z
open PySem PySem.Spec PyProof.Rows L2
theorem neA {a b : Nat} (h : a < b ∨ b < a) : a ≠ b := by omega
theorem notin2 {x p q : Nat} (h1 : x < p ∨ p < x) (h2 : x < q ∨ q < x) : x ∉ [p, q] := by
  intro h
  rcases List.mem_cons.mp h with e | e
  · omega
  · have := List.mem_singleton.mp e; omega
theorem sep3 (n a b c : Nat) (la : a < n) (lb : b < n) (lc : c < n) : ZipSep3 (n + 5) (n + 3) (n + 4) n (n + 1) (n + 2) [n, a] [n + 1, b] [n + 2, c] := by
  constructor <;> first | exact List.mem_cons_self | (refine neA ?_; omega) | (refine notin2 ?_ ?_ <;> omega)
def Itz3 (K : PySem.W.Frag) (a b c : Addr) : It :=
  ⟨fun i H => ∃ (xs ys zs : List V) (x y z : V), SqL K H a xs ∧ SqL K H b ys ∧ SqL K H c zs ∧ xs[i]? = some x ∧ ys[i]? = some y ∧ zs[i]? = some z,
    fun i H v H' => ∃ T x y z, v = .ref T ∧ H T = none ∧ H' = upd H T (.tup [x, y, z]) ∧ (∀ xs, SqL K H a xs → xs[i]? = some x) ∧ (∀ ys, SqL K H b ys → ys[i]? = some y) ∧ ∀ zs, SqL K H c zs → zs[i]? = some z,
    fun i H => ∃ xs ys zs : List V, SqL K H a xs ∧ SqL K H b ys ∧ SqL K H c zs ∧ i ≤ xs.length ∧ i ≤ ys.length ∧ i ≤ zs.length ∧ (i = xs.length ∨ i = ys.length ∨ i = zs.length)⟩
theorem turn_zip3 {P : Program} {w : World} {K : PySem.W.Frag} {elts : List Expr} {kk : Nat} {tpos : Pos} {a b c z TI TO i1 i2 i3 : Addr} (S : ZipSep3 z TI TO i1 i2 i3 [i1, a] [i2, b] [i3, c]) :
    Turn P w K (.Tuple elts kk tpos) (Itz3 K a b c) [z, TI, TO, i1, i2, i3] z (fun i h => IsZip h z TI TO .none ∧ IsTupOf3 h TI (.ref i1) (.ref i2) (.ref i3) ∧ (∃ x y u, IsTupOf3 h TO x y u) ∧ h.IsListIter i1 a i ∧ h.IsListIter i2 b i ∧ h.IsListIter i3 c i) where
  mem := by simp
  obj := fun i h st e he => by
    obtain ⟨hz, hTI, ⟨x, y, u, hTO⟩, ⟨o1, e1, _, d1⟩, ⟨o2, e2, _, d2⟩, ⟨o3, e3, _, d3⟩⟩ := st
    have e' : e = z ∨ e = TI ∨ e = TO ∨ e = i1 ∨ e = i2 ∨ e = i3 := by simpa using he
    rcases e' with q | q | q | q | q | q
    · rw [q]; exact ⟨_, hz, fun v q => nomatch q⟩
    · rw [q]; exact ⟨_, hTI, fun v q => nomatch q⟩
    · rw [q]; exact ⟨_, hTO, fun v q => nomatch q⟩
    · rw [q]; exact ⟨o1, e1, fun v q => by rw [d1] at q; cases q⟩
    · rw [q]; exact ⟨o2, e2, fun v q => by rw [d2] at q; cases q⟩
    · rw [q]; exact ⟨o3, e3, fun v q => by rw [d3] at q; cases q⟩
  keep := fun i h h' st k => by
    obtain ⟨hz, hTI, ⟨x, y, u, hTO⟩, h1, h2, h3⟩ := st
    exact ⟨k z (by simp) _ hz, k TI (by simp) _ hTI, ⟨x, y, u, k TO (by simp) _ hTO⟩, h1.at fun o q => k i1 (by simp) o q, h2.at fun o q => k i2 (by simp) o q, h3.at fun o q => k i3 (by simp) o q⟩
  item := by
    intro X hP hw hK hc i pins s σ H E I hf st hg
    subst hP hw hK
    obtain ⟨hz, hTI, ⟨x0, y0, u0, hTO⟩, h1, h2, h3⟩ := st
    obtain ⟨xs, ys, zs, x, y, u, hqx, hqy, hqz, hx, hy, hu⟩ := hg
    obtain ⟨its, rv, p, _⟩ := I.list hqx
    obtain ⟨its2, rv2, p2, _⟩ := I.list hqy
    obtain ⟨its3, rv3, p3, _⟩ := I.list hqz
    obtain ⟨w1, hw1, ru1⟩ := rv.get hx
    obtain ⟨w2, hw2, ru2⟩ := rv2.get hy
    obtain ⟨w3, hw3, ru3⟩ := rv3.get hu
    have hzl : z < s.heap.objs.size := Heap.lt_size hz
    have hh : X.A.in1.handled = none := I.ok.hd hc
    have na : a ≠ i1 ∧ b ≠ i2 ∧ c ≠ i3 := by
      refine ⟨fun e => ?_, fun e => ?_, fun e => ?_⟩
      · obtain ⟨_, q1, q2, _⟩ := h1; obtain ⟨_, g1, g2, _⟩ := p.isList; rw [e, q1] at g1; cases g1; rw [q2] at g2; simp at g2
      · obtain ⟨_, q1, q2, _⟩ := h2; obtain ⟨_, g1, g2, _⟩ := p2.isList; rw [e, q1] at g1; cases g1; rw [q2] at g2; simp at g2
      · obtain ⟨_, q1, q2, _⟩ := h3; obtain ⟨_, g1, g2, _⟩ := p3.isList; rw [e, q1] at g1; cases g1; rw [q2] at g2; simp at g2
    have l1 : i < its.toArray.size := by simpa using (List.getElem?_eq_some_iff.mp hw1).1
    have l2 : i < its2.toArray.size := by simpa using (List.getElem?_eq_some_iff.mp hw2).1
    have l3 : i < its3.toArray.size := by simpa using (List.getElem?_eq_some_iff.mp hw3).1
    refine wpAny_pyNext_zipD3_item S (.list hh i1 a na.1 its.toArray) (.list hh i2 b na.2.1 its2.toArray) (.list hh i3 c na.2.2 its3.toArray) hz hTI hTO ⟨h1, p.isList⟩ ⟨h2, p2.isList⟩ ⟨h3, p3.isList⟩ l1 l2 l3 fun v1 v2 v3 h' tk g1 g2 g3 z' TO' d1 d2 d3 hT hsz hk => ?_
    have e1 : v1 = w1 := Option.some.inj (g1.symm.trans (by simpa using hw1))
    have e2 : v2 = w2 := Option.some.inj (g2.symm.trans (by simpa using hw2))
    have e3 : v3 = w3 := Option.some.inj (g3.symm.trans (by simpa using hw3))
    subst e1 e2 e3
    refine ⟨_, rfl, wpAny_letOwnedTupleGo_zip (s := { s with heap := h', toks := tk }) z' fun h'' z'' sb => ?_⟩
    have hT2 : h''.get? s.heap.objs.size = some { cls := .type "tuple", data := .seq #[v1, v2, v3] } := (sb.2 _ (Nat.ne_of_gt hzl)).trans hT
    have new : ObjOk X.prog X.w (upd H s.heap.objs.size (.tup [x, y, u])) h'' s.heap.objs.size (.tup [x, y, u]) :=
      ⟨by show 3 ≤ sizeLine; decide, [v1, v2, v3], .cons ru1 (.cons ru2 (.cons ru3 .nil)), ⟨_, hT2, rfl, _, rfl⟩⟩
    have I1 : Inv X pins σ (upd H s.heap.objs.size (.tup [x, y, u])) { s with heap := h'', toks := tk } :=
      I.turnedNew (t' := tk) (ch := [z, TI, TO, i1, i2, i3]) (fun e o hb q => (sb.2 e (fun q' => hb (by simp [q']))).trans (hk e o (fun q' => hb (by simp [q'])) (fun q' => hb (by simp [q'])) (fun q' => hb (by simp [q'])) (fun q' => hb (by simp [q'])) (fun q' => hb (by simp [q'])) q)) hf (Nat.le_refl _) new
    refine ⟨.ref s.heap.objs.size, _, I1, rfl, ⟨_, x, y, u, rfl, I.hok.fresh (Nat.le_refl _), rfl, fun l hl => by rw [I.list_inj hl hqx]; exact hx, fun l hl => by rw [I.list_inj hl hqy]; exact hy, fun l hl => by rw [I.list_inj hl hqz]; exact hu⟩, ⟨z'', ?_, ⟨v1, v2, v3, ?_⟩, ?_, ?_, ?_⟩, fun e he => ?_⟩
    · exact (sb.2 _ S.TIz).trans (hk _ _ S.TIz S.TITO S.TIi1 S.TIi2 S.TIi3 hTI)
    · exact (sb.2 _ S.TOz).trans TO'
    · exact d1.1.at fun o q => (sb.2 _ S.zi1.symm).trans q
    · exact d2.1.at fun o q => (sb.2 _ S.zi2.symm).trans q
    · exact d3.1.at fun o q => (sb.2 _ S.zi3.symm).trans q
    · have hlt : e < s.heap.objs.size := by
        have e' : e = z ∨ e = TI ∨ e = TO ∨ e = i1 ∨ e = i2 ∨ e = i3 := by simpa using he
        rcases e' with q | q | q | q | q | q
        · rw [q]; exact hzl
        · rw [q]; exact Heap.lt_size hTI
        · rw [q]; exact Heap.lt_size hTO
        · rw [q]; obtain ⟨_, e1, _⟩ := h1; exact Heap.lt_size e1
        · rw [q]; obtain ⟨_, e2, _⟩ := h2; exact Heap.lt_size e2
        · rw [q]; obtain ⟨_, e3, _⟩ := h3; exact Heap.lt_size e3
      rw [upd_ne (Nat.ne_of_lt hlt)]
      exact (hf e he).1
  done := by
    intro X hP hw hK hc i pins s σ H E I hf st hg
    subst hP hw hK
    obtain ⟨hz, hTI, ⟨x0, y0, u0, hTO⟩, h1, h2, h3⟩ := st
    obtain ⟨xs, ys, zs, hqx, hqy, hqz, k1, k2, k3, hend⟩ := hg
    obtain ⟨its, rv, p, _⟩ := I.list hqx
    obtain ⟨its2, rv2, p2, _⟩ := I.list hqy
    obtain ⟨its3, rv3, p3, _⟩ := I.list hqz
    have l1 := rv.length
    have l2 := rv2.length
    have l3 := rv3.length
    have hh : X.A.in1.handled = none := I.ok.hd hc
    have na : a ≠ i1 ∧ b ≠ i2 ∧ c ≠ i3 := by
      refine ⟨fun e => ?_, fun e => ?_, fun e => ?_⟩
      · obtain ⟨_, q1, q2, _⟩ := h1; obtain ⟨_, g1, g2, _⟩ := p.isList; rw [e, q1] at g1; cases g1; rw [q2] at g2; simp at g2
      · obtain ⟨_, q1, q2, _⟩ := h2; obtain ⟨_, g1, g2, _⟩ := p2.isList; rw [e, q1] at g1; cases g1; rw [q2] at g2; simp at g2
      · obtain ⟨_, q1, q2, _⟩ := h3; obtain ⟨_, g1, g2, _⟩ := p3.isList; rw [e, q1] at g1; cases g1; rw [q2] at g2; simp at g2
    exact wpAny_pyNext_zipD3_end S (.list hh i1 a na.1 its.toArray) (.list hh i2 b na.2.1 its2.toArray) (.list hh i3 c na.2.2 its3.toArray) hz hTI hTO ⟨h1, p.isList⟩ ⟨h2, p2.isList⟩ ⟨h3, p3.isList⟩ (by simp; omega) (by simp; omega) (by simp; omega)
      (by simp; omega) fun h' tk hk => ⟨rfl, I.turnedL (t' := tk) (ch := [z, TI, TO, i1, i2, i3]) (fun e o hb q =>
      hk e o (fun q' => hb (by simp [q'])) (fun q' => hb (by simp [q'])) (fun q' => hb (by simp [q'])) (fun q' => hb (by simp [q'])) (fun q' => hb (by simp [q'])) q) hf⟩
  self := fun A i s Q E st h => wpAny_pyIter_zip st.1 h
def iZip3 (K : PySem.W.Frag) (ta : TA) : TI := fun σ H R => ta σ H fun vs H1 => ∃ a b c xs ys zs, vs = [.ref a, .ref b, .ref c] ∧ SqL K H1 a xs ∧ SqL K H1 b ys ∧ SqL K H1 c zs ∧ R (Itz3 K a b c) H1
theorem pi_zip3 {X : Cx} {e e2 e3 : Expr} {ta : TA} {p pos tpos : Pos} {elts : List Expr} {kk : Nat} (hg : Gl X "zip") (hm : X.mg "zip" = none) (ha : PA X [e, e2, e3] ta)
    (hs : starEach [e, e2, e3] X.env = (false, eval e X.env) :: starEach [e2, e3] X.env := by rfl) (hpl : (backTo pos (starEach [e2, e3] X.env)).any (·.1) = false := by rfl) :
    PI X (.Tuple elts kk tpos) (.Call (.Name "zip" p) [e, e2, e3] [] pos) (iZip3 X.K ta) := by
  refine ⟨fun pins s σ H R I h => ?_⟩
  refine Call_ (ld_blt I hg hm PyProof.Rows.boot_zip (PyProof.Rows.callWith_type1 (thn (ha.run pos pins s σ H _ I h) fun us s1 ⟨vs, H1, I1, r1, q1⟩ => ?_) hs hpl))
  obtain ⟨a, b, c, xs, ys, zs, ex, hqx, hqy, hqz, q⟩ := q1
  subst ex
  cases r1 with
  | cons r rr =>
    cases rr with
    | cons r' rr =>
      cases rr with
      | cons r3 rr =>
        cases rr
        cases r
        cases r'
        cases r3
        obtain ⟨its, rv, p1, _⟩ := I1.list hqx
        obtain ⟨its2, rv2, p2, _⟩ := I1.list hqy
        obtain ⟨its3, rv3, p3, _⟩ := I1.list hqz
        have la : a < s1.heap.objs.size := p1.lt
        have lb : b < s1.heap.objs.size := p2.lt
        have lc : c < s1.heap.objs.size := p3.lt
        refine zip_begins3 (begins_list a its.toArray) (begins_list b its2.toArray) (begins_list c its3.toArray) p1.isList p2.isList p3.isList fun h' hz hTI hTO h1 h2 h3 hsz hk => wpAny_pyIter_zip hz ?_
        have I2 : Inv X pins σ H1 { s1 with heap := h' } := I1.kept (t' := s1.toks) hk
        refine ⟨s1.heap.objs.size + 5, [s1.heap.objs.size + 5, s1.heap.objs.size + 3, s1.heap.objs.size + 4, s1.heap.objs.size, s1.heap.objs.size + 1, s1.heap.objs.size + 2], _, _, H1, rfl, I2, turn_zip3 (sep3 s1.heap.objs.size a b c la lb lc), ⟨hz, hTI, ⟨_, _, _, hTO⟩, ⟨_, h1, rfl, rfl⟩, ⟨_, h2, rfl, rfl⟩, ⟨_, h3, rfl, rfl⟩⟩, fun e he => ?_, q⟩
        have hle : s1.heap.objs.size ≤ e := by
          have e' : e = s1.heap.objs.size + 5 ∨ e = s1.heap.objs.size + 3 ∨ e = s1.heap.objs.size + 4 ∨ e = s1.heap.objs.size ∨ e = s1.heap.objs.size + 1 ∨ e = s1.heap.objs.size + 2 := by simpa using he
          rcases e' with z | z | z | z | z | z <;> rw [z] <;> first | exact Nat.le_add_right _ _ | exact Nat.le_refl _
        exact I1.fpOk hle (I1.hok.fresh hle)
theorem walkZ3 {K : PySem.W.Frag} {a b c : Addr} {n : Nat} : Walk (Itz3 K a b c) n (fun H => ∃ xs ys zs, SqL K H a xs ∧ SqL K H b ys ∧ SqL K H c zs ∧ min xs.length (min ys.length zs.length) = n)
    (fun i H v H' => ∃ T x y z, v = .ref T ∧ H T = none ∧ H' = upd H T (.tup [x, y, z]) ∧ (∀ xs, SqL K H a xs → xs[i]? = some x) ∧ (∀ ys, SqL K H b ys → ys[i]? = some y) ∧ ∀ zs, SqL K H c zs → zs[i]? = some z) := by
  refine ⟨?_, ?_, fun _ _ _ _ _ _ y => y⟩
  · rintro i H hi ⟨xs, ys, zs, q1, q2, q3, e⟩
    have h1 : i < xs.length := by omega
    have h2 : i < ys.length := by omega
    have h3 : i < zs.length := by omega
    exact ⟨xs, ys, zs, xs[i], ys[i], zs[i], q1, q2, q3, by simp [h1], by simp [h2], by simp [h3]⟩
  · rintro H ⟨xs, ys, zs, q1, q2, q3, e⟩
    exact ⟨xs, ys, zs, q1, q2, q3, by omega, by omega, by omega, by omega⟩
end Z
/-! Dicts of one's own. -/
namespace Z
open PySem PySem.Spec PyProof.Rows L2
section
variable {α β : Type} [DecidableEq α]
/-- d[k], d[k] = v, del d[k] -/
def dget (m : List (α × β)) (k : α) : Option β := (m.find? fun e => decide (e.1 = k)).map (·.2)
def dput (m : List (α × β)) (k : α) (v : β) : List (α × β) := if (m.any fun e => decide (e.1 = k)) = true then m.map (fun e => if e.1 = k then (e.1, v) else e) else m ++ [(k, v)]
def ddrop (m : List (α × β)) (k : α) : List (α × β) := m.filter fun e => decide (e.1 ≠ k)
/-- as it stands in the heap -/
def kvs (kf : α → Key) (f : β → V) (m : List (α × β)) : List (Key × V) := m.map fun e => (kf e.1, f e.2)
variable {kf : α → Key} {f : β → V} (hk : ∀ a b, kf a = kf b → a = b)
include hk
theorem key_dec (a b : α) : decide (kf a = kf b) = decide (a = b) := by
  by_cases h : a = b
  · rw [h, decide_eq_true rfl, decide_eq_true rfl]
  · rw [decide_eq_false h, decide_eq_false fun e => h (hk a b e)]
theorem valV_kvs (m : List (α × β)) (k : α) : valV (kvs kf f m) (kf k) = (dget m k).map f := by
  unfold valV kvs dget
  rw [List.find?_map, Option.map_map, Option.map_map]
  have e : ((fun kv : Key × V => decide (kv.1 = kf k)) ∘ fun e : α × β => (kf e.1, f e.2)) = fun e => decide (e.1 = k) := by
    funext e; exact key_dec hk e.1 k
  rw [e]; rfl
theorem putK_kvs (m : List (α × β)) (k : α) (v : β) : putK (kvs kf f m) (kf k) (f v) = kvs kf f (dput m k v) := by
  have e1 : ((kvs kf f m).any fun kv => decide (kv.1 = kf k)) = m.any fun e => decide (e.1 = k) := by
    unfold kvs
    rw [List.any_map]
    congr 1
    funext e; exact key_dec hk e.1 k
  unfold putK dput
  rw [e1]
  split
  · unfold kvs
    rw [List.map_map, List.map_map]
    refine List.map_congr_left fun e _ => ?_
    show (if kf e.1 = kf k then (kf e.1, f v) else (kf e.1, f e.2)) = (kf (if e.1 = k then (e.1, v) else e).1, f (if e.1 = k then (e.1, v) else e).2)
    by_cases h : e.1 = k
    · rw [if_pos h, if_pos (by rw [h])]
    · rw [if_neg h, if_neg fun z => h (hk _ _ z)]
  · unfold kvs; rw [List.map_append]; rfl
theorem dropK_kvs (m : List (α × β)) (k : α) : dropK (kvs kf f m) (kf k) = kvs kf f (ddrop m k) := by
  unfold dropK ddrop kvs
  rw [List.filter_map]
  congr 1
  refine List.filter_congr fun e _ => ?_
  show decide (kf e.1 ≠ kf k) = decide (e.1 ≠ k)
  by_cases h : e.1 = k
  · rw [decide_eq_false (p := kf e.1 ≠ kf k) (fun z => z (by rw [h])), decide_eq_false (p := e.1 ≠ k) (fun z => z h)]
  · rw [decide_eq_true (p := kf e.1 ≠ kf k) (fun z => h (hk _ _ z)), decide_eq_true (p := e.1 ≠ k) h]
end
section
variable {α β : Type} [DecidableEq α]
theorem ddrop_none {m : List (α × β)} {k : α} (h : dget m k = none) : ddrop m k = m := by
  unfold dget at h
  unfold ddrop
  have h' := Option.map_eq_none_iff.mp h
  rw [List.find?_eq_none] at h'
  refine List.filter_eq_self.mpr fun e he => decide_eq_true fun z => ?_
  exact h' e he (decide_eq_true z)
theorem getD_map {o : Option β} {f : β → V} {z : β} : (o.map f).getD (f z) = f (o.getD z) := by cases o <;> rfl
theorem getD_non {o : Option Int} : (o.map V.int).getD V.non = vO o := by cases o <;> rfl
theorem inlK : ∀ a b : Int, (Sum.inl a : Key) = Sum.inl b → a = b := fun _ _ h => Sum.inl.inj h
theorem inrK : ∀ a b : Str, (Sum.inr a : Key) = Sum.inr b → a = b := fun _ _ h => Sum.inr.inj h
variable {K : PySem.W.Frag} {L : DL} {O : OL} {H : Hp} {p : Addr} {k : Nat} {kf : α → Key} {f : β → V} {m : List (α × β)} {c : α} {x : β}
theorem St.isD (S : St K O L H) {n : List (Key × V)} (h : O[k]? = some (p, .dK n)) : IsD H p := .inl ⟨_, .inl (S.at h)⟩
theorem St.dgo (S : St K O L H) (hk : ∀ a b, kf a = kf b → a = b) (h : O[k]? = some (p, .dK (kvs kf f m))) : DGet H p (kV (kf c)) ((dget m c).map f) := by
  rw [← valV_kvs hk]; exact DGet.k (S.at h)
theorem St.dgs (S : St K O L H) (hk : ∀ a b, kf a = kf b → a = b) (h : O[k]? = some (p, .dK (kvs kf f m))) (e : dget m c = some x) : DGet H p (kV (kf c)) (some (f x)) := by
  have := S.dgo hk h (c := c)
  rw [e] at this; exact this
theorem St.dput (S : St K O L H) (hk : ∀ a b, kf a = kf b → a = b) (h : O[k]? = some (p, .dK (kvs kf f m))) (l : m.length < sizeLine) : DPut H p (kV (kf c)) (f x) (upd H p (.dK (kvs kf f (dput m c x)))) := by
  rw [← putK_kvs hk]
  exact .inl ⟨_, _, S.at h, rfl, by unfold kvs; rw [List.length_map]; exact l, rfl⟩
/-- d.pop(c, z) -/
theorem St.dpopY (S : St K O L H) (hk : ∀ a b, kf a = kf b → a = b) (h : O[k]? = some (p, .dK (kvs kf f m))) {v : V} {z : β} (e : valV (kvs kf f m) (kf c) = some v) : v = f ((dget m c).getD z) ∧ St K (O.set k (p, .dK (kvs kf f (ddrop m c)))) L (upd H p (.dK (dropK (kvs kf f m) (kf c)))) := by
  rw [valV_kvs hk] at e
  rw [dropK_kvs hk]
  refine ⟨?_, S.put h⟩
  cases q : dget m c with
  | none => rw [q] at e; cases e
  | some y => rw [q] at e; exact (Option.some.inj e).symm
theorem set_same {l : OL} {e : Addr × HO} (h : l[k]? = some e) : l.set k e = l := by
  refine List.ext_getElem? fun j => ?_
  by_cases z : k = j
  · subst z; rw [List.getElem?_set_self (List.getElem?_eq_some_iff.mp h).1, h]
  · rw [List.getElem?_set_ne z]
theorem St.dpopN (S : St K O L H) (hk : ∀ a b, kf a = kf b → a = b) (h : O[k]? = some (p, .dK (kvs kf f m))) {z : β} (e : valV (kvs kf f m) (kf c) = none) : f z = f ((dget m c).getD z) ∧ St K (O.set k (p, .dK (kvs kf f (ddrop m c)))) L H := by
  rw [valV_kvs hk] at e
  have q : dget m c = none := by
    cases q : dget m c with
    | none => rfl
    | some y => rw [q] at e; cases e
  rw [ddrop_none q, q]
  refine ⟨rfl, ?_⟩
  rw [set_same h]; exact S
theorem St.dpop1 (S : St K O L H) (hk : ∀ a b, kf a = kf b → a = b) (h : O[k]? = some (p, .dK (kvs kf f m))) (e : dget m c = some x) : valV (kvs kf f m) (kf c) = some (f x) := by rw [valV_kvs hk, e]; rfl
end
theorem both3 {K : PySem.W.Frag} {H : Hp} {a b c : Addr} {m n k : Nat} (h1 : ∃ xs, SqL K H a xs ∧ xs.length = m) (h2 : ∃ ys, SqL K H b ys ∧ ys.length = n) (h3 : ∃ zs, SqL K H c zs ∧ zs.length = k) : ∃ xs ys zs, SqL K H a xs ∧ SqL K H b ys ∧ SqL K H c zs ∧ min xs.length (min ys.length zs.length) = min m (min n k) := by
  obtain ⟨xs, q1, e1⟩ := h1
  obtain ⟨ys, q2, e2⟩ := h2
  obtain ⟨zs, q3, e3⟩ := h3
  exact ⟨xs, ys, zs, q1, q2, q3, by rw [e1, e2, e3]⟩
/-! rules within a comprehension: what they promise speaks of the def's own words -/
section
variable {X : Cx} {s : Shared} {H : Hp} {sc : Scope} {ev : Env} {fp : List Addr}
theorem ix_listB : IxR (X.blk s H sc ev fp) (rIxL X.K) := ix_list (X := X.blk s H sc ev fp)
theorem ix_tupB : IxR (X.blk s H sc ev fp) (rIxT X.K) := ix_tup (X := X.blk s H sc ev fp)
theorem sl_listB : SlR (X.blk s H sc ev fp) (rSlL X.K) := sl_list (X := X.blk s H sc ev fp)
theorem op_catRB : OpR (X.blk s H sc ev fp) (binaryOp .Add) (rCatR X.K) := op_catR (X := X.blk s H sc ev fp)
theorem op_eqDB (hu : X.A.units + 64 < cLine) : OpR (X.blk s H sc ev fp) (compareOp .Eq) (rEqD X.K) := op_eqD (X := X.blk s H sc ev fp) hu
theorem op_neDB (hu : X.A.units + 64 < cLine) : OpR (X.blk s H sc ev fp) (compareOp .NotEq) (rNeD X.K) := op_neD (X := X.blk s H sc ev fp) hu
theorem call_len_seqB : CallR (X.blk s H sc ev fp) (.builtin "len") (fun xs H Q => ∃ p ys, xs = [.ref p] ∧ (SqL X.K H p ys ∨ SqT X.K H p ys) ∧ Q (.int ys.length) H) := call_len_seq (X := X.blk s H sc ev fp)
end
theorem rgV_eq (a b : Int) : rgV a b = (Z.upto a b).map V.int := by
  unfold rgV Z.upto
  rw [List.map_map]; rfl
instance (a b : Int) : Decidable (RgOk a b) := by unfold RgOk; infer_instance
/-- the last item -/
def lastZ {α : Type} (xs : List α) : Option α := xs[xs.length - 1]?
theorem last_f {α : Type} {f : α → V} {xs : List α} {x : α} (h : lastZ xs = some x) : (xs.map f)[(xs.map f).length - 1]? = some (f x) := by
  rw [List.length_map, List.getElem?_map]
  have h' : xs[xs.length - 1]? = some x := h
  rw [h']; rfl
theorem drop_f {α : Type} (f : α → V) (xs : List α) : (xs.map f).dropLast = xs.dropLast.map f := by rw [List.map_dropLast]
end Z
/-! max(xs, default=d); xs[i] += e; n is True. -/
namespace Z
open PySem PySem.Spec PyProof.Rows L2
/-- max(xs, default=d) -/
def lmaxD (ns : List Int) (d : Int) : Int := if ns.isEmpty = true then d else lmax ns
theorem max_rawD {prog : Program} {w : World} {A : Around} {E : Value → Shared → Prop} {s : Shared} {l : Addr} {its : List Value} {ns : List Int} {d : Value} {Q : Value → Shared → Prop}
    (hh : A.handled = none) (hl : s.heap.IsList l its.toArray) (hi : IntsAre its ns)
    (h0 : ns = [] → ∀ h' tk, (∀ b o, s.heap.get? b = some o → h'.get? b = some o) → Q d { s with heap := h', toks := tk })
    (h : ∀ h' tk M t', (∀ b o, s.heap.get? b = some o → h'.get? b = some o) → M ∈ ns → (∀ a, a ∈ ns → a ≤ M) → Q (.int M t') { s with heap := h', toks := tk }) :
    wpAny (model prog w) A (call (.builtin "max") [.ref l] [(Str.ofString "default", d)]) Q E s := by
  obtain ⟨xs, e⟩ := hi.allInts.items
  have hn : numsOf (intItems xs).toList = ns := by rw [← e]; exact hi.numsOf
  rw [nums_intItems] at hn
  subst hn
  rw [e] at hl
  have hsz : (intItems xs).size = xs.size := by simp [intItems]
  refine PySem.call_max_walkD (PySem.W.iter_listW (A := A.in1) hh hl fun s₂ e W st hfp hw hk => ?_)
  refine ⟨_, _, _, _, _, _, _, s.heap, (fun i j => decide (numAt xs i > numAt xs j)), rfl, W, st, hfp, hw, hk, fun hz s' m => ?_, fun hp => ⟨fun i j vi vj s Q E _ hi hj h => CmpOf.ints_gt (A := A.in1) (numAt xs) (fun _ _ => intItems_at) i j vi vj s Q E hi hj h, fun v s' hP m => ?_⟩⟩
  · obtain ⟨h', tk, rfl, hk'⟩ := PySem.W.moved_old e rfl m
    refine h0 ?_ h' tk hk'
    rw [hsz] at hz
    rw [Array.eq_empty_of_size_eq_zero hz]; rfl
  · obtain ⟨h', tk, rfl, hk'⟩ := PySem.W.moved_old e rfl m
    rw [hsz] at hP hp
    obtain ⟨t, rfl⟩ := intItems_at hP
    obtain ⟨h1, h2⟩ := argBest_gt (numAt xs) (xs.size - 1)
    refine h h' tk _ t hk' ?_ fun a ha => ?_
    · rw [numAt_eq]; exact PySem.getD_mem (by rw [List.length_map, Array.length_toList]; omega)
    · obtain ⟨j, hj, rfl⟩ := mem_getD ha
      rw [List.length_map, Array.length_toList] at hj
      rw [← numAt_eq]; exact h2 j (by omega)
def rMaxD (K : PySem.W.Frag) : List V → List V → Hp → VK → Prop := fun vs zs H Q => ∃ (a : Addr) (ns : List Int) (d : Int), vs = [V.ref a] ∧ zs = [.int d] ∧ SqL K H a (ns.map V.int) ∧ Q (.int (lmaxD ns d)) H
theorem joinN {t : TS} {D : Ends} {σ : L2.St} {H : Hp} (P : L2.St → Hp → Prop) (h2 : (∀ σ' H', P σ' H' → D.nx σ' H') → t D σ H) (h1 : ∀ σ' H', P σ' H' → D.nx σ' H') : t D σ H := h2 h1
theorem orF {A B : Prop} (h : B) : if false = true then A else B := by rw [if_neg (by decide)]; exact h
/-- range(a, b, -1) -/
def downto (a b : Int) : List Int := (List.range (a - b).toNat).map fun k : Nat => a - (k : Int)
theorem downto_len (a b : Int) : (downto a b).length = (a - b).toNat := by unfold downto; simp
theorem downto_get {a b : Int} {k : Nat} {x : Int} (h : (downto a b)[k]? = some x) : x = a + (k : Nat) * (-1) := by
  unfold downto at h
  rw [List.getElem?_map] at h
  by_cases hk : k < (a - b).toNat
  · rw [List.getElem?_range hk] at h
    have e : a - (k : Int) = x := Option.some.inj h
    omega
  · rw [List.getElem?_eq_none (by simpa using hk)] at h; cases h
/-- xs * k -/
def repL {α : Type} (xs : List α) (k : Int) : List α := (List.replicate k.toNat xs).flatten
def CRepL (n : Nat) (k : Int) : Prop := -(2 ^ 63) ≤ k ∧ k < 2 ^ 63 ∧ n * k.toNat ≤ sizeLine
instance (n : Nat) (k : Int) : Decidable (CRepL n k) := by unfold CRepL; infer_instance
theorem rep_map {α β : Type} (f : α → β) (xs : List α) (k : Int) : (List.replicate k.toNat (xs.map f)).flatten = (repL xs k).map f := by
  unfold repL; rw [List.map_flatten, List.map_replicate]
theorem call_isiB {X : Cx} {s : Shared} {H : Hp} {sc : Scope} {ev : Env} {fp : List Addr} : CallR (X.blk s H sc ev fp) (.builtin "isinstance") (rIsi X.K) := call_isi (X := X.blk s H sc ev fp)
section
variable {X : Cx}
theorem cr_maxD (hc : X.calm = true) : CallRK X (.builtin "max") [Str.ofString "default"] (rMaxD X.K) := by
  intro pins s σ H vs zs us ws Q I r rz h
  obtain ⟨a, ns, d, rfl, rfl, hs, q⟩ := h
  obtain ⟨its, rv, hl, _⟩ := I.list hs
  rw [Vals.ref1 r]
  obtain ⟨w1, rfl, t, e1⟩ := vals1 rz
  subst e1
  refine max_rawD (I.ok.hd hc) hl.isList rv.ints (fun h0 h' tk hk => ?_) (fun h' tk m t' hk h1 h2 => ?_)
  · refine ⟨.int d, H, I.kept hk, ⟨_, rfl⟩, ?_⟩
    subst h0; exact q
  · refine ⟨.int m, H, I.kept hk, ⟨_, rfl⟩, ?_⟩
    have hne : ns.isEmpty = false := by cases ns with | nil => cases h1 | cons _ _ => rfl
    rw [show m = lmaxD ns d by unfold lmaxD; rw [hne]; exact lmax_of h1 h2]
    exact q
/-- xs[i], as xs[i] += e reads it -/
theorem get_list : PGet X (rIxL X.K) := by
  intro pins s σ H x y v u Q I rx ry h
  obtain ⟨p, xs, i, z, rfl, rfl, hq, he, q⟩ := h
  cases rx
  obtain ⟨t, rfl⟩ := ry
  obtain ⟨its, r, pl, hz⟩ := I.list hq
  obtain ⟨j, h1, h2, h3, h4, h5⟩ := atI_get he
  obtain ⟨w, ew, rw'⟩ := r.get h2
  have hl := r.length
  have hn := line63
  have fin : EP X pins σ Q w s := ⟨z, H, I, rw', q⟩
  by_cases h0 : 0 ≤ i
  · have hj : i.toNat = j := by
      rw [seqIndex_of h0 h5] at h1
      exact Option.some.inj h1
    exact wpAny_getItem_list pl.isList h0 (by omega) (by rw [hj]; simpa using ew) fin
  · have hj : (i + (its.toArray.size : Int)).toNat = j := by
      rw [seqIndex_neg (by omega) h4] at h1
      rw [List.size_toArray, ← hl]
      exact Option.some.inj h1
    exact wpAny_getItem_list_neg pl.isList (by omega) (by rw [List.size_toArray] <;> omega) (by omega) (by rw [hj]; simpa using ew) fin
/-- n is True, n is False: never of a whole number -/
def rIsIB : R2 := fun x y H Q => ∃ (i : Int) (b : Bool), x = .int i ∧ y = .bl b ∧ Q (.bl false) H
theorem op_isIB : OpR X (compareOp .Is) rIsIB := by
  intro pins s σ H x y v u Q I rx ry h
  obtain ⟨i, b, rfl, rfl, q⟩ := h
  obtain ⟨t, rfl⟩ := rx
  cases (show u = Value.bool b from ry)
  exact wpAny_is_other rfl (fun z => nomatch z) ⟨.bl false, H, I, rfl, q⟩
end
end Z
/-! list(zip(xs, ys)). -/
namespace Z
open PySem PySem.Spec PyProof.Rows L2
theorem vO_some {o : Option Int} {x : Int} (h : o = some x) : Z.vO o = V.int x := by rw [h]; rfl
theorem zip_no_len : typeLookup (.type "zip") "__len__" = pure none := by rw [typeLookup_type, builtinLookup_eq_fast]; kernel_rfl
theorem zip_no_hint : typeLookup (.type "zip") "__length_hint__" = pure none := by rw [typeLookup_type, builtinLookup_eq_fast]; kernel_rfl
/-- a zip of two lists at its turn i, its tuple free or out -/
def ZAt (z TI TO i1 i2 l1 l2 S : Addr) (xs ys : Array Value) (i : Nat) (h : Heap) : Prop :=
  IsPair h TI (.ref i1) (.ref i2) ∧ h.IsListIter i1 l1 i ∧ h.IsListIter i2 l2 i ∧ h.IsList l1 xs ∧ h.IsList l2 ys ∧
    ((IsZip h z TI TO .none ∧ ∃ a b, IsPair h TO a b) ∨ ∃ T f oT, IsZipHeld h z TI TO T f ∧ h.get? T = some oT ∧ T ≠ z ∧ T ≠ i1 ∧ T ≠ i2 ∧ T ≠ S)
structure Off (z TI TO i1 i2 l1 l2 S : Addr) : Prop where
  z : S ≠ z
  TI : S ≠ TI
  TO : S ≠ TO
  i1 : S ≠ i1
  i2 : S ≠ i2
  l1 : S ≠ l1
  l2 : S ≠ l2
section
variable {prog : Program} {w : World} {A : Around} {E : Value → Shared → Prop} {s : Shared} {R : Result → Shared → Prop} {z TI TO i1 i2 l1 l2 S : Addr} {xs ys : Array Value}
theorem ZAt.frame {i : Nat} {h h' : Heap} (F : Off z TI TO i1 i2 l1 l2 S) (st : ZAt z TI TO i1 i2 l1 l2 S xs ys i h) (hk : ∀ b o, b ≠ S → h.get? b = some o → h'.get? b = some o) : ZAt z TI TO i1 i2 l1 l2 S xs ys i h' := by
  obtain ⟨hTI, h1, h2, hl1, hl2, hz⟩ := st
  refine ⟨hk _ _ F.TI.symm hTI, h1.at fun o e => hk _ o F.i1.symm e, h2.at fun o e => hk _ o F.i2.symm e, hl1.at fun o e => hk _ o F.l1.symm e, hl2.at fun o e => hk _ o F.l2.symm e, ?_⟩
  rcases hz with ⟨hz, a, b, hTO⟩ | ⟨T, f, oT, hz, hT, r1, r2, r3, r4⟩
  · exact .inl ⟨hk _ _ F.z.symm hz, a, b, hk _ _ F.TO.symm hTO⟩
  · exact .inr ⟨T, f, oT, hk _ _ F.z.symm hz, hk _ _ r4 hT, r1, r2, r3, r4⟩
theorem znext {i : Nat} {x y : Value} {Q : Option Value → Shared → Prop} (D : ZipApart z TI TO i1 i2 l1 l2) (F : Off z TI TO i1 i2 l1 l2 S) (st : ZAt z TI TO i1 i2 l1 l2 S xs ys i s.heap) (ex : xs[i]? = some x) (ey : ys[i]? = some y) (hS : S < s.heap.objs.size)
    (hQ : ∀ h', ZAt z TI TO i1 i2 l1 l2 S xs ys (i + 1) h' → IsPair h' s.heap.objs.size x y → (∀ c o, c ∉ [z, TO, i1, i2] → s.heap.get? c = some o → h'.get? c = some o) → Q (some (.ref s.heap.objs.size)) { s with heap := h' }) :
    wpAny (model prog w) A (pyNext (.ref z)) Q E s := by
  obtain ⟨hTI, h1, h2, hl1, hl2, hz⟩ := st
  have lt : ∀ {c o}, s.heap.get? c = some o → s.heap.objs.size ≠ c := fun e => Nat.ne_of_gt (Heap.lt_size e)
  have n1 : s.heap.objs.size ≠ i1 := let ⟨_, e, _⟩ := h1; lt e
  have n2 : s.heap.objs.size ≠ i2 := let ⟨_, e, _⟩ := h2; lt e
  rcases hz with ⟨hz, a, b, hTO⟩ | ⟨T, f, oT, hz, hT, r1, r2, r3, r4⟩
  · refine wpAny_pyNext_zip_item D hz hTI hTO h1 h2 hl1 hl2 ex ey fun h' a1 a2 a3 a4 a5 a6 hk => ?_
    exact hQ h' ⟨hk _ _ D.TIz D.TITO D.TIi1 D.TIi2 hTI, a3, a4, hl1.at fun o e => hk _ o D.l1z D.l1TO D.l1i1 D.l1i2 e, hl2.at fun o e => hk _ o D.l2z D.l2TO D.l2i1 D.l2i2 e,
        .inr ⟨s.heap.objs.size, false, _, a1, a5, lt hz, n1, n2, Nat.ne_of_gt hS⟩⟩ a5
      fun c o hc e => hk c o (fun x => hc (by simp [x])) (fun x => hc (by simp [x])) (fun x => hc (by simp [x])) (fun x => hc (by simp [x])) e
  · refine wpAny_pyNext_zip_item_held D hz hT hTI h1 h2 hl1 hl2 ex ey fun h' a1 a3 a4 a5 a6 hk => ?_
    exact hQ h' ⟨hk _ _ D.TIz D.TIi1 D.TIi2 hTI, a3, a4, hl1.at fun o e => hk _ o D.l1z D.l1i1 D.l1i2 e, hl2.at fun o e => hk _ o D.l2z D.l2i1 D.l2i2 e,
        .inr ⟨T, true, oT, a1, hk _ _ r1 r2 r3 hT, r1, r2, r3, r4⟩⟩ a5
      fun c o hc e => hk c o (fun x => hc (by simp [x])) (fun x => hc (by simp [x])) (fun x => hc (by simp [x])) e
theorem zdone {i : Nat} {Q : Option Value → Shared → Prop} (hh : A.handled = none) (D : ZipApart z TI TO i1 i2 l1 l2) (st : ZAt z TI TO i1 i2 l1 l2 S xs ys i s.heap) (hend : xs[i]? = none ∨ ys[i]? = none)
    (hQ : ∀ h', (∀ c o, c ∉ [z, TO, i1, i2] → s.heap.get? c = some o → h'.get? c = some o) → Q none { s with heap := h' }) : wpAny (model prog w) A (pyNext (.ref z)) Q E s := by
  obtain ⟨hTI, h1, h2, hl1, hl2, hz⟩ := st
  rcases hz with ⟨hz, a, b, hTO⟩ | ⟨T, f, oT, hz, hT, r1, r2, r3, r4⟩
  · exact wpAny_pyNext_zip_end hh D hz hTI hTO h1 h2 hl1 hl2 hend fun h' hk => hQ h' fun c o hc e => hk c o (fun x => hc (by simp [x])) (fun x => hc (by simp [x])) (fun x => hc (by simp [x])) (fun x => hc (by simp [x])) e
  · exact wpAny_pyNext_zip_end_held hh D hz hT hTI h1 h2 hl1 hl2 hend fun h' hk => hQ h' fun c o hc e => hk c o (fun x => hc (by simp [x])) (fun x => hc (by simp [x])) (fun x => hc (by simp [x])) e
/-- the tuples made so far -/
def Made (base : Nat) (xs ys : Array Value) (h : Heap) (Ts : List Addr) : Prop :=
  Ts.Nodup ∧ (∀ T ∈ Ts, base ≤ T) ∧ ∀ (j : Nat) (T : Addr), Ts[j]? = some T → ∃ x y, xs[j]? = some x ∧ ys[j]? = some y ∧ IsPair h T x y
theorem zip_loop {base n : Nat} (hh : A.in1.handled = none) (D : ZipApart z TI TO i1 i2 l1 l2) (F : Off z TI TO i1 i2 l1 l2 S) (hn : n = min xs.size ys.size) (hl : n ≤ sizeLine) (res : Value) (hc : ∀ b ∈ [S, z, TO, i1, i2], b < base) :
    ∀ (k i : Nat) (s : Shared) (Ts : List Addr) (c : Nat), n - i = k → i ≤ n → Ts.length = i → ZAt z TI TO i1 i2 l1 l2 S xs ys i s.heap → s.heap.get? S = some { cls := .type "list", dict := none, data := .seq (Ts.map Value.ref).toArray c, slots := #[] } →
      base ≤ s.heap.objs.size → Made base xs ys s.heap Ts →
      (∀ h' Ts' c', (∀ b o, b ∉ [S, z, TO, i1, i2] → s.heap.get? b = some o → h'.get? b = some o) → h'.get? S = some { cls := .type "list", dict := none, data := .seq (Ts'.map Value.ref).toArray c', slots := #[] } → Ts'.length = n → Made base xs ys h' Ts' → R (.ok (.ret res)) { s with heap := h' }) →
      codeAny (model prog w) A (.builtin "list.extend.loop" ⟨[.ref S, .ref z, res], []⟩) R s := by
  have Sc : S ∉ [z, TO, i1, i2] := by
    intro hm
    simp only [List.mem_cons, List.not_mem_nil, or_false] at hm
    rcases hm with e | e | e | e
    · exact F.z e
    · exact F.TO e
    · exact F.i1 e
    · exact F.i2 e
  intro k
  induction k with
  | zero =>
    intro i s Ts c hk hi hT hst hS hb hm hR
    have hin : i = n := by omega
    subst hin
    refine codeAny_builtin PySem.F.entry_extend_loop ?_
    rw [Around.under_plainId PySem.F.plain_extend_loop _]
    show wpAny _ A.in1 (pyNext (.ref z) >>= _) _ _ s
    have hend : xs[i]? = none ∨ ys[i]? = none := by
      rcases Nat.le_total xs.size ys.size with h | h
      · exact .inl (Array.getElem?_eq_none (by rw [hn, Nat.min_eq_left h]; exact Nat.le_refl _))
      · exact .inr (Array.getElem?_eq_none (by rw [hn, Nat.min_eq_right h]; exact Nat.le_refl _))
    refine wpAny_bind (zdone hh D hst hend fun h' hk' => ?_)
    refine wpAny_pure (hR h' Ts c (fun b o hb e => hk' b o (fun q => hb (List.mem_cons_of_mem _ q)) e) (hk' S _ Sc hS) hT ⟨hm.1, hm.2.1, fun j T hj => ?_⟩)
    obtain ⟨x, y, ex, ey, hp⟩ := hm.2.2 j T hj
    exact ⟨x, y, ex, ey, hk' T _ (fun q => Nat.lt_irrefl _ (Nat.lt_of_lt_of_le (hc T (List.mem_cons_of_mem _ q)) (hm.2.1 T (List.mem_of_getElem? hj)))) hp⟩
  | succ k ih =>
    intro i s Ts c hk hi hT hst hS hb hm hR
    have hix : i < xs.size := by omega
    have hiy : i < ys.size := by omega
    have ex := Array.getElem?_eq_getElem hix
    have ey := Array.getElem?_eq_getElem hiy
    have hSl := Heap.lt_size hS
    refine codeAny_builtin PySem.F.entry_extend_loop ?_
    rw [Around.under_plainId PySem.F.plain_extend_loop _]
    show wpAny _ A.in1 (pyNext (.ref z) >>= _) _ _ s
    refine wpAny_bind (znext D F hst ex ey hSl fun h' hst' hp hk' => ?_)
    have hS' := hk' S _ Sc hS
    show wpAny _ A.in1 (updateSeq S (·.push (.ref s.heap.objs.size)) >>= _) _ _ _
    refine wpAny_bind ?_
    have lt : ∀ {c o}, s.heap.get? c = some o → s.heap.objs.size ≠ c := fun e => Nat.ne_of_gt (Heap.lt_size e)
    have upd_ : ∀ b o, b ≠ S → h'.get? b = some o → (h'.update S (Obj.mapSeq (·.push (.ref s.heap.objs.size)))).get? b = some o := fun b o hb e => (Heap.get?_update_other _ _ (fun q => hb q.symm)).trans e
    have hSn := Heap.get?_update_self (Obj.mapSeq (·.push (Value.ref s.heap.objs.size))) hS' rfl
    have nS : s.heap.objs.size ≠ S := lt hS
    refine wpAny_updateSeq hS' rfl (wpAny_pure ⟨plainId_quiet PySem.F.plain_extend_loop _, ih (i + 1) _ (Ts ++ [s.heap.objs.size]) _ (by omega) (by omega) (by simp [hT]) (hst'.frame F upd_) (by
        have e : ((Ts ++ [s.heap.objs.size]).map Value.ref).toArray = (Ts.map Value.ref).toArray.push (.ref s.heap.objs.size) := by simp
        rw [e]; exact hSn) ?_ ?_ fun h'' Ts' c' hk'' hS'' hT' hm' => ?_⟩)
      (by simp [hT]; omega) (by simp [hT]; omega)
    · show base ≤ (h'.update S _).objs.size
      exact Nat.le_of_lt (Nat.lt_of_le_of_lt hb (Heap.lt_size (upd_ _ _ nS hp)))
    · obtain ⟨m1, m2, m3⟩ := hm
      refine ⟨?_, fun T hT' => ?_, fun j T hj => ?_⟩
      · refine List.nodup_append.mpr ⟨m1, by simp, fun a ha b hb' => ?_⟩
        rw [List.mem_singleton.mp hb']
        obtain ⟨j, hj⟩ := List.mem_iff_getElem?.mp ha
        obtain ⟨x, y, _, _, hp'⟩ := m3 j a hj
        exact fun e => lt hp' e.symm
      · rcases List.mem_append.mp hT' with q | q
        · exact m2 T q
        · rw [List.mem_singleton.mp q]; exact hb
      · rw [List.getElem?_append] at hj
        split at hj
        · obtain ⟨x, y, ex', ey', hp'⟩ := m3 j T hj
          have hT' := m2 T (List.mem_of_getElem? hj)
          exact ⟨x, y, ex', ey', upd_ _ _ (fun q => Nat.lt_irrefl _ (Nat.lt_of_lt_of_le (hc S List.mem_cons_self) (q ▸ hT'))) (hk' T _ (fun q => Nat.lt_irrefl _ (Nat.lt_of_lt_of_le (hc T (List.mem_cons_of_mem _ q)) hT')) hp')⟩
        · rename_i hlt
          have hj0 : j - Ts.length = 0 := by
            by_cases q : j - Ts.length = 0
            · exact q
            · rw [List.getElem?_eq_none (by simp; omega)] at hj; cases hj
          have : j = i := by omega
          subst this
          rw [hT] at hj
          rw [Nat.sub_self] at hj
          cases hj
          exact ⟨_, _, ex, ey, upd_ _ _ nS hp⟩
    · refine hR h'' Ts' c' (fun b o hb' e => ?_) hS'' hT' hm'
      exact hk'' b o hb' (upd_ b o (fun q => hb' (by simp [q])) (hk' b o (fun q => hb' (List.mem_cons_of_mem _ q)) e))
theorem zip_init {base n : Nat} (hh : A.in1.handled = none) (D : ZipApart z TI TO i1 i2 l1 l2) (F : Off z TI TO i1 i2 l1 l2 S) (hn : n = min xs.size ys.size) (hl : n ≤ sizeLine) (hc : ∀ b ∈ [S, z, TO, i1, i2], b < base) (hb : base ≤ s.heap.objs.size)
    (hz0 : IsZip s.heap z TI TO .none) (hst : ZAt z TI TO i1 i2 l1 l2 S xs ys 0 s.heap) (hS : s.heap.get? S = some { cls := .type "list", data := .seq #[] })
    (hR : ∀ h' Ts' c', (∀ b o, b ∉ [S, z, TO, i1, i2] → s.heap.get? b = some o → h'.get? b = some o) → h'.get? S = some { cls := .type "list", dict := none, data := .seq (Ts'.map Value.ref).toArray c', slots := #[] } → Ts'.length = n → Made base xs ys h' Ts' → R (.ok (.ret .none)) { s with heap := h' }) :
    wpAny (model prog w) A.in1 (Builtin.«list.__init__» ⟨[.ref S, .ref z], []⟩)
      (fun fin s' => match fin with | .done f => R (.ok f) s' | .again c' => c'.quiet = true ∧ codeAny (model prog w) A c' R s') (fun e s' => R (.error e) s') s := by
  have hSz : S ≠ z := F.z
  show wpAny _ A.in1 (do let old ← Builtin.List.listItems (.ref S); Builtin.List.listUpdate (.ref S) (fun _ => #[]); letGo old.toList.reverse; Builtin.List.listExtendWith (.ref S) (.ref z) .none) _ _ s
  refine wpAny_bind ?_
  unfold Builtin.List.listItems
  refine wpAny_bind (wpAny_seqItems hS rfl (wpAny_pure ?_))
  show wpAny _ A.in1 (updateSeq S (fun _ => #[]) >>= fun _ => letGo (#[] : Array Value).toList.reverse >>= fun _ => Builtin.List.listExtendWith (.ref S) (.ref z) .none) _ _ s
  refine wpAny_bind (wpAny_updateSeq hS rfl ?_)
  have hS₂ := Heap.get?_update_self (Obj.mapSeq (fun _ => (#[] : Array Value))) hS rfl
  have oth : ∀ b o, b ≠ S → s.heap.get? b = some o → (s.heap.update S (Obj.mapSeq (fun _ => (#[] : Array Value)))).get? b = some o :=
    fun b o hb e => (Heap.get?_update_other _ _ (Ne.symm hb)).trans e
  refine wpAny_bind (wpAny_letGo ?_)
  have hz1 := oth _ _ hSz.symm hz0
  generalize hh1 : s.heap.update S (Obj.mapSeq (fun _ => (#[] : Array Value))) = h1 at *
  have hTy : ({ s with heap := h1 } : Shared).TypeIs (.ref z) "zip" := ⟨_, hz1, rfl⟩
  unfold Builtin.List.listExtendWith
  refine wpAny_bind (wpAny_typeOf hTy ?_)
  have g1 : Builtin.List.listSameRef (.ref S) (.ref z) = false := by simp [Builtin.List.listSameRef, hSz]
  have g2 : (Value.type "zip" == Value.type "list") = false := by decide
  have g3 : (Value.type "zip" == Value.type "tuple") = false := by decide
  simp only [g1, g2, g3, Bool.or_false, Bool.false_eq_true, if_false]
  refine wpAny_bind (wpAny_pyIter_zip hz1 ?_)
  refine wpAny_bind (wpAny_holding ?_)
  unfold Builtin.List.listLengthHint
  refine wpAny_bind (wpAny_specialOf hTy zip_no_len ?_)
  show wpAny _ A.in1 (specialOf (Value.ref z) (Str.ofString "__length_hint__") >>= _) _ _ _
  refine wpAny_bind (wpAny_specialOf hTy zip_no_hint ?_)
  refine wpAny_pure ?_
  show wpAny _ A.in1 (rule "list.extend.makes-room" >>= fun _ => Builtin.List.listTouch (.ref S) >>= fun _ =>
    again (.builtin "list.extend.loop" ⟨[.ref S, .ref z, .none], []⟩)) _ _ _
  refine wpAny_bind (wpAny_rule ?_)
  refine wpAny_bind ?_
  show wpAny _ A.in1 (updateSeq S (·.push .none) >>= fun _ => updateSeq S (·.pop)) _ _ _
  refine wpAny_bind (wpAny_updateSeq hS₂ rfl ?_)
  have hS₃ := Heap.get?_update_self (Obj.mapSeq (·.push Value.none)) hS₂ rfl
  refine wpAny_updateSeq (hz := by seq_fits) hS₃ rfl ?_
  have hS₄ := Heap.get?_update_self (Obj.mapSeq (·.pop)) hS₃ rfl
  have oth2 : ∀ b o, b ≠ S → s.heap.get? b = some o → ((h1.update S (Obj.mapSeq (·.push Value.none))).update S (Obj.mapSeq (·.pop))).get? b = some o :=
    fun b o hb e => (Heap.get?_update_other _ _ (Ne.symm hb)).trans ((Heap.get?_update_other _ _ (Ne.symm hb)).trans (oth b o hb e))
  refine wpAny_pure ⟨plainId_quiet PySem.F.plain_extend_loop _, zip_loop hh D F hn hl .none hc n 0 _ [] _ rfl (Nat.zero_le _) rfl (hst.frame F oth2) hS₄ ?_ ⟨List.nodup_nil, (fun T hT => by cases hT), (fun j T hj => by simp at hj)⟩ fun h' Ts' c' hk hS' hT' hm' => ?_⟩
  · show base ≤ ((h1.update S (Obj.mapSeq (·.push Value.none))).update S (Obj.mapSeq (·.pop))).objs.size
    rw [Heap.size_update, Heap.size_update, ← hh1, Heap.size_update]; exact hb
  · exact hR h' Ts' c' (fun b o hb' e => hk b o hb' (oth2 b o (fun q => hb' (by simp [q])) e)) hS' hT' hm'
end
section
variable {X : Cx} {pins : List (Addr × Obj)} {σ : L2.St}
/-- tuples that stand in a greater heap are taken in, one by one -/
theorem adopt_tuples {s1 : Shared} {h2 : Heap} {xs ys : List V} {its its2 : List Value} (r1 : Vals xs its) (r2 : Vals ys its2) (J : Nat → List V → Hp → Prop)
    (hJ : ∀ i ws H x y T, J i ws H → xs[i]? = some x → ys[i]? = some y → H T = none → J (i + 1) (ws ++ [.ref T]) (upd H T (.tup [x, y]))) :
    ∀ (Ts : List Addr) (i : Nat) (ws : List V) (H : Hp) (G : Heap), Inv X pins σ H { s1 with heap := G } → (∀ b o, G.get? b = some o → h2.get? b = some o) → Ts.Nodup → (∀ T ∈ Ts, G.get? T = none ∧ H T = none) →
      (∀ (j : Nat) (T : Addr), Ts[j]? = some T → ∃ x y, its[i + j]? = some x ∧ its2[i + j]? = some y ∧ IsPair h2 T x y) → J i ws H → ∀ S, S ∉ Ts → G.get? S = none → H S = none →
      ∃ H' G', Inv X pins σ H' { s1 with heap := G' } ∧ (∀ b o, G'.get? b = some o → h2.get? b = some o) ∧ J (i + Ts.length) (ws ++ Ts.map V.ref) H' ∧ G'.get? S = none ∧ H' S = none
  | [], i, ws, H, G, I, hg, _, _, _, j, S, _, gS, hS => ⟨H, G, I, hg, by simpa using j, gS, hS⟩
  | T :: Ts, i, ws, H, G, I, hg, nd, hfree, hp, j, S, sn, gS, hS => by
    obtain ⟨f1, f2⟩ := hfree T List.mem_cons_self
    obtain ⟨ux, uy, ex, ey, hpair⟩ := hp 0 T rfl
    obtain ⟨x, ex', rx⟩ : ∃ x, xs[i]? = some x ∧ RelV x ux := by
      have hl := r1.length
      have hi : i < its.length := by have := (List.getElem?_eq_some_iff.mp ex).1; omega
      have hx : xs[i]? = some (xs[i]'(by omega)) := List.getElem?_eq_getElem (by omega)
      obtain ⟨w, ew, rw'⟩ := r1.get hx
      refine ⟨_, hx, ?_⟩
      rw [Nat.add_zero] at ex
      rw [ew] at ex; cases ex; exact rw'
    obtain ⟨y, ey', ry⟩ : ∃ y, ys[i]? = some y ∧ RelV y uy := by
      have hl := r2.length
      have hi : i < its2.length := by have := (List.getElem?_eq_some_iff.mp ey).1; omega
      have hx : ys[i]? = some (ys[i]'(by omega)) := List.getElem?_eq_getElem (by omega)
      obtain ⟨w, ew, rw'⟩ := r2.get hx
      refine ⟨_, hx, ?_⟩
      rw [Nat.add_zero] at ey
      rw [ew] at ey; cases ey; exact rw'
    obtain ⟨G', g1, g2⟩ := restrict h2 fun b => (G.get? b).isSome || decide (b = T)
    have gT : G'.get? T = h2.get? T := g1 T (by simp)
    have gk : ∀ b o, G.get? b = some o → G'.get? b = some o := fun b o e => by
      rw [g1 b (by rw [e]; rfl)]; exact hg b o e
    have gh : ∀ b o, G'.get? b = some o → h2.get? b = some o := fun b o e => by
      cases q : (G.get? b).isSome || decide (b = T) with
      | true => rw [← g1 b q]; exact e
      | false => rw [g2 b q] at e; cases e
    have gn : ∀ b, G.get? b = none → b ≠ T → G'.get? b = none := fun b e ne => g2 b (by rw [e]; simp [ne])
    have I2 : Inv X pins σ (upd H T (.tup [x, y])) { s1 with heap := G' } := I.laidN (t' := s1.toks) gk f1 f2 ⟨by show 2 ≤ sizeLine; decide, [ux, uy], .cons rx (.cons ry .nil), ⟨_, gT.trans hpair, rfl, _, rfl⟩⟩
    have nd2 := List.nodup_cons.mp nd
    have sT : S ≠ T := fun e => sn (by rw [e]; exact List.mem_cons_self)
    obtain ⟨H', G'', I3, k3, j3, s3, s4⟩ := adopt_tuples r1 r2 J hJ Ts (i + 1) (ws ++ [.ref T]) (upd H T (.tup [x, y])) G' I2 gh nd2.2 (fun T' hT' => by
      have ne : T' ≠ T := fun e => nd2.1 (e ▸ hT')
      obtain ⟨a, b⟩ := hfree T' (List.mem_cons_of_mem _ hT')
      exact ⟨gn T' a ne, by rw [upd_ne ne]; exact b⟩) (fun j T' hj => by
      have := hp (j + 1) T' hj
      rw [show i + (j + 1) = i + 1 + j by omega] at this
      exact this) (hJ i ws H x y T j ex' ey' f2) S (fun h => sn (List.mem_cons_of_mem _ h)) (gn S gS sT) (by rw [upd_ne sT]; exact hS)
    refine ⟨H', G'', I3, k3, ?_, s3, s4⟩
    rw [List.length_cons, show i + (Ts.length + 1) = i + 1 + Ts.length by omega, List.map_cons, show ws ++ V.ref T :: Ts.map V.ref = ws ++ [V.ref T] ++ Ts.map V.ref by simp]
    exact j3
end
def tLstZip (K : PySem.W.Frag) (ta : TA) : TE := fun σ H Q => ta σ H fun vs H1 => ∃ a b xs ys, vs = [.ref a, .ref b] ∧ SqL K H1 a xs ∧ SqL K H1 b ys ∧ ∃ (J : Nat → List V → Hp → Prop), J 0 [] H1 ∧
  (∀ i ws H x y T, J i ws H → xs[i]? = some x → ys[i]? = some y → H T = none → J (i + 1) (ws ++ [.ref T]) (upd H T (.tup [x, y]))) ∧ (∀ ws H p, J (min xs.length ys.length) ws H → H p = none → Q (.ref p) (upd H p (.lst ws)))
theorem refs_vals : ∀ Ts : List Addr, Vals (Ts.map V.ref) (Ts.map Value.ref)
  | [] => .nil
  | T :: Ts => .cons rfl (refs_vals Ts)
theorem pe_listZip {X : Cx} {e e2 : Expr} {ta : TA} {p pos p2 pos2 : Pos} (hc : X.calm = true) (hg : Gl X "list") (hm : X.mg "list" = none) (hg2 : Gl X "zip") (hm2 : X.mg "zip" = none) (ha : PA X [e, e2] ta)
    (hs : starEach [e, e2] X.env = (false, eval e X.env) :: starEach [e2] X.env := by rfl) (hpl : (backTo pos2 (starEach [e2] X.env)).any (·.1) = false := by rfl)
    (na : starEach [.Call (.Name "zip" p2) [e, e2] [] pos2] X.env = (false, eval (.Call (.Name "zip" p2) [e, e2] [] pos2) X.env) :: starEach [] X.env := by rfl) :
    PE X (.Call (.Name "list" p) [.Call (.Name "zip" p2) [e, e2] [] pos2] [] pos) (tLstZip X.K ta) := by
  refine ⟨fun pins s σ H Q I h => ?_⟩
  refine Call_ (ld_blt I hg hm boot_list (PyProof.Rows.callWith_type1 (args_cons (Call_ (ld_blt I hg2 hm2 PyProof.Rows.boot_zip (PyProof.Rows.callWith_type1 (thn (ha.run pos2 pins s σ H _ I h) fun us s1 ⟨vs, H1, I1, r1, q1⟩ => ?_) hs hpl))) na) na))
  obtain ⟨a, b, xs, ys, ex, hqx, hqy, J, j0, jS, jQ⟩ := q1
  subst ex
  cases r1 with
  | cons r rr =>
    cases rr with
    | cons r' rr =>
      cases rr
      cases r
      cases r'
      obtain ⟨its, rv, p1, z1⟩ := I1.list hqx
      obtain ⟨its2, rv2, p2', z2⟩ := I1.list hqy
      have la : a < s1.heap.objs.size := p1.lt
      have lb : b < s1.heap.objs.size := p2'.lt
      refine call_zip_2 p1.isList p2'.isList fun h' hz hTI hTO h1 h2 hsz hk => ?_
      refine args_nil ?_
      have D := PySem.W.ktu_apart s1.heap.objs.size a b la lb
      have hh : X.A.handled = none := I1.ok.hd hc
      have l1 := rv.length
      have l2 := rv2.length
      refine callType_codes (Q₁ := fun obj s₁ => obj = .ref h'.objs.size ∧ s₁ = { s1 with heap := h'.push { cls := .type "list", data := .seq #[] } }) PySem.F.called_list (PySem.F.typeCall_list_1 _) PySem.F.entry_list_init
        (code_list_new _ ⟨rfl, rfl⟩) fun obj s₁ hs1 => ?_
      obtain ⟨rfl, rfl⟩ := hs1
      have hS : (h'.push { cls := .type "list", data := .seq #[] }).get? h'.objs.size = some { cls := .type "list", data := .seq #[] } := Heap.get?_push_size _ rfl
      have up : ∀ b o, h'.get? b = some o → (h'.push { cls := .type "list", data := .seq #[] }).get? b = some o := fun b o e => Heap.get?_push_of_some _ e
      have psz : (h'.push { cls := .type "list", data := .seq #[] }).objs.size = h'.objs.size + 1 := Heap.size_push ..
      have F : Off (s1.heap.objs.size + 4) (s1.heap.objs.size + 2) (s1.heap.objs.size + 3) s1.heap.objs.size (s1.heap.objs.size + 1) a b h'.objs.size := by
        constructor <;> (rw [hsz]) <;> first | (exact Nat.ne_of_gt (by omega)) | (exact Nat.ne_of_gt (Nat.lt_of_lt_of_le la (Nat.le_add_right _ _))) | (exact Nat.ne_of_gt (Nat.lt_of_lt_of_le lb (Nat.le_add_right _ _)))
      have cells : ∀ c ∈ [h'.objs.size, s1.heap.objs.size + 4, s1.heap.objs.size + 3, s1.heap.objs.size, s1.heap.objs.size + 1], s1.heap.objs.size ≤ c ∧ c < h'.objs.size + 1 := fun c hc => by
        simp only [List.mem_cons, List.not_mem_nil, or_false] at hc
        rcases hc with e | e | e | e | e <;> rw [e] <;> constructor <;> (try rw [hsz]) <;> omega
      refine ⟨⟨_, hS, rfl⟩, PySem.F.args_list_init_2 _ _, zip_init (base := h'.objs.size + 1) (n := min its.toArray.size its2.toArray.size) (xs := its.toArray) (ys := its2.toArray) hh D F rfl ?_ (fun c hc => (cells c hc).2) (Nat.le_of_eq psz.symm) (up _ _ hz) ⟨up _ _ hTI, h1.at fun o e => up _ o e, h2.at fun o e => up _ o e, (p1.isList.at fun o e => up _ o (hk _ o e)), (p2'.isList.at fun o e => up _ o (hk _ o e)), .inl ⟨up _ _ hz, _, _, up _ _ hTO⟩⟩ hS fun h'' Ts c' hk'' hS'' hlen hmade => ?_⟩
      · simp only [List.size_toArray]; omega
      refine ⟨rfl, ?_⟩
      obtain ⟨nd, low, pairs⟩ := hmade
      have old : ∀ b o, s1.heap.get? b = some o → h''.get? b = some o := fun c o e => hk'' c o (fun hc => by
        have h1 := (cells c hc).1
        have h2 := Heap.lt_size e
        exact Nat.lt_irrefl _ (Nat.lt_of_lt_of_le h2 h1)) (up _ _ (hk _ _ e))
      obtain ⟨H', G', I2, k2, j2, gS, sS⟩ := adopt_tuples (h2 := h'') rv rv2 J jS Ts 0 [] H1 s1.heap I1 old nd (fun T hT => by
        have := low T hT
        have hle : s1.heap.objs.size ≤ T := by rw [hsz] at this; omega
        refine ⟨?_, I1.hok.fresh hle⟩
        cases q : s1.heap.get? T with
        | none => rfl
        | some o => exact absurd (Heap.lt_size q) (Nat.not_lt.mpr hle)) (fun j T hj => by
        obtain ⟨x, y, ex, ey, hp⟩ := pairs j T hj
        exact ⟨x, y, by simpa using ex, by simpa using ey, hp⟩) j0 h'.objs.size (fun hS => by have := low _ hS; omega) (by
        cases q : s1.heap.get? h'.objs.size with
        | none => rfl
        | some o => exact absurd (Heap.lt_size q) (Nat.not_lt.mpr (by rw [hsz]; exact Nat.le_add_right _ _))) (I1.hok.fresh (by rw [hsz]; exact Nat.le_add_right _ _))
      have hnT : 0 + Ts.length = min xs.length ys.length := by
        have q1 : its.toArray.size = its.length := by simp
        have q2 : its2.toArray.size = its2.length := by simp
        omega
      rw [hnT, List.nil_append] at j2
      -- the list itself
      obtain ⟨G3, g1, g2⟩ := restrict h'' fun c => (G'.get? c).isSome || decide (c = h'.objs.size)
      have gS3 : G3.get? h'.objs.size = h''.get? h'.objs.size := g1 _ (by simp)
      have gk : ∀ c o, G'.get? c = some o → G3.get? c = some o := fun c o e => by rw [g1 c (by rw [e]; rfl)]; exact k2 c o e
      have gh : ∀ c o, G3.get? c = some o → h''.get? c = some o := fun c o e => by
        cases q : (G'.get? c).isSome || decide (c = h'.objs.size) with
        | true => rw [← g1 c q]; exact e
        | false => rw [g2 c q] at e; cases e
      have lT : (Ts.map V.ref).length ≤ sizeLine := by rw [List.length_map]; omega
      have I3 : Inv X pins σ (upd H' h'.objs.size (.lst (Ts.map V.ref))) { s1 with heap := G3 } := I2.laidN (t' := s1.toks) gk gS sS (show ObjOk X.prog X.w _ _ _ (.lst (Ts.map V.ref)) from ⟨lT, Ts.map Value.ref, c', refs_vals Ts, gS3.trans hS''⟩)
      have I4 : Inv X pins σ (upd H' h'.objs.size (.lst (Ts.map V.ref))) { s1 with heap := h'' } := I3.kept (t' := s1.toks) gh
      exact ⟨.ref h'.objs.size, _, I4, rfl, jQ _ _ _ j2 sS⟩
section
variable {K : PySem.W.Frag} {O : OL} {L : DL} {xs ys : List Int}
abbrev prD (y : Int × Int) : PyData := PyData.tuple [PyData.int y.1, PyData.int y.2]
def ZJ (K : PySem.W.Frag) (O : OL) (L : DL) (xs ys : List Int) (i : Nat) (ws : List V) (H : Hp) : Prop := St K O ((ws, ((List.zip xs ys).take i).map prD) :: L) H
theorem zj_0 {H : Hp} (hS : St K O L H) : ZJ K O L xs ys 0 [] H := hS.more Its.nil
theorem zj_S : ∀ i ws H x y T, ZJ K O L xs ys i ws H → (xs.map V.int)[i]? = some x → (ys.map V.int)[i]? = some y → H T = none → ZJ K O L xs ys (i + 1) (ws ++ [.ref T]) (upd H T (.tup [x, y])) := by
  intro i ws H x y T hJ hx hy hT
  have hS : St K O ((ws, ((List.zip xs ys).take i).map prD) :: L) H := hJ
  rw [List.getElem?_map] at hx hy
  cases ex : xs[i]? with
  | none => rw [ex] at hx; cases hx
  | some m =>
    cases ey : ys[i]? with
    | none => rw [ey] at hy; cases hy
    | some n =>
      rw [ex] at hx; rw [ey] at hy
      cases hx; cases hy
      have S2 := hS.tup hT (Its.cons (Its.int m) (Its.cons (Its.int n) Its.nil))
      have hz : (List.zip xs ys)[i]? = some (m, n) := List.getElem?_zip_eq_some.mpr ⟨ex, ey⟩
      have S3 := S2.more ((Its.app (.mem (.tail _ (.head _))) (.mem (.head _))).of (es := ((List.zip xs ys).take (i + 1)).map prD) (by
        rw [List.take_add_one, hz, List.map_append]; rfl))
      exact S3.cut 1 3
theorem zj_end {H : Hp} {ws : List V} (h : ZJ K O L xs ys (min (xs.map V.int).length (ys.map V.int).length) ws H) : St K O ((ws, (List.zip xs ys).map prD) :: L) H := by
  unfold ZJ at h
  rw [List.length_map, List.length_map, List.take_of_length_le (by rw [List.length_zip]; exact Nat.le_refl _)] at h
  exact h
end
/-! sorted(xs, reverse=True) -/
theorem desc_unique : ∀ l m : List Int, l.Perm m → l.Pairwise (· ≥ ·) → m.Pairwise (· ≥ ·) → l = m
  | [], m, h, _, _ => (List.Perm.nil_eq h)
  | x :: r, m, h, h1, h2 => by
    cases m with
    | nil => exact absurd h.length_eq (by simp)
    | cons y s =>
      have a1 := List.pairwise_cons.mp h1
      have a2 := List.pairwise_cons.mp h2
      have e : x = y := by
        have m1 : x ∈ y :: s := h.mem_iff.mp List.mem_cons_self
        have m2 : y ∈ x :: r := h.mem_iff.mpr List.mem_cons_self
        have b1 : x ≤ y := by
          rcases List.mem_cons.mp m1 with z | z
          · omega
          · exact a2.1 x z
        have b2 : y ≤ x := by
          rcases List.mem_cons.mp m2 with z | z
          · omega
          · exact a1.1 y z
        omega
      subst e
      rw [desc_unique r s h.cons_inv a1.2 a2.2]
def sortD (l : List Int) : List Int := l.mergeSort fun a b => decide (b ≤ a)
theorem sortD_of {l m : List Int} (h : m.Perm l) (o : OrdB true m) : m = sortD l := by
  refine desc_unique _ _ (h.trans (List.mergeSort_perm _ _).symm) (by unfold OrdB at o; simpa using o) ?_
  have := List.pairwise_mergeSort (le := fun a b : Int => decide (b ≤ a)) (fun a b c h1 h2 => by simp at *; omega) (fun a b => by simp; omega) l
  exact this.imp fun h => by simpa using h
/-- the test of an if, ahead of what follows -/
theorem ifsS {c : TT} {t u v : TS} {D : Ends} {σ : L2.St} {H : Hp} (h : c σ H fun b H1 => if b = true then t { D with nx := v D } σ H1 else u { D with nx := v D } σ H1) : tSeq (tIfS c t u) v D σ H := h
theorem ifsI {c : TT} {t u : TS} {D : Ends} {σ : L2.St} {H : Hp} (h : c σ H fun b H1 => if b = true then t D σ H1 else u D σ H1) : tIfS c t u D σ H := h
theorem gnS {i : Nat} {x : V} {σ : L2.St} {H : Hp} {k : L2.St → Hp → Prop} (h : k (σ.set i (some x)) H) : gName i x σ H k := h
/-- a part of a list of data; a list behind a list -/
theorem St.cutOf {K : PySem.W.Frag} {O : OL} {L : DL} {H : Hp} {α : Type} {g : α → PyData} {xs : List α} {vs : List V} (S : St K O L H) (i : Its K L vs (xs.map g)) (lo hi : Option Int) : Its K L (cutV vs lo hi) ((cutL xs lo hi).map g) := by
  have e := S.lenOf i
  rw [List.length_map] at e
  unfold cutV cutL
  rw [e, List.map_take, List.map_drop]
  exact (i.drop _).take _
theorem St.ext {K : PySem.W.Frag} {O : OL} {L : DL} {H : Hp} {p : Addr} {α : Type} {f : α → V} {k : Nat} {ys zs : List α} (S : St K O L H) (hk : O[k]? = some (p, .lst (ys.map f))) : St K (O.set k (p, .lst ((ys ++ zs).map f))) L (upd H p (.lst (ys.map f ++ zs.map f))) := by
  rw [List.map_append]
  exact S.put hk
end Z
/-! Chains of three comparisons; sorted. -/
namespace Z
open PySem PySem.Spec PyProof.Rows L2
theorem asc_unique : ∀ (r s : List Int), r.Perm s → r.Pairwise (· ≤ ·) → s.Pairwise (· ≤ ·) → r = s
  | [], s, h, _, _ => by rw [List.nil_perm.mp h]
  | x :: r, [], h, _, _ => by cases List.perm_nil.mp h
  | x :: r, y :: s, h, a1, a2 => by
    rw [List.pairwise_cons] at a1 a2
    have m1 : x ∈ y :: s := h.subset List.mem_cons_self
    have m2 : y ∈ x :: r := h.symm.subset List.mem_cons_self
    have e : x = y := by
      rcases List.mem_cons.mp m1 with z | z
      · exact z
      · have b1 : y ≤ x := a2.1 x z
        have b2 : x ≤ y := by
          rcases List.mem_cons.mp m2 with z | z
          · omega
          · exact a1.1 y z
        omega
    subst e
    rw [asc_unique r s h.cons_inv a1.2 a2.2]
def sortI (l : List Int) : List Int := l.mergeSort fun a b => decide (a ≤ b)
theorem sortI_of {l m : List Int} (h : m.Perm l) (o : m.Pairwise (· ≤ ·)) : m = sortI l := by
  refine asc_unique _ _ (h.trans (List.mergeSort_perm _ _).symm) o ?_
  have := List.pairwise_mergeSort (le := fun a b : Int => decide (a ≤ b)) (fun a b c h1 h2 => by simp at *; omega) (fun a b => by simp; omega) l
  exact this.imp fun h => by simpa using h
/-! two tuples side by side -/
section
variable {K : PySem.W.Frag} {L : DL} {O : OL} {H : Hp} {a b : Addr} {n : Nat} {ds : List PyData}
theorem walkZT : Walk (RZ.ItzT K a b) n (fun H => ∃ xs ys, SqT K H a xs ∧ SqT K H b ys ∧ min xs.length ys.length = n)
    (fun i H v H' => ∃ T x y, v = .ref T ∧ H T = none ∧ H' = upd H T (.tup [x, y]) ∧ (∀ xs, SqT K H a xs → xs[i]? = some x) ∧ ∀ ys, SqT K H b ys → ys[i]? = some y) := by
  refine ⟨?_, ?_, fun _ _ _ _ _ _ y => y⟩
  · rintro i H hi ⟨xs, ys, q1, q2, e⟩
    have h1 : i < xs.length := by omega
    have h2 : i < ys.length := by omega
    exact ⟨xs, ys, xs[i], ys[i], q1, q2, by simp [h1], by simp [h2]⟩
  · rintro H ⟨xs, ys, q1, q2, e⟩
    exact ⟨xs, ys, q1, q2, by omega⟩
theorem dataT (S : St K O L H) (h : ([V.ref a], [PyData.tuple ds]) ∈ L) (e : ds.length = n) : ∃ ys, SqT K H a ys ∧ ys.length = n := by
  obtain ⟨b, xs, eb, q, l, _⟩ := S.tseq (.mem h)
  cases eb
  exact ⟨xs, q, l.trans e⟩
theorem bothT {m n : Nat} (h1 : ∃ xs, SqT K H a xs ∧ xs.length = m) (h2 : ∃ ys, SqT K H b ys ∧ ys.length = n) : ∃ xs ys, SqT K H a xs ∧ SqT K H b ys ∧ min xs.length ys.length = min m n := by
  obtain ⟨xs, q1, e1⟩ := h1
  obtain ⟨ys, q2, e2⟩ := h2
  exact ⟨xs, ys, q1, q2, by rw [e1, e2]⟩
end
/-! dicts with pairs of ints as keys -/
def pK (e : Int × Int) : List Key := [Sum.inl e.1, Sum.inl e.2]
theorem pK_inj : ∀ a b : Int × Int, pK a = pK b → a = b := fun a b h => by
  unfold pK at h
  simp only [List.cons.injEq, Sum.inl.injEq, and_true] at h
  exact Prod.ext h.1 h.2
def kvsT {β : Type} (f : β → V) (m : List ((Int × Int) × β)) : List (List Key × V) := m.map fun e => (pK e.1, f e.2)
theorem pK_dec (a b : Int × Int) : decide (pK a = pK b) = decide (a = b) := by
  by_cases h : a = b
  · rw [h, decide_eq_true rfl, decide_eq_true rfl]
  · rw [decide_eq_false h, decide_eq_false fun e => h (pK_inj a b e)]
theorem valV_kvsT {β : Type} {f : β → V} (m : List ((Int × Int) × β)) (k : Int × Int) : valV (kvsT f m) (pK k) = (dget m k).map f := by
  unfold valV kvsT dget
  rw [List.find?_map, Option.map_map, Option.map_map]
  have e : ((fun kv : List Key × V => decide (kv.1 = pK k)) ∘ fun e : (Int × Int) × β => (pK e.1, f e.2)) = fun e => decide (e.1 = k) := by
    funext e; exact pK_dec e.1 k
  rw [e]; rfl
theorem putK_kvsT {β : Type} {f : β → V} (m : List ((Int × Int) × β)) (k : Int × Int) (v : β) : putK (kvsT f m) (pK k) (f v) = kvsT f (dput m k v) := by
  have e1 : ((kvsT f m).any fun kv => decide (kv.1 = pK k)) = m.any fun e => decide (e.1 = k) := by
    unfold kvsT
    rw [List.any_map]
    congr 1
    funext e; exact pK_dec e.1 k
  unfold putK dput
  rw [e1]
  split
  · unfold kvsT
    rw [List.map_map, List.map_map]
    refine List.map_congr_left fun e _ => ?_
    show (if pK e.1 = pK k then (pK e.1, f v) else (pK e.1, f e.2)) = (pK (if e.1 = k then (e.1, v) else e).1, f (if e.1 = k then (e.1, v) else e).2)
    by_cases h : e.1 = k
    · rw [if_pos h, if_pos (by rw [h])]
    · rw [if_neg h, if_neg fun z => h (pK_inj _ _ z)]
  · unfold kvsT; rw [List.map_append]; rfl
theorem upd_at (H : Hp) (p : Addr) (o : HO) : upd H p o p = some o := if_pos rfl
section
variable {β : Type} {K : PySem.W.Frag} {L : DL} {O : OL} {H : Hp} {p b : Addr} {k : Nat} {f : β → V} {m : List ((Int × Int) × β)} {c : Int × Int} {x : β}
theorem St.dgoT (S : St K O L H) (h : O[k]? = some (p, .dT (kvsT f m))) (eb : H b = some (.tup ((pK c).map kV))) : DGet H p (.ref b) ((dget m c).map f) := by
  rw [← valV_kvsT]; exact DGet.t (S.at h) eb
theorem St.dgsT (S : St K O L H) (h : O[k]? = some (p, .dT (kvsT f m))) (eb : H b = some (.tup ((pK c).map kV))) (e : dget m c = some x) : DGet H p (.ref b) (some (f x)) := by
  have := S.dgoT h eb
  rw [e] at this; exact this
theorem St.dputT (S : St K O L H) (h : O[k]? = some (p, .dT (kvsT f m))) (eb : H b = some (.tup ((pK c).map kV))) (l : m.length < sizeLine) : DPut H p (.ref b) (f x) (upd H p (.dT (kvsT f (Z.dput m c x)))) := by
  rw [← putK_kvsT]
  exact DPut.t (S.at h) eb (by unfold kvsT; rw [List.length_map]; exact l)
end
/-- a text of any size so many times -/
def CRepS (z : Str) (n : Int) : Prop := -(2 ^ 63) ≤ n ∧ n ≤ 1000000 ∧ z.length * n.toNat ≤ 16777216
instance (z : Str) (n : Int) : Decidable (CRepS z n) := by unfold CRepS; infer_instance
theorem CRepS.ok {z : Str} {n : Int} (h : CRepS z n) : MulOk z n := mulOk_of z.length n.toNat (Nat.le_refl _) (by omega) h.1 (by have := h.2.1; omega) h.2.2
/-- the loop, where what follows stands by itself -/
theorem for_loopN {S T R : Type} {J : It} {n : Nat} {G : Hp → Prop} {Y : Nat → Hp → V → Hp → Prop} {g : TG} {tb : TS} {nx : L2.St → Hp → Prop} {rt : VK} {σ : L2.St} {H : Hp} {res : Step S R} (w : Walk J n G Y) (items : List T) (hn : items.length = n) (f : T → S → Option (Step S R)) (s0 : S)
    (hl : loopM f items s0 = some res) (Iv : S → L2.St → Hp → Prop) (h0 : Iv s0 σ H) (hG : ∀ s σ H, Iv s σ H → G H) (after : ∀ s σ H, Iv s σ H → res = .go s → nx σ H)
    (turn : (∀ s σ H, Iv s σ H → res = .go s → nx σ H) → ∀ (i : Nat) (x : T) (v : V) (s : S) (fl : Step S R) (σ : L2.St) (H H' : Hp), items[i]? = some x → Iv s σ H → Y i H v H' → f x s = some fl → (∀ r, fl = .ret r → res = .ret r) → (∀ s', fl = .out s' → res = .go s') →
      g v σ H' fun σ2 H2 => tb { nx := fun σ' H' => ∃ s', fl = .go s' ∧ Iv s' σ' H', rt := rt, bk := nx, ct := fun σ' H' => ∃ s', fl = .go s' ∧ Iv s' σ' H' } σ2 H2) :
    ∃ W : Nat → Nat → L2.St → Hp → Prop, (∃ m, W 0 m σ H) ∧ ∀ i m σ H, W i m σ H →
      (J.stop i H ∧ nx σ H) ∨ (J.go i H ∧ ∃ N : L2.St → Hp → Prop, (∀ σ' H', N σ' H' → ∃ m', m' < m ∧ W (i + 1) m' σ' H') ∧ ∀ x H', J.yld i H x H' → g x σ H' fun σ2 H2 => tb { nx := N, rt := rt, bk := nx, ct := N } σ2 H2) :=
  for_loop (D := ⟨nx, rt, nx, nx⟩) w items hn f s0 hl Iv h0 hG after turn
theorem tyT {K : PySem.W.Frag} {H : Hp} {a : Addr} {xs : List V} (h : SqT K H a xs) : TyX K H (.ref a) (.type "tuple") := by
  rcases h with (h | ⟨o, h⟩) | ⟨o, its, n, hk, hc, _⟩
  · exact .base (.tup h)
  · exact .fTuple h
  · exact .kTuple hk hc
section
variable {X : Cx} {a b c d : Expr} {ta tb tc td : TE} {pos : Pos}
/-- the same, where the block's own letters must not stand in the rule -/
theorem cr_maxK {K : PySem.W.Frag} (e : X.K = K) (hc : X.calm = true) : CallR X (.builtin "max") (rMax K) := e ▸ cr_max hc
theorem cr_minK {K : PySem.W.Frag} (e : X.K = K) (hc : X.calm = true) : CallR X (.builtin "min") (rMin K) := e ▸ cr_min hc
theorem cr_sumK {K : PySem.W.Frag} (e : X.K = K) (hc : X.calm = true) : CallR X (.builtin "sum") (rSum K) := e ▸ cr_sum hc
theorem cr_sortedIK {K : PySem.W.Frag} (e : X.K = K) : CallR X (.builtin "sorted") (rSortedI K) := e ▸ cr_sortedI
/-- a op1 b op2 c op3 d -/
def tChain3 (r r' r'' : R2) (ta tb tc td : TE) : TE := fun σ H Q => ta σ H fun x H1 => tb σ H1 fun y H2 => r x y H2 fun z H3 => ∃ k, z = .bl k ∧
  (if k = true then tc σ H3 fun w' H4 => r' y w' H4 fun z' H5 => ∃ k', z' = .bl k' ∧ (if k' = true then td σ H5 fun v' H6 => r'' w' v' H6 Q else Q (.bl false) H5) else Q (.bl false) H3)
theorem pe_chain3 {op op' op'' : CmpOp} {r r' r'' : R2} (ho : OpR X (compareOp op) r) (ho' : OpR X (compareOp op') r') (ho'' : OpR X (compareOp op'') r'') (ha : PE X a ta) (hb : PE X b tb) (hc : PE X c tc) (hd : PE X d td)
    (hm : lastMarks [op, op', op''] [b, c, d] = false := by with_unfolding_all rfl) : PE X (.Compare a [op, op', op''] [b, c, d] pos) (tChain3 r r' r'' ta tb tc td) := by
  refine ⟨fun pins s σ H Q I h => ?_⟩
  refine Compare_chain (thn (ha.run pins s σ H _ I h) fun v s1 ⟨x, H1, I1, r1, q1⟩ => chain_link (thn (hb.run pins s1 σ H1 _ I1 q1) fun u s2 ⟨y, H2, I2, r2, q2⟩ =>
    thn (ho pins s2 σ H2 x y v u _ I2 r1 r2 q2) fun d s3 ⟨z, H3, I3, r3, k, e, q3⟩ => ?_)) hm
  subst e
  cases r3
  refine wpAny_truthy_bool ?_
  cases k with
  | false => exact ite_ff ⟨.bl false, H3, I3, rfl, q3⟩
  | true =>
    refine ite_tt (chain_link (thn (hc.run pins s3 σ H3 _ I3 q3) fun w' s4 ⟨z', H4, I4, r4, q4⟩ => thn (ho' pins s4 σ H4 y z' u w' _ I4 r2 r4 q4) fun d' s5 ⟨z2, H5, I5, r5, k2, e2, q5⟩ => ?_))
    subst e2
    cases r5
    refine wpAny_truthy_bool ?_
    cases k2 with
    | false => exact ite_ff ⟨.bl false, H5, I5, rfl, q5⟩
    | true => exact ite_tt (chain_last (thn (hd.run pins s5 σ H5 _ I5 q5) fun w2 s6 ⟨z6, H6, I6, r6, q6⟩ => ho'' pins s6 σ H6 z' z6 w' w2 Q I6 r4 r6 q6))
end
end Z
namespace Zm
open PySem PySem.Spec PyProof.Rows L2 Z
def m__law_source (x_cell : Int) (x_k : Int) : Option ((List Int)) :=
  some ([(Z.imax (0 : Int) ((Z.iabs x_cell) - ((10 : Int) ^ (18 : Int).toNat))), (((((Z.iabs x_cell) % (((10 : Int) ^ (41 : Int).toNat) + (37 : Int))) * (89 : Int)) + ((2 : Int) * x_k)) + (if (decide (x_cell < (0 : Int))) = true then (1 : Int) else 0)), (0 : Int)])
def sp__law_source (K : PySem.W.Frag) : Sp := fun vs H Q _ => ∃ (O : Z.OL) (L : Z.DL) (x_cell : Int) (x_k : Int), vs = [V.int x_cell, V.int x_k] ∧ Z.St K (O) L H ∧ ∃ r : (List Int), m__law_source x_cell x_k = some r ∧ ∀ p H', Z.St K ((p, .lst (r.map V.int)) :: O) L H' → Q (.ref p) H'
def m_depths_along_b1  (x : Str) (s : Int × (List Int)) : Option (Z.Step (Int × (List Int)) (List Int)) :=
  (if (decide ((V.str x) = (V.str ("+" : Str)))) = true then
  Z.chk (s.2.length < sizeLine) >>= fun _ =>
  some (Z.Step.go ((s.1 + (1 : Int)), (s.2 ++ [(s.1 + (1 : Int))])))
  else
  (if ((decide ((V.str x) = (V.str ("-" : Str)))) && (decide ((0 : Int) < s.1))) = true then
  Z.chk (s.2.length < sizeLine) >>= fun _ =>
  some (Z.Step.go ((s.1 - (1 : Int)), (s.2 ++ [(s.1 - (1 : Int))])))
  else
  some (Z.Step.out (s.1, s.2))))
def m_depths_along (x_steps : Str) (x_depth : Int) : Option ((List Int)) :=
  (Z.loopM (m_depths_along_b1) (Z.signsZ x_steps) (x_depth, [x_depth])) >>= fun res3 =>
  Z.after res3 (fun (s8 : Int × (List Int)) =>
  some (s8.2))
def sp_depths_along (K : PySem.W.Frag) : Sp := fun vs H Q _ => ∃ (O : Z.OL) (L : Z.DL) (x_steps : Str) (x_depth : Int), vs = [V.str x_steps, V.int x_depth] ∧ Z.St K (O) L H ∧ ∃ r : (List Int), m_depths_along x_steps x_depth = some r ∧ ∀ p H', Z.St K ((p, .lst (r.map V.int)) :: O) L H' → Q (.ref p) H'
def m_checked_depths (x_trace : Str) : Option ((List Int)) :=
  ((if (!true) = true then
  some (true)
  else
  Z.chk (x_trace.length ≤ sizeLine) >>= fun _ =>
  some ((decide ((1000 : Int) < ((x_trace.length : Nat) : Int))))) : Option (Bool)) >>= fun (st1 : Bool) =>
  (if st1 = true then
  none
  else
  (m_depths_along x_trace (0 : Int)) >>= fun (r5 : (List Int)) =>
  Z.chk (x_trace.length ≤ sizeLine) >>= fun _ =>
  (if (decide (((r5.length : Nat) : Int) ≤ ((x_trace.length : Nat) : Int))) = true then
  none
  else
  some (r5)))
def sp_checked_depths (K : PySem.W.Frag) : Sp := fun vs H Q _ => ∃ (O : Z.OL) (L : Z.DL) (x_trace : Str), vs = [V.str x_trace] ∧ Z.St K (O) L H ∧ ∃ r : (List Int), m_checked_depths x_trace = some r ∧ ∀ p H', Z.St K ((p, .lst (r.map V.int)) :: O) L H' → Q (.ref p) H'
def m_turned_c1  (x : Str) (s : Unit) : Option (Option Str × Unit) :=
  some (some (if (decide ((V.str x) = (V.str ("+" : Str)))) = true then ("-" : Str) else ("+" : Str)), (()))
def m_turned (x_trace : Str) : Option (Str) :=
  (m_checked_depths x_trace) >>= fun (r1 : (List Int)) =>
  (atI r1 (-(1 : Int))) >>= fun (x4 : Int) =>
  (if (decide ((0 : Int) < x4)) = true then
  none
  else
  Z.chk (x_trace.length ≤ sizeLine) >>= fun _ =>
  Z.chk ((Z.signsZ (Z.backS x_trace)).length < sizeLine) >>= fun _ =>
  Z.compM (m_turned_c1) (Z.signsZ (Z.backS x_trace)) (()) >>= fun (r9 : List Str × Unit) =>
  Z.chk (Z.CJoin ("" : Str) r9.1) >>= fun _ =>
  some ((Z.joinZ ("" : Str) r9.1)))
def sp_turned (K : PySem.W.Frag) : Sp := fun vs H Q _ => ∃ (O : Z.OL) (L : Z.DL) (x_trace : Str), vs = [V.str x_trace] ∧ Z.St K (O) L H ∧ ∃ r : Str, m_turned x_trace = some r ∧ ∀ H', Z.St K (O) L H' → Q (V.str r) H'
def m__law_draw (x_source : List Int) (x_count : Int) : Option (Int × (List Int)) :=
  (atI x_source (0 : Int)) >>= fun (x1 : Int) =>
  (if (decide ((0 : Int) < x1)) = true then
  (atI x_source (0 : Int)) >>= fun (x3 : Int) =>
  Z.chk ((0 : Int) < x_count) >>= fun _ =>
  (atI x_source (0 : Int)) >>= fun (x6 : Int) =>
  Z.chk (CDivW x6 x_count) >>= fun _ =>
  (Z.setI x_source (0 : Int) (x6 / x_count)) >>= fun (y9 : List Int) =>
  some ((x3 % x_count), y9)
  else
  (atI x_source (2 : Int)) >>= fun (x12 : Int) =>
  (Z.setI x_source (2 : Int) (x12 + (1 : Int))) >>= fun (y14 : List Int) =>
  (atI y14 (1 : Int)) >>= fun (x17 : Int) =>
  (atI y14 (2 : Int)) >>= fun (x19 : Int) =>
  Z.chk (Z.CPowZ (x17 + ((700001 : Int) * x19)) (3 : Int)) >>= fun _ =>
  (atI y14 (2 : Int)) >>= fun (x22 : Int) =>
  Z.chk (CMulW (((x17 + ((700001 : Int) * x19)) ^ (3 : Int).toNat) % (((10 : Int) ^ (37 : Int).toNat) + (43 : Int))) x22) >>= fun _ =>
  Z.chk (Z.CPowZ (((((x17 + ((700001 : Int) * x19)) ^ (3 : Int).toNat) % (((10 : Int) ^ (37 : Int).toNat) + (43 : Int))) * x22) + (90001 : Int)) (3 : Int)) >>= fun _ =>
  Z.chk ((0 : Int) < x_count) >>= fun _ =>
  some ((((((((((x17 + ((700001 : Int) * x19)) ^ (3 : Int).toNat) % (((10 : Int) ^ (37 : Int).toNat) + (43 : Int))) * x22) + (90001 : Int)) ^ (3 : Int).toNat) % (((10 : Int) ^ (39 : Int).toNat) + (3 : Int))) / (65537 : Int)) % x_count), y14))
def sp__law_draw (K : PySem.W.Frag) : Sp := fun vs H Q _ => ∃ (O : Z.OL) (L : Z.DL) (p_source : Addr) (x_source : List Int) (x_count : Int), vs = [.ref p_source, V.int x_count] ∧ Z.St K ((p_source, .lst (x_source.map V.int)) :: O) L H ∧ ∃ r : Int × (List Int), m__law_draw x_source x_count = some r ∧ ∀ H', Z.St K ((p_source, .lst (r.2.map V.int)) :: O) L H' → Q (V.int r.1) H'
def m_is_trace (x_value : Str) : Option (Bool) :=
  (m_checked_depths x_value) >>= fun (r1 : (List Int)) =>
  some (true)
def sp_is_trace (K : PySem.W.Frag) : Sp := fun vs H Q _ => ∃ (O : Z.OL) (L : Z.DL) (x_value : Str), vs = [V.str x_value] ∧ Z.St K (O) L H ∧ ∃ r : Bool, m_is_trace x_value = some r ∧ ∀ H', Z.St K (O) L H' → Q (V.bl r) H'
def m__law_stages_b1 (x_held : Int) (x : Str) (s : Int × (List Int)) : Option (Z.Step (Int × (List Int)) (List Int)) :=
  Z.chk (s.2.length < sizeLine) >>= fun _ =>
  some (Z.Step.go ((s.1 + (if (decide ((V.str x) = (V.str ("+" : Str)))) = true then (1 : Int) else (-(1 : Int)))), (s.2 ++ [(Z.imax (0 : Int) ((s.1 + (if (decide ((V.str x) = (V.str ("+" : Str)))) = true then (1 : Int) else (-(1 : Int)))) - x_held))])))
def m__law_stages (x_path : Str) (x_held : Int) : Option ((List Int)) :=
  (Z.loopM (m__law_stages_b1 x_held) (Z.signsZ x_path) ((0 : Int), [(0 : Int)])) >>= fun res3 =>
  Z.after res3 (fun (s7 : Int × (List Int)) =>
  some (s7.2))
def sp__law_stages (K : PySem.W.Frag) : Sp := fun vs H Q _ => ∃ (O : Z.OL) (L : Z.DL) (x_path : Str) (x_held : Int), vs = [V.str x_path, V.int x_held] ∧ Z.St K (O) L H ∧ ∃ r : (List Int), m__law_stages x_path x_held = some r ∧ ∀ p H', Z.St K ((p, .lst (r.map V.int)) :: O) L H' → Q (.ref p) H'
def m__law_path_b1 (x_many : Int) (r1 : Int × (List Int)) (s : Str × Int × (List Int)) : Option (Z.Step (Str × Int × (List Int)) (Str × (List Int))) :=
  Z.chk (s.1.length ≤ sizeLine) >>= fun _ =>
  (if (decide (((s.1.length : Nat) : Int) < x_many)) = true then
  Z.chk (s.1.length ≤ sizeLine) >>= fun _ =>
  (atI ([(1 : Int), (6 : Int), (30 : Int)]) r1.1) >>= fun (x10 : Int) =>
  (m__law_draw s.2.2 x10) >>= fun (r12 : Int × (List Int)) =>
  ((if (decide ((0 : Int) < s.2.1)) = true then
  (m__law_draw r12.2 (2 : Int)) >>= fun (r16 : Int × (List Int)) =>
  some ((decide (r16.1 = (0 : Int))), r16.2)
  else
  some (false, r12.2)) : Option (Bool × (List Int))) >>= fun (st14 : Bool × (List Int)) =>
  (if st14.1 = true then
  Z.chk (Z.CRep ("-" : Str) (Z.imin (Z.imin (x_many - ((s.1.length : Nat) : Int)) ((1 : Int) + r12.1)) s.2.1)) >>= fun _ =>
  Z.chk (s.1.length + (Txt.mul ("-" : Str) (Z.imin (Z.imin (x_many - ((s.1.length : Nat) : Int)) ((1 : Int) + r12.1)) s.2.1)).length ≤ sizeLine) >>= fun _ =>
  some (Z.Step.go ((s.1 ++ (Txt.mul ("-" : Str) (Z.imin (Z.imin (x_many - ((s.1.length : Nat) : Int)) ((1 : Int) + r12.1)) s.2.1))), (s.2.1 - (Z.imin (Z.imin (x_many - ((s.1.length : Nat) : Int)) ((1 : Int) + r12.1)) s.2.1)), st14.2))
  else
  Z.chk (Z.CRep ("+" : Str) (Z.imin (x_many - ((s.1.length : Nat) : Int)) ((1 : Int) + r12.1))) >>= fun _ =>
  Z.chk (s.1.length + (Txt.mul ("+" : Str) (Z.imin (x_many - ((s.1.length : Nat) : Int)) ((1 : Int) + r12.1))).length ≤ sizeLine) >>= fun _ =>
  some (Z.Step.go ((s.1 ++ (Txt.mul ("+" : Str) (Z.imin (x_many - ((s.1.length : Nat) : Int)) ((1 : Int) + r12.1)))), (s.2.1 + (Z.imin (x_many - ((s.1.length : Nat) : Int)) ((1 : Int) + r12.1))), st14.2)))
  else
  some (Z.Step.out (s.1, s.2.1, s.2.2)))
def m__law_path (x_source : List Int) (x_many : Int) : Option (Str × (List Int)) :=
  (m__law_draw x_source (3 : Int)) >>= fun (r1 : Int × (List Int)) =>
  (Z.whileM (m__law_path_b1 x_many r1) Z.FUEL (("" : Str), (0 : Int), r1.2)) >>= fun res4 =>
  Z.after res4 (fun (s23 : Str × Int × (List Int)) =>
  some (s23.1, s23.2.2))
def sp__law_path (K : PySem.W.Frag) : Sp := fun vs H Q _ => ∃ (O : Z.OL) (L : Z.DL) (p_source : Addr) (x_source : List Int) (x_many : Int), vs = [.ref p_source, V.int x_many] ∧ Z.St K ((p_source, .lst (x_source.map V.int)) :: O) L H ∧ ∃ r : Str × (List Int), m__law_path x_source x_many = some r ∧ ∀ H', Z.St K ((p_source, .lst (r.2.map V.int)) :: O) L H' → Q (V.str r.1) H'
def m__law_closed_b1 (x_many : Int) (s : Str × Int) : Option (Z.Step (Str × Int) (Str × (List Int))) :=
  Z.chk (s.1.length ≤ sizeLine) >>= fun _ =>
  (if (decide (x_many < (((s.1.length : Nat) : Int) + s.2))) = true then
  Z.chk (s.1.length ≤ sizeLine) >>= fun _ =>
  (atI s.1.cps.toList (-(1 : Int))) >>= fun (x15 : Nat) =>
  Z.chk (s.1.length ≤ sizeLine) >>= fun _ =>
  some (Z.Step.go ((cutS s.1 none (some (-(1 : Int)))), (s.2 - (if (decide ((V.str (⟨#[x15]⟩ : Str)) = (V.str ("+" : Str)))) = true then (1 : Int) else (-(1 : Int))))))
  else
  some (Z.Step.out (s.1, s.2)))
def m__law_closed (x_source : List Int) (x_many : Int) : Option (Str × (List Int)) :=
  (m__law_draw x_source (x_many + (1 : Int))) >>= fun (r1 : Int × (List Int)) =>
  (m__law_path r1.2 r1.1) >>= fun (r3 : Str × (List Int)) =>
  (m__law_stages r3.1 (0 : Int)) >>= fun (r5 : (List Int)) =>
  (atI r5 (-(1 : Int))) >>= fun (x8 : Int) =>
  (Z.whileM (m__law_closed_b1 x_many) Z.FUEL (r3.1, x8)) >>= fun res10 =>
  Z.after res10 (fun (s18 : Str × Int) =>
  Z.chk (Z.CRep ("-" : Str) s18.2) >>= fun _ =>
  Z.chk (s18.1.length + (Txt.mul ("-" : Str) s18.2).length ≤ sizeLine) >>= fun _ =>
  some ((s18.1 ++ (Txt.mul ("-" : Str) s18.2)), r3.2))
def sp__law_closed (K : PySem.W.Frag) : Sp := fun vs H Q _ => ∃ (O : Z.OL) (L : Z.DL) (p_source : Addr) (x_source : List Int) (x_many : Int), vs = [.ref p_source, V.int x_many] ∧ Z.St K ((p_source, .lst (x_source.map V.int)) :: O) L H ∧ ∃ r : Str × (List Int), m__law_closed x_source x_many = some r ∧ ∀ H', Z.St K ((p_source, .lst (r.2.map V.int)) :: O) L H' → Q (V.str r.1) H'
def m_is_integer (x_value : Int) : Option (Bool) :=
  some ((true && (!false)))
def sp_is_integer (K : PySem.W.Frag) : Sp := fun vs H Q _ => ∃ (O : Z.OL) (L : Z.DL) (x_value : Int), vs = [V.int x_value] ∧ Z.St K (O) L H ∧ ∃ r : Bool, m_is_integer x_value = some r ∧ ∀ H', Z.St K (O) L H' → Q (V.bl r) H'
def m_check_top (x_top : Int) (x_most : Int) : Option (Unit) :=
  (m_is_integer x_top) >>= fun (r1 : Bool) =>
  (if ((!r1) || (!((decide ((0 : Int) ≤ x_top)) && (decide (x_top ≤ x_most))))) = true then
  none
  else
  some (()))
def sp_check_top (K : PySem.W.Frag) : Sp := fun vs H Q _ => ∃ (O : Z.OL) (L : Z.DL) (x_top : Int) (x_most : Int), vs = [V.int x_top, V.int x_most] ∧ Z.St K (O) L H ∧ ∃ r : Unit, m_check_top x_top x_most = some r ∧ ∀ H', Z.St K (O) L H' → Q V.non H'
def m_levels_above_c1 (x_top : Int) (x : Int) (s : Unit) : Option (Option Int × Unit) :=
  some (some (if (decide (x_top < x)) = true then (x - x_top) else (0 : Int)), (()))
def m_levels_above (x_depths : List Int) (x_top : Int) : Option ((List Int)) :=
  Z.chk (x_depths.length < sizeLine) >>= fun _ =>
  Z.compM (m_levels_above_c1 x_top) x_depths (()) >>= fun (r6 : List Int × Unit) =>
  some (r6.1)
def sp_levels_above (K : PySem.W.Frag) : Sp := fun vs H Q _ => ∃ (O : Z.OL) (L : Z.DL) (v_depths : V) (x_depths : List Int) (x_top : Int), vs = [v_depths, V.int x_top] ∧ Z.St K (O) L H ∧ Z.Its K L [v_depths] [(PyData.list (x_depths.map PyData.int))] ∧ ∃ r : (List Int), m_levels_above x_depths x_top = some r ∧ ∀ p H', Z.St K ((p, .lst (r.map V.int)) :: O) L H' → Q (.ref p) H'
def m_levels_of (x_trace : Str) (x_top : Int) : Option ((List Int)) :=
  (m_checked_depths x_trace) >>= fun (r1 : (List Int)) =>
  (m_check_top x_top (1000 : Int)) >>= fun (r4 : Unit) =>
  (m_levels_above r1 x_top) >>= fun (r6 : (List Int)) =>
  some (r6)
def sp_levels_of (K : PySem.W.Frag) : Sp := fun vs H Q _ => ∃ (O : Z.OL) (L : Z.DL) (x_trace : Str) (x_top : Int), vs = [V.str x_trace, V.int x_top] ∧ Z.St K (O) L H ∧ ∃ r : (List Int), m_levels_of x_trace x_top = some r ∧ ∀ p H', Z.St K ((p, .lst (r.map V.int)) :: O) L H' → Q (.ref p) H'
def m_depths_of (x_trace : Str) : Option ((List Int)) :=
  (m_checked_depths x_trace) >>= fun (r1 : (List Int)) =>
  some (r1)
def sp_depths_of (K : PySem.W.Frag) : Sp := fun vs H Q _ => ∃ (O : Z.OL) (L : Z.DL) (x_trace : Str), vs = [V.str x_trace] ∧ Z.St K (O) L H ∧ ∃ r : (List Int), m_depths_of x_trace = some r ∧ ∀ p H', Z.St K ((p, .lst (r.map V.int)) :: O) L H' → Q (.ref p) H'
def m_pops_of_b1 (x_levels : List Int) (x : Int) (s : (List Int) × (List (Int × Int))) : Option (Z.Step ((List Int) × (List (Int × Int))) (List (Int × Int))) :=
  (atI x_levels x) >>= fun (x11 : Int) =>
  (atI x_levels (x + (1 : Int))) >>= fun (x14 : Int) =>
  (if (decide (x11 < x14)) = true then
  Z.chk (s.1.length < sizeLine) >>= fun _ =>
  some (Z.Step.go ((s.1 ++ [x]), s.2))
  else
  (atI x_levels x) >>= fun (x18 : Int) =>
  (atI x_levels (x + (1 : Int))) >>= fun (x21 : Int) =>
  (if (decide (x21 < x18)) = true then
  (Z.lastZ s.1) >>= fun (x23 : Int) =>
  Z.chk (s.2.length < sizeLine) >>= fun _ =>
  some (Z.Step.go (s.1.dropLast, (Z.dput s.2 x23 x)))
  else
  some (Z.Step.go (s.1, s.2))))
def m_pops_of (x_levels : List Int) : Option ((List (Int × Int))) :=
  Z.chk (Z.CRng (((x_levels.length : Nat) : Int) - (1 : Int))) >>= fun _ =>
  (Z.loopM (m_pops_of_b1 x_levels) (Z.upto (0 : Int) (((x_levels.length : Nat) : Int) - (1 : Int))) ([], ([] : List (Int × Int)))) >>= fun res7 =>
  Z.after res7 (fun (s26 : (List Int) × (List (Int × Int))) =>
  some (s26.2))
def sp_pops_of (K : PySem.W.Frag) : Sp := fun vs H Q _ => ∃ (O : Z.OL) (L : Z.DL) (v_levels : V) (x_levels : List Int), vs = [v_levels] ∧ Z.St K (O) L H ∧ Z.Its K L [v_levels] [(PyData.list (x_levels.map PyData.int))] ∧ ∃ r : (List (Int × Int)), m_pops_of x_levels = some r ∧ ∀ p H', Z.St K ((p, .dK (Z.kvs Sum.inl V.int r)) :: O) L H' → Q (.ref p) H'
def m_call_levels_of_c1  (x : Int × Int) (s : Unit) : Option (Option Int × Unit) :=
  (if (decide (x.1 < x.2)) = true then
  some (some x.2, (()))
  else
  some (none, (())))
def m_call_levels_of (x_levels : List Int) : Option ((List Int)) :=
  Z.chk ((List.zip x_levels (Z.cutL x_levels (some (1 : Int)) none)).length < sizeLine) >>= fun _ =>
  Z.compM (m_call_levels_of_c1) (List.zip x_levels (Z.cutL x_levels (some (1 : Int)) none)) (()) >>= fun (r8 : List Int × Unit) =>
  some (r8.1)
def sp_call_levels_of (K : PySem.W.Frag) : Sp := fun vs H Q _ => ∃ (O : Z.OL) (L : Z.DL) (v_levels : V) (x_levels : List Int), vs = [v_levels] ∧ Z.St K (O) L H ∧ Z.Its K L [v_levels] [(PyData.list (x_levels.map PyData.int))] ∧ ∃ r : (List Int), m_call_levels_of x_levels = some r ∧ ∀ p H', Z.St K ((p, .lst (r.map V.int)) :: O) L H' → Q (.ref p) H'
def m_heights_of_b1  (x : Int) (s : (List Int) × (List Int)) : Option (Z.Step ((List Int) × (List Int)) (List Int)) :=
  (atI s.1 (x + (1 : Int))) >>= fun (x14 : Int) =>
  (Z.setI s.1 (x + (1 : Int)) (0 : Int)) >>= fun (y16 : List Int) =>
  ((atI y16 x) >>= fun (x21 : Int) =>
  (if (decide (x21 < (x14 + (1 : Int)))) = true then
  (Z.setI y16 x (x14 + (1 : Int))) >>= fun (y23 : List Int) =>
  some (y23)
  else
  some (y16)) : Option ((List Int))) >>= fun (st19 : (List Int)) =>
  Z.chk (s.2.length < sizeLine) >>= fun _ =>
  some (Z.Step.go (st19, (s.2 ++ [(x14 + (1 : Int))])))
def m_heights_of (x_levels : List Int) : Option ((List Int)) :=
  Z.chk (Z.CRepL ([(0 : Int)]).length ((Z.lmaxD x_levels (0 : Int)) + (2 : Int))) >>= fun _ =>
  (Z.loopM (m_heights_of_b1) x_levels.reverse ((Z.repL ([(0 : Int)]) ((Z.lmaxD x_levels (0 : Int)) + (2 : Int))), [])) >>= fun res11 =>
  Z.after res11 (fun (s27 : (List Int) × (List Int)) =>
  some (s27.2.reverse))
def sp_heights_of (K : PySem.W.Frag) : Sp := fun vs H Q _ => ∃ (O : Z.OL) (L : Z.DL) (v_levels : V) (x_levels : List Int), vs = [v_levels] ∧ Z.St K (O) L H ∧ Z.Its K L [v_levels] [(PyData.list (x_levels.map PyData.int))] ∧ ∃ r : (List Int), m_heights_of x_levels = some r ∧ ∀ p H', Z.St K ((p, .lst (r.map V.int)) :: O) L H' → Q (.ref p) H'
def m_calls_of_c1 (r1 : (List Int)) (x : Int) (s : Unit) : Option (Option Int × Unit) :=
  (atI r1 x) >>= fun (x12 : Int) =>
  (atI r1 (x + (1 : Int))) >>= fun (x15 : Int) =>
  (if (decide (x12 < x15)) = true then
  some (some x, (()))
  else
  some (none, (())))
def m_calls_of_c2 (r4 : (List (Int × Int))) (x : Int × Int × Int) (s : Unit) : Option (Option (Int × Option Int × Int × Int) × Unit) :=
  some (some (x.1, (Z.dget r4 x.1), x.2.1, x.2.2), (()))
def m_calls_of (x_trace : Str) (x_top : Int) : Option ((List (Int × Option Int × Int × Int))) :=
  (m_levels_of x_trace x_top) >>= fun (r1 : (List Int)) =>
  (m_pops_of r1) >>= fun (r4 : (List (Int × Int))) =>
  Z.chk (x_trace.length ≤ sizeLine) >>= fun _ =>
  Z.chk (Z.CRng ((x_trace.length : Nat) : Int)) >>= fun _ =>
  Z.chk ((Z.upto (0 : Int) ((x_trace.length : Nat) : Int)).length < sizeLine) >>= fun _ =>
  Z.compM (m_calls_of_c1 r1) (Z.upto (0 : Int) ((x_trace.length : Nat) : Int)) (()) >>= fun (r17 : List Int × Unit) =>
  (m_call_levels_of r1) >>= fun (r18 : (List Int)) =>
  (m_heights_of r18) >>= fun (r21 : (List Int)) =>
  Z.chk ((List.zip r17.1 (List.zip r18 r21)).length < sizeLine) >>= fun _ =>
  Z.compM (m_calls_of_c2 r4) (List.zip r17.1 (List.zip r18 r21)) (()) >>= fun (r29 : List (Int × Option Int × Int × Int) × Unit) =>
  some (r29.1)
def sp_calls_of (K : PySem.W.Frag) : Sp := fun vs H Q _ => ∃ (O : Z.OL) (L : Z.DL) (x_trace : Str) (x_top : Int), vs = [V.str x_trace, V.int x_top] ∧ Z.St K (O) L H ∧ ∃ r : (List (Int × Option Int × Int × Int)), m_calls_of x_trace x_top = some r ∧ ∀ p ws H', Z.St K ((p, .lst ws) :: O) ((ws, r.map (fun y : (Int × Option Int × Int × Int) => (PyData.tuple [(PyData.int y.1), (Z.dO y.2.1), (PyData.int y.2.2.1), (PyData.int y.2.2.2)]))) :: L) H' → Q (.ref p) H'
def m__law_calls_b1 (r1 : (List Int)) (r4 : (List Int)) (x : Int) (sz : Int × Int) : Option (Z.Step (Int × Int) (List (Int × Option Int × Int × Int))) :=
  ((if (decide (sz.1 < ((r4.length : Nat) : Int))) = true then
  (atI r4 sz.1) >>= fun (x29 : Int) =>
  (atI r4 (x + (1 : Int))) >>= fun (x31 : Int) =>
  some ((decide (x31 ≤ x29)))
  else
  some (false)) : Option (Bool)) >>= fun (st27 : Bool) =>
  (if st27 = true then
  (atI r1 sz.1) >>= fun (x34 : Int) =>
  some (Z.Step.go ((sz.1 + (1 : Int)), (Z.imax sz.2 x34)))
  else
  some (Z.Step.out (sz.1, sz.2)))
def m__law_calls_b2 (r1 : (List Int)) (r4 : (List Int)) (x : Int) (s : (List (Int × Option Int × Int × Int))) : Option (Z.Step (List (Int × Option Int × Int × Int)) (List (Int × Option Int × Int × Int))) :=
  (atI r1 (x + (1 : Int))) >>= fun (x18 : Int) =>
  (atI r4 (x + (1 : Int))) >>= fun (x20 : Int) =>
  (atI r4 x) >>= fun (x22 : Int) =>
  (if ((decide (x22 < x20)) && (decide ((0 : Int) < x18))) = true then
  (Z.whileM (m__law_calls_b1 r1 r4 x) Z.FUEL ((x + (1 : Int)), x18)) >>= fun res24 =>
  Z.afterS res24 (fun (s36 : Int × Int) =>
  Z.chk (s.length < sizeLine) >>= fun _ =>
  some (Z.Step.go ((s ++ [(x, (if (decide (s36.1 = ((r4.length : Nat) : Int))) = true then (none : Option Int) else (some (s36.1 - (1 : Int)))), x18, ((s36.2 - x18) + (1 : Int)))]))))
  else
  some (Z.Step.go (s)))
def m__law_calls (x_path : Str) (x_held : Int) : Option ((List (Int × Option Int × Int × Int))) :=
  (m__law_stages x_path x_held) >>= fun (r1 : (List Int)) =>
  (m__law_stages x_path (0 : Int)) >>= fun (r4 : (List Int)) =>
  Z.chk (x_path.length ≤ sizeLine) >>= fun _ =>
  Z.chk (Z.CRng ((x_path.length : Nat) : Int)) >>= fun _ =>
  (Z.loopM (m__law_calls_b2 r1 r4) (Z.upto (0 : Int) ((x_path.length : Nat) : Int)) (([] : List (Int × Option Int × Int × Int)))) >>= fun res15 =>
  Z.after res15 (fun (s39 : (List (Int × Option Int × Int × Int))) =>
  some (s39))
def sp__law_calls (K : PySem.W.Frag) : Sp := fun vs H Q _ => ∃ (O : Z.OL) (L : Z.DL) (x_path : Str) (x_held : Int), vs = [V.str x_path, V.int x_held] ∧ Z.St K (O) L H ∧ ∃ r : (List (Int × Option Int × Int × Int)), m__law_calls x_path x_held = some r ∧ ∀ p ws H', Z.St K ((p, .lst ws) :: O) ((ws, r.map (fun y : (Int × Option Int × Int × Int) => (PyData.tuple [(PyData.int y.1), (Z.dO y.2.1), (PyData.int y.2.2.1), (PyData.int y.2.2.2)]))) :: L) H' → Q (.ref p) H'
def m_open_heights_of_b1  (x : Int) (s : Int × Int × (List Int)) : Option (Z.Step (Int × Int × (List Int)) (List Int)) :=
  (if (decide (x < s.1)) = true then
  Z.chk (s.2.2.length < sizeLine) >>= fun _ =>
  some (Z.Step.go (x, s.2.1, (s.2.2 ++ [(s.2.1 - x)])))
  else
  (if (decide (s.2.1 < x)) = true then
  some (Z.Step.go (s.1, x, s.2.2))
  else
  some (Z.Step.go (s.1, s.2.1, s.2.2))))
def m_open_heights_of (x_levels : List Int) : Option ((List Int)) :=
  (atI x_levels (-(1 : Int))) >>= fun (x4 : Int) =>
  (Z.loopM (m_open_heights_of_b1) x_levels.reverse (x4, x4, [])) >>= fun res9 =>
  Z.after res9 (fun (s13 : Int × Int × (List Int)) =>
  some (s13.2.2.reverse))
def sp_open_heights_of (K : PySem.W.Frag) : Sp := fun vs H Q _ => ∃ (O : Z.OL) (L : Z.DL) (v_levels : V) (x_levels : List Int), vs = [v_levels] ∧ Z.St K (O) L H ∧ Z.Its K L [v_levels] [(PyData.list (x_levels.map PyData.int))] ∧ ∃ r : (List Int), m_open_heights_of x_levels = some r ∧ ∀ p H', Z.St K ((p, .lst (r.map V.int)) :: O) L H' → Q (.ref p) H'
def m_open_heights (x_trace : Str) (x_top : Int) : Option ((List Int)) :=
  (m_levels_of x_trace x_top) >>= fun (r1 : (List Int)) =>
  (m_open_heights_of r1) >>= fun (r4 : (List Int)) =>
  some (r4)
def sp_open_heights (K : PySem.W.Frag) : Sp := fun vs H Q _ => ∃ (O : Z.OL) (L : Z.DL) (x_trace : Str) (x_top : Int), vs = [V.str x_trace, V.int x_top] ∧ Z.St K (O) L H ∧ ∃ r : (List Int), m_open_heights x_trace x_top = some r ∧ ∀ p H', Z.St K ((p, .lst (r.map V.int)) :: O) L H' → Q (.ref p) H'
def m__law_open_b1 (r1 : (List Int)) (x : Int) (s : Int × Int × (List Int)) : Option (Z.Step (Int × Int × (List Int)) (List Int)) :=
  (atI r1 (x + (1 : Int))) >>= fun (x17 : Int) =>
  ((if (decide ((0 : Int) < s.2.1)) = true then
  (atI r1 x) >>= fun (x21 : Int) =>
  some ((decide (x21 < s.2.1)))
  else
  some (false)) : Option (Bool)) >>= fun (st19 : Bool) =>
  (if st19 = true then
  Z.chk (s.2.2.length < sizeLine) >>= fun _ =>
  some (Z.Step.go ((Z.imax s.1 x17), (s.2.1 - (1 : Int)), (s.2.2 ++ [(((Z.imax s.1 x17) - s.2.1) + (1 : Int))])))
  else
  some (Z.Step.go ((Z.imax s.1 x17), s.2.1, s.2.2)))
def m__law_open (x_path : Str) (x_held : Int) : Option ((List Int)) :=
  (m__law_stages x_path x_held) >>= fun (r1 : (List Int)) =>
  (atI r1 (-(1 : Int))) >>= fun (x5 : Int) =>
  (atI r1 (-(1 : Int))) >>= fun (x7 : Int) =>
  Z.chk (x_path.length ≤ sizeLine) >>= fun _ =>
  Z.chk (RgOk (0 : Int) ((x_path.length : Nat) : Int)) >>= fun _ =>
  (Z.loopM (m__law_open_b1 r1) ((Z.upto (0 : Int) ((x_path.length : Nat) : Int)).reverse) (x5, x7, [])) >>= fun res14 =>
  Z.after res14 (fun (s25 : Int × Int × (List Int)) =>
  some (s25.2.2.reverse))
def sp__law_open (K : PySem.W.Frag) : Sp := fun vs H Q _ => ∃ (O : Z.OL) (L : Z.DL) (x_path : Str) (x_held : Int), vs = [V.str x_path, V.int x_held] ∧ Z.St K (O) L H ∧ ∃ r : (List Int), m__law_open x_path x_held = some r ∧ ∀ p H', Z.St K ((p, .lst (r.map V.int)) :: O) L H' → Q (.ref p) H'
def m_check_registers (x_registers : Int) : Option (Unit) :=
  (m_is_integer x_registers) >>= fun (r1 : Bool) =>
  (if ((!r1) || (!((decide ((1 : Int) ≤ x_registers)) && (decide (x_registers ≤ (999999999999999999999999999999 : Int)))))) = true then
  none
  else
  some (()))
def sp_check_registers (K : PySem.W.Frag) : Sp := fun vs H Q _ => ∃ (O : Z.OL) (L : Z.DL) (x_registers : Int), vs = [V.int x_registers] ∧ Z.St K (O) L H ∧ ∃ r : Unit, m_check_registers x_registers = some r ∧ ∀ H', Z.St K (O) L H' → Q V.non H'
def m_check_machine (x_registers : Int) (x_top : Int) : Option (Unit) :=
  (m_check_registers x_registers) >>= fun (r1 : Unit) =>
  (m_check_top x_top x_registers) >>= fun (r3 : Unit) =>
  some (())
def sp_check_machine (K : PySem.W.Frag) : Sp := fun vs H Q _ => ∃ (O : Z.OL) (L : Z.DL) (x_registers : Int) (x_top : Int), vs = [V.int x_registers, V.int x_top] ∧ Z.St K (O) L H ∧ ∃ r : Unit, m_check_machine x_registers x_top = some r ∧ ∀ H', Z.St K (O) L H' → Q V.non H'
def m_is_list_of_integers_c1  (x : Int) (s : Unit) : Option (Option Int × Unit) :=
  (if (!true) = true then
  some (some x, (()))
  else
  some (none, (())))
def m_is_list_of_integers (x_value : List Int) : Option (Bool) :=
  (if (!true) = true then
  some (false)
  else
  Z.chk (x_value.length < sizeLine) >>= fun _ =>
  Z.compM (m_is_list_of_integers_c1) x_value (()) >>= fun (r7 : List Int × Unit) =>
  some ((!(!r7.1.isEmpty))))
def sp_is_list_of_integers (K : PySem.W.Frag) : Sp := fun vs H Q _ => ∃ (O : Z.OL) (L : Z.DL) (v_value : V) (x_value : List Int), vs = [v_value] ∧ Z.St K (O) L H ∧ Z.Its K L [v_value] [(PyData.list (x_value.map PyData.int))] ∧ ∃ r : Bool, m_is_list_of_integers x_value = some r ∧ ∀ H', Z.St K (O) L H' → Q (V.bl r) H'
def m_check_plan_b1 (x_depths : List Int) (x_registers : Int) (x_top : Int) (x : Int × Int) (s : Unit) : Option (Z.Step Unit Unit) :=
  (atI x_depths x.1) >>= fun (x21 : Int) =>
  (if ((decide (x_registers < (x21 - x.2))) || (((decide ((x21 - x.2) < x_top)) && (decide ((0 : Int) < x.2))) || (decide (x.2 < (0 : Int))))) = true then
  none
  else
  some (Z.Step.go (())))
def m_check_plan (x_depths : List Int) (x_registers : Int) (x_top : Int) (x_plan : List Int) : Option (Unit) :=
  ((m_is_list_of_integers x_plan) >>= fun (r3 : Bool) =>
  (if (!r3) = true then
  some (true)
  else
  some ((!decide (((x_plan.length : Nat) : Int) = ((x_depths.length : Nat) : Int))))) : Option (Bool)) >>= fun (st1 : Bool) =>
  (if st1 = true then
  none
  else
  (Z.loopM (m_check_plan_b1 x_depths x_registers x_top) (Z.enumZ x_plan) (())) >>= fun res15 =>
  Z.after res15 (fun (s23 : Unit) =>
  some (())))
def sp_check_plan (K : PySem.W.Frag) : Sp := fun vs H Q _ => ∃ (O : Z.OL) (L : Z.DL) (v_depths : V) (x_depths : List Int) (x_registers : Int) (x_top : Int) (v_plan : V) (x_plan : List Int), vs = [v_depths, V.int x_registers, V.int x_top, v_plan] ∧ Z.St K (O) L H ∧ Z.Its K L [v_depths] [(PyData.list (x_depths.map PyData.int))] ∧ Z.Its K L [v_plan] [(PyData.list (x_plan.map PyData.int))] ∧ ∃ r : Unit, m_check_plan x_depths x_registers x_top x_plan = some r ∧ ∀ H', Z.St K (O) L H' → Q V.non H'
def m_counts_along_b1  (x : Int) (s : Int × Int × Int) : Option (Z.Step (Int × Int × Int) (Int × Int × Int)) :=
  (if (!decide (x = s.2.2)) = true then
  ((if (decide (s.2.2 < x)) = true then
  some ((s.1 + (x - s.2.2)))
  else
  some (s.1)) : Option (Int)) >>= fun (st8 : Int) =>
  some (Z.Step.go (st8, (s.2.1 + (1 : Int)), x))
  else
  some (Z.Step.go (s.1, s.2.1, s.2.2)))
def m_counts_along (x_plan : List Int) : Option ((Int × Int × Int)) :=
  (Z.loopM (m_counts_along_b1) x_plan ((0 : Int), (0 : Int), (0 : Int))) >>= fun res4 =>
  Z.after res4 (fun (s10 : Int × Int × Int) =>
  some ((s10.1, (s10.1 - s10.2.2), s10.2.1)))
def sp_counts_along (K : PySem.W.Frag) : Sp := fun vs H Q _ => ∃ (O : Z.OL) (L : Z.DL) (v_plan : V) (x_plan : List Int), vs = [v_plan] ∧ Z.St K (O) L H ∧ Z.Its K L [v_plan] [(PyData.list (x_plan.map PyData.int))] ∧ ∃ r : (Int × Int × Int), m_counts_along x_plan = some r ∧ ∀ v H', Z.St K (O) (([v], [(PyData.tuple [(PyData.int r.1), (PyData.int r.2.1), (PyData.int r.2.2)])]) :: L) H' → Q v H'
def m_counts_of (x_trace : Str) (x_registers : Int) (x_top : Int) (x_plan : List Int) : Option ((Int × Int × Int)) :=
  (m_checked_depths x_trace) >>= fun (r1 : (List Int)) =>
  (m_check_machine x_registers x_top) >>= fun (r4 : Unit) =>
  (m_check_plan r1 x_registers x_top x_plan) >>= fun (r6 : Unit) =>
  (m_counts_along x_plan) >>= fun (r8 : (Int × Int × Int)) =>
  some (r8)
def sp_counts_of (K : PySem.W.Frag) : Sp := fun vs H Q _ => ∃ (O : Z.OL) (L : Z.DL) (x_trace : Str) (x_registers : Int) (x_top : Int) (v_plan : V) (x_plan : List Int), vs = [V.str x_trace, V.int x_registers, V.int x_top, v_plan] ∧ Z.St K (O) L H ∧ Z.Its K L [v_plan] [(PyData.list (x_plan.map PyData.int))] ∧ ∃ r : (Int × Int × Int), m_counts_of x_trace x_registers x_top x_plan = some r ∧ ∀ v H', Z.St K (O) (([v], [(PyData.tuple [(PyData.int r.1), (PyData.int r.2.1), (PyData.int r.2.2)])]) :: L) H' → Q v H'
def m__law_machine (x_source : List Int) : Option ((Int × Int) × (List Int)) :=
  (m__law_draw x_source (9 : Int)) >>= fun (r1 : Int × (List Int)) =>
  (m__law_draw r1.2 (40 : Int)) >>= fun (r3 : Int × (List Int)) =>
  (m__law_draw r3.2 (6 : Int)) >>= fun (r6 : Int × (List Int)) =>
  (atI ([(0 : Int), (1 : Int), (2 : Int), (3 : Int), r1.1, r3.1]) r6.1) >>= fun (x8 : Int) =>
  (m__law_draw r6.2 (4 : Int)) >>= fun (r10 : Int × (List Int)) =>
  (m__law_draw r10.2 (12 : Int)) >>= fun (r12 : Int × (List Int)) =>
  (m__law_draw r12.2 (5 : Int)) >>= fun (r15 : Int × (List Int)) =>
  (atI ([(0 : Int), (0 : Int), (1 : Int), r10.1, r12.1]) r15.1) >>= fun (x17 : Int) =>
  some (((Z.imax (1 : Int) (x8 + x17)), x17), r15.2)
def sp__law_machine (K : PySem.W.Frag) : Sp := fun vs H Q _ => ∃ (O : Z.OL) (L : Z.DL) (p_source : Addr) (x_source : List Int), vs = [.ref p_source] ∧ Z.St K ((p_source, .lst (x_source.map V.int)) :: O) L H ∧ ∃ r : (Int × Int) × (List Int), m__law_machine x_source = some r ∧ ∀ v H', Z.St K ((p_source, .lst (r.2.map V.int)) :: O) (([v], [(PyData.tuple [(PyData.int r.1.1), (PyData.int r.1.2)])]) :: L) H' → Q v H'
def m__law_drawn_b1  (x : (Int × Int)) (s : Int × (List Int) × (List Int)) : Option (Z.Step (Int × (List Int) × (List Int)) ((List Int) × (List Int))) :=
  ((m__law_draw s.2.2 (3 : Int)) >>= fun (r18 : Int × (List Int)) =>
  (if ((decide (r18.1 = (0 : Int))) || (!((decide (x.1 ≤ s.1)) && (decide (s.1 ≤ x.2))))) = true then
  (m__law_draw r18.2 ((x.2 - x.1) + (1 : Int))) >>= fun (r20 : Int × (List Int)) =>
  (m__law_draw r20.2 (3 : Int)) >>= fun (r23 : Int × (List Int)) =>
  (atI ([x.1, x.2, (x.1 + r20.1)]) r23.1) >>= fun (x25 : Int) =>
  some (x25, r23.2)
  else
  some (s.1, r18.2)) : Option (Int × (List Int))) >>= fun (st16 : Int × (List Int)) =>
  Z.chk (s.2.1.length < sizeLine) >>= fun _ =>
  some (Z.Step.go (st16.1, (s.2.1 ++ [st16.1]), st16.2))
def m__law_drawn (x_source : List Int) (x_pairs : List (Int × Int)) : Option ((List Int) × (List Int)) :=
  (Z.loopM (m__law_drawn_b1) x_pairs ((0 : Int), [], x_source)) >>= fun res6 =>
  Z.after res6 (fun (s28 : Int × (List Int) × (List Int)) =>
  some (s28.2.1, s28.2.2))
def sp__law_drawn (K : PySem.W.Frag) : Sp := fun vs H Q _ => ∃ (O : Z.OL) (L : Z.DL) (p_source : Addr) (x_source : List Int) (v_pairs : V) (x_pairs : List (Int × Int)), vs = [.ref p_source, v_pairs] ∧ Z.St K ((p_source, .lst (x_source.map V.int)) :: O) L H ∧ Z.Its K L [v_pairs] [(PyData.list (x_pairs.map (fun y : (Int × Int) => (PyData.tuple [(PyData.int y.1), (PyData.int y.2)]))))] ∧ ∃ r : (List Int) × (List Int), m__law_drawn x_source x_pairs = some r ∧ ∀ p H', Z.St K ((p, .lst (r.1.map V.int)) :: (p_source, .lst (r.2.map V.int)) :: O) L H' → Q (.ref p) H'
def m__law_ends_c1 (x_room : Int) (x : Int) (s : Unit) : Option (Option (Int × Int) × Unit) :=
  some (some ((Z.imax (0 : Int) (x - x_room)), x), (()))
def m__law_ends (x_stages : List Int) (x_room : Int) : Option ((List (Int × Int))) :=
  Z.chk (x_stages.length < sizeLine) >>= fun _ =>
  Z.compM (m__law_ends_c1 x_room) x_stages (()) >>= fun (r7 : List (Int × Int) × Unit) =>
  some (r7.1)
def sp__law_ends (K : PySem.W.Frag) : Sp := fun vs H Q _ => ∃ (O : Z.OL) (L : Z.DL) (v_stages : V) (x_stages : List Int) (x_room : Int), vs = [v_stages, V.int x_room] ∧ Z.St K (O) L H ∧ Z.Its K L [v_stages] [(PyData.list (x_stages.map PyData.int))] ∧ ∃ r : (List (Int × Int)), m__law_ends x_stages x_room = some r ∧ ∀ p ws H', Z.St K ((p, .lst ws) :: O) ((ws, r.map (fun y : (Int × Int) => (PyData.tuple [(PyData.int y.1), (PyData.int y.2)]))) :: L) H' → Q (.ref p) H'
def m__law_counted_b1 (x_numbers : List Int) (x : Int) (s : Int × Int × Int) : Option (Z.Step (Int × Int × Int) (Int × Int × Int)) :=
  (atI x_numbers x) >>= fun (x12 : Int) =>
  (atI x_numbers (x - (1 : Int))) >>= fun (x15 : Int) =>
  some (Z.Step.go ((s.1 + (Z.imax (0 : Int) (x12 - x15))), (s.2.1 + (Z.imax (0 : Int) (-(x12 - x15)))), (s.2.2 + (if (!decide ((x12 - x15) = (0 : Int))) = true then (1 : Int) else 0))))
def m__law_counted (x_numbers : List Int) : Option ((Int × Int × Int)) :=
  Z.chk (Z.CRng (1 : Int)) >>= fun _ =>
  Z.chk (Z.CRng ((x_numbers.length : Nat) : Int)) >>= fun _ =>
  (Z.loopM (m__law_counted_b1 x_numbers) (Z.upto (1 : Int) ((x_numbers.length : Nat) : Int)) ((0 : Int), (0 : Int), (0 : Int))) >>= fun res8 =>
  Z.after res8 (fun (s17 : Int × Int × Int) =>
  some ((s17.1, s17.2.1, s17.2.2)))
def sp__law_counted (K : PySem.W.Frag) : Sp := fun vs H Q _ => ∃ (O : Z.OL) (L : Z.DL) (v_numbers : V) (x_numbers : List Int), vs = [v_numbers] ∧ Z.St K (O) L H ∧ Z.Its K L [v_numbers] [(PyData.list (x_numbers.map PyData.int))] ∧ ∃ r : (Int × Int × Int), m__law_counted x_numbers = some r ∧ ∀ v H', Z.St K (O) (([v], [(PyData.tuple [(PyData.int r.1), (PyData.int r.2.1), (PyData.int r.2.2)])]) :: L) H' → Q v H'
def m_row_along_b1  (x : Int) (s : (List Int)) : Option (Z.Step (List Int) (List Int)) :=
  (atI s (x - (1 : Int))) >>= fun (x14 : Int) =>
  (Z.setI s (x - (1 : Int)) (x14 + (1 : Int))) >>= fun (y16 : List Int) =>
  some (Z.Step.go (y16))
def m_row_along (x_levels : List Int) : Option ((List Int)) :=
  (m_call_levels_of x_levels) >>= fun (r1 : (List Int)) =>
  (m_heights_of r1) >>= fun (r4 : (List Int)) =>
  Z.chk (Z.CRepL ([(0 : Int)]).length (Z.lmaxD r4 (0 : Int))) >>= fun _ =>
  (Z.loopM (m_row_along_b1) r4 ((Z.repL ([(0 : Int)]) (Z.lmaxD r4 (0 : Int))))) >>= fun res11 =>
  Z.after res11 (fun (s19 : (List Int)) =>
  some (s19))
def sp_row_along (K : PySem.W.Frag) : Sp := fun vs H Q _ => ∃ (O : Z.OL) (L : Z.DL) (v_levels : V) (x_levels : List Int), vs = [v_levels] ∧ Z.St K (O) L H ∧ Z.Its K L [v_levels] [(PyData.list (x_levels.map PyData.int))] ∧ ∃ r : (List Int), m_row_along x_levels = some r ∧ ∀ p H', Z.St K ((p, .lst (r.map V.int)) :: O) L H' → Q (.ref p) H'
def m_row_of (x_trace : Str) (x_top : Int) : Option ((List Int)) :=
  (m_levels_of x_trace x_top) >>= fun (r1 : (List Int)) =>
  (m_row_along r1) >>= fun (r4 : (List Int)) =>
  some (r4)
def sp_row_of (K : PySem.W.Frag) : Sp := fun vs H Q _ => ∃ (O : Z.OL) (L : Z.DL) (x_trace : Str) (x_top : Int), vs = [V.str x_trace, V.int x_top] ∧ Z.St K (O) L H ∧ ∃ r : (List Int), m_row_of x_trace x_top = some r ∧ ∀ p H', Z.St K ((p, .lst (r.map V.int)) :: O) L H' → Q (.ref p) H'
def m__law_tally_b1  (x : Int) (s : (List Int)) : Option (Z.Step (List Int) (List Int)) :=
  (atI s (x - (1 : Int))) >>= fun (x16 : Int) =>
  (Z.setI s (x - (1 : Int)) (x16 + (1 : Int))) >>= fun (y18 : List Int) =>
  some (Z.Step.go (y18))
def m__law_tally (x_heights : List Int) : Option ((List Int)) :=
  Z.chk (x_heights.length + ([(0 : Int)]).length ≤ sizeLine) >>= fun _ =>
  Z.chk (0 < (x_heights ++ [(0 : Int)]).length) >>= fun _ =>
  Z.chk (Z.CRepL ([(0 : Int)]).length (Z.lmax (x_heights ++ [(0 : Int)]))) >>= fun _ =>
  (Z.loopM (m__law_tally_b1) x_heights ((Z.repL ([(0 : Int)]) (Z.lmax (x_heights ++ [(0 : Int)]))))) >>= fun res12 =>
  Z.after res12 (fun (s21 : (List Int)) =>
  some (s21))
def sp__law_tally (K : PySem.W.Frag) : Sp := fun vs H Q _ => ∃ (O : Z.OL) (L : Z.DL) (v_heights : V) (x_heights : List Int), vs = [v_heights] ∧ Z.St K (O) L H ∧ Z.Its K L [v_heights] [(PyData.list (x_heights.map PyData.int))] ∧ ∃ r : (List Int), m__law_tally x_heights = some r ∧ ∀ p H', Z.St K ((p, .lst (r.map V.int)) :: O) L H' → Q (.ref p) H'
def m__law_lazy_b1 (x_gap : Int) (x : Int) (s : Int × (List Int)) : Option (Z.Step (Int × (List Int)) (List Int)) :=
  Z.chk (s.2.length < sizeLine) >>= fun _ =>
  some (Z.Step.go ((Z.imax (Z.imax (0 : Int) (x - x_gap)) (Z.imin x s.1)), (s.2 ++ [(Z.imax (Z.imax (0 : Int) (x - x_gap)) (Z.imin x s.1))])))
def m__law_lazy (x_stages : List Int) (x_gap : Int) : Option ((List Int)) :=
  (Z.loopM (m__law_lazy_b1 x_gap) x_stages ((0 : Int), [])) >>= fun res5 =>
  Z.after res5 (fun (s10 : Int × (List Int)) =>
  some (s10.2))
def sp__law_lazy (K : PySem.W.Frag) : Sp := fun vs H Q _ => ∃ (O : Z.OL) (L : Z.DL) (v_stages : V) (x_stages : List Int) (x_gap : Int), vs = [v_stages, V.int x_gap] ∧ Z.St K (O) L H ∧ Z.Its K L [v_stages] [(PyData.list (x_stages.map PyData.int))] ∧ ∃ r : (List Int), m__law_lazy x_stages x_gap = some r ∧ ∀ p H', Z.St K ((p, .lst (r.map V.int)) :: O) L H' → Q (.ref p) H'
def m__law_words_c1 (r1 : (List Int)) (x : Int × Int) (s : Unit) : Option (Option Int × Unit) :=
  (atI r1 x.1) >>= fun (x7 : Int) =>
  some (some (Z.imax (0 : Int) (x.2 - x7)), (()))
def m__law_words (x_stages : List Int) (x_gap : Int) : Option (Int) :=
  (m__law_lazy x_stages x_gap) >>= fun (r1 : (List Int)) =>
  Z.chk ((Z.enumZ (Z.cutL r1 (some (1 : Int)) none)).length < sizeLine) >>= fun _ =>
  Z.compM (m__law_words_c1 r1) (Z.enumZ (Z.cutL r1 (some (1 : Int)) none)) (()) >>= fun (r9 : List Int × Unit) =>
  some (r9.1.sum)
def sp__law_words (K : PySem.W.Frag) : Sp := fun vs H Q _ => ∃ (O : Z.OL) (L : Z.DL) (v_stages : V) (x_stages : List Int) (x_gap : Int), vs = [v_stages, V.int x_gap] ∧ Z.St K (O) L H ∧ Z.Its K L [v_stages] [(PyData.list (x_stages.map PyData.int))] ∧ ∃ r : Int, m__law_words x_stages x_gap = some r ∧ ∀ H', Z.St K (O) L H' → Q (V.int r) H'
def m__law_heights_b1 (r1 : (List Int)) (x13 : Int) (sz : Int × Int) : Option (Z.Step (Int × Int) (List Int)) :=
  ((if (decide (sz.2 < ((r1.length : Nat) : Int))) = true then
  (atI r1 sz.2) >>= fun (x25 : Int) =>
  some ((decide (x13 ≤ x25)))
  else
  some (false)) : Option (Bool)) >>= fun (st23 : Bool) =>
  (if st23 = true then
  (atI r1 sz.2) >>= fun (x28 : Int) =>
  some (Z.Step.go ((Z.imax sz.1 x28), (sz.2 + (1 : Int))))
  else
  some (Z.Step.out (sz.1, sz.2)))
def m__law_heights_b2 (r1 : (List Int)) (x : Int × Str) (s : (List Int)) : Option (Z.Step (List Int) (List Int)) :=
  (atI r1 (x.1 + (1 : Int))) >>= fun (x13 : Int) =>
  ((if (decide ((V.str x.2) = (V.str ("+" : Str)))) = true then
  (atI r1 x.1) >>= fun (x17 : Int) =>
  some ((decide (x17 < x13)))
  else
  some (false)) : Option (Bool)) >>= fun (st15 : Bool) =>
  (if st15 = true then
  (Z.whileM (m__law_heights_b1 r1 x13) Z.FUEL (x13, (x.1 + (1 : Int)))) >>= fun res20 =>
  Z.afterS res20 (fun (s30 : Int × Int) =>
  Z.chk (s.length < sizeLine) >>= fun _ =>
  some (Z.Step.go ((s ++ [((s30.1 - x13) + (1 : Int))]))))
  else
  some (Z.Step.go (s)))
def m__law_heights (x_path : Str) (x_held : Int) : Option ((List Int)) :=
  (m__law_stages x_path x_held) >>= fun (r1 : (List Int)) =>
  (Z.loopM (m__law_heights_b2 r1) (Z.enumZ (Z.signsZ x_path)) ([])) >>= fun res10 =>
  Z.after res10 (fun (s32 : (List Int)) =>
  some (s32))
def sp__law_heights (K : PySem.W.Frag) : Sp := fun vs H Q _ => ∃ (O : Z.OL) (L : Z.DL) (x_path : Str) (x_held : Int), vs = [V.str x_path, V.int x_held] ∧ Z.St K (O) L H ∧ ∃ r : (List Int), m__law_heights x_path x_held = some r ∧ ∀ p H', Z.St K ((p, .lst (r.map V.int)) :: O) L H' → Q (.ref p) H'
def m_check_row_b1 (x_row : List Int) (x : Int × Int) (s : Unit) : Option (Z.Step Unit Unit) :=
  ((m_is_integer x.2) >>= fun (r17 : Bool) =>
  (if (!r17) = true then
  some (true)
  else
  ((if (decide (x.2 < (1 : Int))) = true then
  some (true)
  else
  ((if (decide ((0 : Int) < x.1)) = true then
  (atI x_row (x.1 - (1 : Int))) >>= fun (x24 : Int) =>
  some ((decide (x24 < x.2)))
  else
  some (false)) : Option (Bool)) >>= fun (st21 : Bool) =>
  some (st21)) : Option (Bool)) >>= fun (st19 : Bool) =>
  some (st19)) : Option (Bool)) >>= fun (st15 : Bool) =>
  (if st15 = true then
  none
  else
  some (Z.Step.go (())))
def m_check_row (x_row : List Int) : Option (Unit) :=
  ((if (!true) = true then
  some (true)
  else
  some ((decide ((1000 : Int) < ((x_row.length : Nat) : Int))))) : Option (Bool)) >>= fun (st1 : Bool) =>
  (if st1 = true then
  none
  else
  (Z.loopM (m_check_row_b1 x_row) (Z.enumZ x_row) (())) >>= fun res11 =>
  Z.after res11 (fun (s29 : Unit) =>
  some (())))
def sp_check_row (K : PySem.W.Frag) : Sp := fun vs H Q _ => ∃ (O : Z.OL) (L : Z.DL) (v_row : V) (x_row : List Int), vs = [v_row] ∧ Z.St K (O) L H ∧ Z.Its K L [v_row] [(PyData.list (x_row.map PyData.int))] ∧ ∃ r : Unit, m_check_row x_row = some r ∧ ∀ H', Z.St K (O) L H' → Q V.non H'
def m_check_number (x_number : Int) (x_least : Int) (x_most : Option Int) : Option (Unit) :=
  ((m_is_integer x_number) >>= fun (r3 : Bool) =>
  (if (!r3) = true then
  some (true)
  else
  ((if (decide (x_number < x_least)) = true then
  some (true)
  else
  ((if (!decide ((Z.vO x_most) = V.non)) = true then
  (x_most) >>= fun (x9 : Int) =>
  some ((decide (x9 < x_number)))
  else
  some (false)) : Option (Bool)) >>= fun (st7 : Bool) =>
  some (st7)) : Option (Bool)) >>= fun (st5 : Bool) =>
  some (st5)) : Option (Bool)) >>= fun (st1 : Bool) =>
  (if st1 = true then
  none
  else
  some (()))
def sp_check_number (K : PySem.W.Frag) : Sp := fun vs H Q _ => ∃ (O : Z.OL) (L : Z.DL) (x_number : Int) (x_least : Int) (x_most : Option Int), vs = [V.int x_number, V.int x_least, Z.vO x_most] ∧ Z.St K (O) L H ∧ ∃ r : Unit, m_check_number x_number x_least x_most = some r ∧ ∀ H', Z.St K (O) L H' → Q V.non H'
def m_written_by (x_row : List Int) (x_room : Int) : Option (Int) :=
  (m_check_row x_row) >>= fun (r1 : Unit) =>
  (m_check_number x_room (0 : Int) (none : Option Int)) >>= fun (r3 : Unit) =>
  some ((Z.cutL x_row (some x_room) none).sum)
def sp_written_by (K : PySem.W.Frag) : Sp := fun vs H Q _ => ∃ (O : Z.OL) (L : Z.DL) (v_row : V) (x_row : List Int) (x_room : Int), vs = [v_row, V.int x_room] ∧ Z.St K (O) L H ∧ Z.Its K L [v_row] [(PyData.list (x_row.map PyData.int))] ∧ ∃ r : Int, m_written_by x_row x_room = some r ∧ ∀ H', Z.St K (O) L H' → Q (V.int r) H'
def m_lazy_along_b1 (x_registers : Int) (x_top : Int) (x : Int) (s : Int × (List Int)) : Option (Z.Step (Int × (List Int)) (List Int)) :=
  ((if (decide (s.1 < (x - x_registers))) = true then
  some ((x - x_registers))
  else
  ((if (decide ((x - x_top) < s.1)) = true then
  some ((if (decide (x_top < x)) = true then (x - x_top) else (0 : Int)))
  else
  some (s.1)) : Option (Int)) >>= fun (st11 : Int) =>
  some (st11)) : Option (Int)) >>= fun (st9 : Int) =>
  Z.chk (s.2.length < sizeLine) >>= fun _ =>
  some (Z.Step.go (st9, (s.2 ++ [st9])))
def m_lazy_along (x_depths : List Int) (x_registers : Int) (x_top : Int) (x_number : Int) : Option ((List Int)) :=
  (Z.loopM (m_lazy_along_b1 x_registers x_top) x_depths (x_number, [])) >>= fun res5 =>
  Z.after res5 (fun (s14 : Int × (List Int)) =>
  some (s14.2))
def sp_lazy_along (K : PySem.W.Frag) : Sp := fun vs H Q _ => ∃ (O : Z.OL) (L : Z.DL) (v_depths : V) (x_depths : List Int) (x_registers : Int) (x_top : Int) (x_number : Int), vs = [v_depths, V.int x_registers, V.int x_top, V.int x_number] ∧ Z.St K (O) L H ∧ Z.Its K L [v_depths] [(PyData.list (x_depths.map PyData.int))] ∧ ∃ r : (List Int), m_lazy_along x_depths x_registers x_top x_number = some r ∧ ∀ p H', Z.St K ((p, .lst (r.map V.int)) :: O) L H' → Q (.ref p) H'
def m_lazy_plan (x_trace : Str) (x_registers : Int) (x_top : Int) : Option ((List Int)) :=
  (m_checked_depths x_trace) >>= fun (r1 : (List Int)) =>
  (m_check_machine x_registers x_top) >>= fun (r4 : Unit) =>
  (m_lazy_along r1 x_registers x_top (0 : Int)) >>= fun (r6 : (List Int)) =>
  some (r6)
def sp_lazy_plan (K : PySem.W.Frag) : Sp := fun vs H Q _ => ∃ (O : Z.OL) (L : Z.DL) (x_trace : Str) (x_registers : Int) (x_top : Int), vs = [V.str x_trace, V.int x_registers, V.int x_top] ∧ Z.St K (O) L H ∧ ∃ r : (List Int), m_lazy_plan x_trace x_registers x_top = some r ∧ ∀ p H', Z.St K ((p, .lst (r.map V.int)) :: O) L H' → Q (.ref p) H'
def m_is_plan (x_trace : Str) (x_registers : Int) (x_top : Int) (x_value : List Int) : Option (Bool) :=
  (m_checked_depths x_trace) >>= fun (r1 : (List Int)) =>
  (m_check_machine x_registers x_top) >>= fun (r4 : Unit) =>
  (m_check_plan r1 x_registers x_top x_value) >>= fun (r6 : Unit) =>
  some (true)
def sp_is_plan (K : PySem.W.Frag) : Sp := fun vs H Q _ => ∃ (O : Z.OL) (L : Z.DL) (x_trace : Str) (x_registers : Int) (x_top : Int) (v_value : V) (x_value : List Int), vs = [V.str x_trace, V.int x_registers, V.int x_top, v_value] ∧ Z.St K (O) L H ∧ Z.Its K L [v_value] [(PyData.list (x_value.map PyData.int))] ∧ ∃ r : Bool, m_is_plan x_trace x_registers x_top x_value = some r ∧ ∀ H', Z.St K (O) L H' → Q (V.bl r) H'
def m__law_beside_b1 (x_best : List Int) (x_numbers : List Int) (x : Int) (s : Int × Int × Int × Int) : Option (Z.Step (Int × Int × Int × Int) Bool) :=
  (atI x_best x) >>= fun (x15 : Int) =>
  (atI x_best (x - (1 : Int))) >>= fun (x18 : Int) =>
  (atI x_numbers x) >>= fun (x21 : Int) =>
  (atI x_numbers (x - (1 : Int))) >>= fun (x24 : Int) =>
  (if ((decide ((s.2.2.1 + (Z.imax (0 : Int) (x21 - x24))) < (s.1 + (Z.imax (0 : Int) (x15 - x18))))) || (decide ((s.2.2.2 + (Z.imax (0 : Int) (-(x21 - x24)))) < (s.2.1 + (Z.imax (0 : Int) (-(x15 - x18))))))) = true then
  some (Z.Step.ret (false))
  else
  (atI x_best x) >>= fun (x27 : Int) =>
  (atI x_numbers x) >>= fun (x30 : Int) =>
  (if (decide (((s.2.2.1 + (Z.imax (0 : Int) (x21 - x24))) + (s.2.2.2 + (Z.imax (0 : Int) (-(x21 - x24))))) < (((s.1 + (Z.imax (0 : Int) (x15 - x18))) + (s.2.1 + (Z.imax (0 : Int) (-(x15 - x18))))) + (Z.iabs (x27 - x30))))) = true then
  some (Z.Step.ret (false))
  else
  some (Z.Step.go ((s.1 + (Z.imax (0 : Int) (x15 - x18))), (s.2.1 + (Z.imax (0 : Int) (-(x15 - x18)))), (s.2.2.1 + (Z.imax (0 : Int) (x21 - x24))), (s.2.2.2 + (Z.imax (0 : Int) (-(x21 - x24))))))))
def m__law_beside (x_best : List Int) (x_numbers : List Int) : Option (Bool) :=
  Z.chk (Z.CRng (1 : Int)) >>= fun _ =>
  Z.chk (Z.CRng ((x_numbers.length : Nat) : Int)) >>= fun _ =>
  (Z.loopM (m__law_beside_b1 x_best x_numbers) (Z.upto (1 : Int) ((x_numbers.length : Nat) : Int)) ((0 : Int), (0 : Int), (0 : Int), (0 : Int))) >>= fun res10 =>
  Z.after res10 (fun (s32 : Int × Int × Int × Int) =>
  some (true))
def sp__law_beside (K : PySem.W.Frag) : Sp := fun vs H Q _ => ∃ (O : Z.OL) (L : Z.DL) (v_best : V) (x_best : List Int) (v_numbers : V) (x_numbers : List Int), vs = [v_best, v_numbers] ∧ Z.St K (O) L H ∧ Z.Its K L [v_best] [(PyData.list (x_best.map PyData.int))] ∧ Z.Its K L [v_numbers] [(PyData.list (x_numbers.map PyData.int))] ∧ ∃ r : Bool, m__law_beside x_best x_numbers = some r ∧ ∀ H', Z.St K (O) L H' → Q (V.bl r) H'
def m_written_along_b1  (x : Int) (s : Int × Int × (List (Int × Int))) : Option (Z.Step (Int × Int × (List (Int × Int))) (List (Int × Int))) :=
  ((if (decide (s.2.1 < x)) = true then
  some ((s.1 + (x - s.2.1)))
  else
  some (s.1)) : Option (Int)) >>= fun (st10 : Int) =>
  Z.chk (s.2.2.length < sizeLine) >>= fun _ =>
  some (Z.Step.go (st10, x, (s.2.2 ++ [(st10, (st10 - x))])))
def m_written_along (x_trace : Str) (x_registers : Int) (x_top : Int) : Option ((List (Int × Int))) :=
  (m_lazy_plan x_trace x_registers x_top) >>= fun (r2 : (List Int)) =>
  (Z.loopM (m_written_along_b1) r2 ((0 : Int), (0 : Int), ([] : List (Int × Int)))) >>= fun res7 =>
  Z.after res7 (fun (s14 : Int × Int × (List (Int × Int))) =>
  some (s14.2.2))
def sp_written_along (K : PySem.W.Frag) : Sp := fun vs H Q _ => ∃ (O : Z.OL) (L : Z.DL) (x_trace : Str) (x_registers : Int) (x_top : Int), vs = [V.str x_trace, V.int x_registers, V.int x_top] ∧ Z.St K (O) L H ∧ ∃ r : (List (Int × Int)), m_written_along x_trace x_registers x_top = some r ∧ ∀ p ws H', Z.St K ((p, .lst ws) :: O) ((ws, r.map (fun y : (Int × Int) => (PyData.tuple [(PyData.int y.1), (PyData.int y.2)]))) :: L) H' → Q (.ref p) H'
def m_turns_of_b1  (x : Int × Int) (s : Bool × (List Int)) : Option (Z.Step (Bool × (List Int)) (List Int)) :=
  (if (decide (x.1 = x.2)) = true then
  some (Z.Step.go (s.1, s.2))
  else
  ((if ((!s.2.isEmpty) && (decide ((V.bl s.1) = (V.bl (decide (x.1 < x.2)))))) = true then
  (Z.lastZ s.2) >>= fun (x14 : Int) =>
  some (s.2.dropLast)
  else
  some (s.2)) : Option ((List Int))) >>= fun (st12 : (List Int)) =>
  Z.chk (st12.length < sizeLine) >>= fun _ =>
  some (Z.Step.go ((decide (x.1 < x.2)), (st12 ++ [x.2]))))
def m_turns_of (x_levels : List Int) : Option ((List Int)) :=
  (Z.loopM (m_turns_of_b1) (List.zip x_levels (Z.cutL x_levels (some (1 : Int)) none)) (false, [])) >>= fun res8 =>
  Z.after res8 (fun (s17 : Bool × (List Int)) =>
  some (s17.2))
def sp_turns_of (K : PySem.W.Frag) : Sp := fun vs H Q _ => ∃ (O : Z.OL) (L : Z.DL) (v_levels : V) (x_levels : List Int), vs = [v_levels] ∧ Z.St K (O) L H ∧ Z.Its K L [v_levels] [(PyData.list (x_levels.map PyData.int))] ∧ ∃ r : (List Int), m_turns_of x_levels = some r ∧ ∀ p H', Z.St K ((p, .lst (r.map V.int)) :: O) L H' → Q (.ref p) H'
def m_traps_along_b1 (x_room : Int) (x : Int) (s : Int × Int × Int) : Option (Z.Step (Int × Int × Int) (Int × Int × Int)) :=
  (if (decide (s.2.1 < x)) = true then
  Z.chk (CDivW (x - s.1) (x_room + (1 : Int))) >>= fun _ =>
  Z.chk (CMulW ((x - s.1) / (x_room + (1 : Int))) (x_room + (1 : Int))) >>= fun _ =>
  some (Z.Step.go ((s.1 + (((x - s.1) / (x_room + (1 : Int))) * (x_room + (1 : Int)))), x, (s.2.2 + ((x - s.1) / (x_room + (1 : Int))))))
  else
  (if (decide (x < s.1)) = true then
  Z.chk (CDivW (s.2.1 - x) (x_room + (1 : Int))) >>= fun _ =>
  Z.chk (CMulW ((s.2.1 - x) / (x_room + (1 : Int))) (x_room + (1 : Int))) >>= fun _ =>
  some (Z.Step.go (x, (s.2.1 - (((s.2.1 - x) / (x_room + (1 : Int))) * (x_room + (1 : Int)))), (s.2.2 + ((s.2.1 - x) / (x_room + (1 : Int))))))
  else
  some (Z.Step.go (s.1, s.2.1, s.2.2))))
def m_traps_along (x_turns : List Int) (x_room : Int) (x_least : Int) (x_greatest : Int) : Option ((Int × Int × Int)) :=
  (Z.loopM (m_traps_along_b1 x_room) x_turns (x_least, x_greatest, (0 : Int))) >>= fun res5 =>
  Z.after res5 (fun (s13 : Int × Int × Int) =>
  some ((s13.2.2, s13.1, s13.2.1)))
def sp_traps_along (K : PySem.W.Frag) : Sp := fun vs H Q _ => ∃ (O : Z.OL) (L : Z.DL) (v_turns : V) (x_turns : List Int) (x_room : Int) (x_least : Int) (x_greatest : Int), vs = [v_turns, V.int x_room, V.int x_least, V.int x_greatest] ∧ Z.St K (O) L H ∧ Z.Its K L [v_turns] [(PyData.list (x_turns.map PyData.int))] ∧ ∃ r : (Int × Int × Int), m_traps_along x_turns x_room x_least x_greatest = some r ∧ ∀ v H', Z.St K (O) (([v], [(PyData.tuple [(PyData.int r.1), (PyData.int r.2.1), (PyData.int r.2.2)])]) :: L) H' → Q v H'
def m_traps_between (x_turns : List Int) (x_room : Int) : Option (Int) :=
  (m_traps_along x_turns x_room (0 : Int) (0 : Int)) >>= fun (r1 : (Int × Int × Int)) =>
  some (r1.1)
def sp_traps_between (K : PySem.W.Frag) : Sp := fun vs H Q _ => ∃ (O : Z.OL) (L : Z.DL) (v_turns : V) (x_turns : List Int) (x_room : Int), vs = [v_turns, V.int x_room] ∧ Z.St K (O) L H ∧ Z.Its K L [v_turns] [(PyData.list (x_turns.map PyData.int))] ∧ ∃ r : Int, m_traps_between x_turns x_room = some r ∧ ∀ H', Z.St K (O) L H' → Q (V.int r) H'
def m_traps_by_room_b1 (r4 : (List Int)) (s : (List Int)) : Option (Z.Step (List Int) (List Int)) :=
  (atI s (-(1 : Int))) >>= fun (x13 : Int) =>
  (if (decide ((0 : Int) < x13)) = true then
  (m_traps_between r4 ((s.length : Nat) : Int)) >>= fun (r15 : Int) =>
  Z.chk (s.length < sizeLine) >>= fun _ =>
  some (Z.Step.go ((s ++ [r15])))
  else
  some (Z.Step.out (s)))
def m_traps_by_room (x_trace : Str) (x_top : Int) : Option ((List Int)) :=
  (m_levels_of x_trace x_top) >>= fun (r1 : (List Int)) =>
  (m_turns_of r1) >>= fun (r4 : (List Int)) =>
  (m_traps_between r4 (0 : Int)) >>= fun (r7 : Int) =>
  (Z.whileM (m_traps_by_room_b1 r4) Z.FUEL ([r7])) >>= fun res10 =>
  Z.after res10 (fun (s18 : (List Int)) =>
  some (s18))
def sp_traps_by_room (K : PySem.W.Frag) : Sp := fun vs H Q _ => ∃ (O : Z.OL) (L : Z.DL) (x_trace : Str) (x_top : Int), vs = [V.str x_trace, V.int x_top] ∧ Z.St K (O) L H ∧ ∃ r : (List Int), m_traps_by_room x_trace x_top = some r ∧ ∀ p H', Z.St K ((p, .lst (r.map V.int)) :: O) L H' → Q (.ref p) H'
def m__law_greedy_b1 (x_room : Int) (x : Int × Int) (s : Int × Int × (List Int)) : Option (Z.Step (Int × Int × (List Int)) (List Int)) :=
  (if (decide (x_room < ((Z.imax s.2.1 x.2) - (Z.imin s.1 x.2)))) = true then
  Z.chk (s.2.2.length < sizeLine) >>= fun _ =>
  some (Z.Step.go (x.2, x.2, (s.2.2 ++ [x.1])))
  else
  some (Z.Step.go ((Z.imin s.1 x.2), (Z.imax s.2.1 x.2), s.2.2)))
def m__law_greedy (x_stages : List Int) (x_room : Int) : Option ((List Int)) :=
  (atI x_stages (0 : Int)) >>= fun (x4 : Int) =>
  (atI x_stages (0 : Int)) >>= fun (x7 : Int) =>
  (Z.loopM (m__law_greedy_b1 x_room) (Z.enumZ x_stages) (x4, x7, [(0 : Int)])) >>= fun res12 =>
  Z.after res12 (fun (s17 : Int × Int × (List Int)) =>
  some (s17.2.2))
def sp__law_greedy (K : PySem.W.Frag) : Sp := fun vs H Q _ => ∃ (O : Z.OL) (L : Z.DL) (v_stages : V) (x_stages : List Int) (x_room : Int), vs = [v_stages, V.int x_room] ∧ Z.St K (O) L H ∧ Z.Its K L [v_stages] [(PyData.list (x_stages.map PyData.int))] ∧ ∃ r : (List Int), m__law_greedy x_stages x_room = some r ∧ ∀ p H', Z.St K ((p, .lst (r.map V.int)) :: O) L H' → Q (.ref p) H'
def m_begins_of_b1  (x : Int × (Int × Int)) (s : Int × Int × (List Int)) : Option (Z.Step (Int × Int × (List Int)) (List Int)) :=
  ((if (decide (s.1 < x.2.1)) = true then
  some (x.2.1)
  else
  some (s.1)) : Option (Int)) >>= fun (st27 : Int) =>
  ((if (decide (x.2.2 < s.2.1)) = true then
  some (x.2.2)
  else
  some (s.2.1)) : Option (Int)) >>= fun (st29 : Int) =>
  (if (decide (st29 < st27)) = true then
  Z.chk (s.2.2.length < sizeLine) >>= fun _ =>
  some (Z.Step.go (x.2.1, x.2.2, (s.2.2 ++ [x.1])))
  else
  some (Z.Step.go (st27, st29, s.2.2)))
def m_begins_of (x_ends : List (Int × Int)) : Option ((List Int)) :=
  (atI x_ends (0 : Int)) >>= fun (x4 : (Int × Int)) =>
  (Z.loopM (m_begins_of_b1) (Z.enumZ x_ends) (x4.1, x4.2, [(0 : Int)])) >>= fun res17 =>
  Z.after res17 (fun (s32 : Int × Int × (List Int)) =>
  some (s32.2.2))
def sp_begins_of (K : PySem.W.Frag) : Sp := fun vs H Q _ => ∃ (O : Z.OL) (L : Z.DL) (v_ends : V) (x_ends : List (Int × Int)), vs = [v_ends] ∧ Z.St K (O) L H ∧ Z.Its K L [v_ends] [(PyData.list (x_ends.map (fun y : (Int × Int) => (PyData.tuple [(PyData.int y.1), (PyData.int y.2)]))))] ∧ ∃ r : (List Int), m_begins_of x_ends = some r ∧ ∀ p H', Z.St K ((p, .lst (r.map V.int)) :: O) L H' → Q (.ref p) H'
def m_less_up_to (x_depth : Int) (x_number : Int) : Option ((List Int)) :=
  Z.chk (Z.CRepL ([(0 : Int)]).length (Z.imin x_number x_depth)) >>= fun _ =>
  Z.chk (RgOk (0 : Int) ((x_depth + (1 : Int)) - (Z.imin x_number x_depth))) >>= fun _ =>
  Z.chk ((Z.repL ([(0 : Int)]) (Z.imin x_number x_depth)).length + (Z.upto (0 : Int) ((x_depth + (1 : Int)) - (Z.imin x_number x_depth))).length ≤ sizeLine) >>= fun _ =>
  some (((Z.repL ([(0 : Int)]) (Z.imin x_number x_depth)) ++ (Z.upto (0 : Int) ((x_depth + (1 : Int)) - (Z.imin x_number x_depth)))))
def sp_less_up_to (K : PySem.W.Frag) : Sp := fun vs H Q _ => ∃ (O : Z.OL) (L : Z.DL) (x_depth : Int) (x_number : Int), vs = [V.int x_depth, V.int x_number] ∧ Z.St K (O) L H ∧ ∃ r : (List Int), m_less_up_to x_depth x_number = some r ∧ ∀ p H', Z.St K ((p, .lst (r.map V.int)) :: O) L H' → Q (.ref p) H'
def m_ends_at_c1 (r3 : (List Int)) (r6 : (List Int)) (x : Int) (s : Unit) : Option (Option (Int × Int) × Unit) :=
  (atI (List.zip r3 r6) x) >>= fun (x15 : (Int × Int)) =>
  some (some x15, (()))
def m_ends_at (x_depths : List Int) (x_registers : Int) (x_top : Int) : Option ((List (Int × Int))) :=
  (m_less_up_to (Z.lmaxD x_depths (0 : Int)) x_registers) >>= fun (r3 : (List Int)) =>
  (m_less_up_to (Z.lmaxD x_depths (0 : Int)) x_top) >>= fun (r6 : (List Int)) =>
  Z.chk (x_depths.length < sizeLine) >>= fun _ =>
  Z.compM (m_ends_at_c1 r3 r6) x_depths (()) >>= fun (r18 : List (Int × Int) × Unit) =>
  some (r18.1)
def sp_ends_at (K : PySem.W.Frag) : Sp := fun vs H Q _ => ∃ (O : Z.OL) (L : Z.DL) (v_depths : V) (x_depths : List Int) (x_registers : Int) (x_top : Int), vs = [v_depths, V.int x_registers, V.int x_top] ∧ Z.St K (O) L H ∧ Z.Its K L [v_depths] [(PyData.list (x_depths.map PyData.int))] ∧ ∃ r : (List (Int × Int)), m_ends_at x_depths x_registers x_top = some r ∧ ∀ p ws H', Z.St K ((p, .lst ws) :: O) ((ws, r.map (fun y : (Int × Int) => (PyData.tuple [(PyData.int y.1), (PyData.int y.2)]))) :: L) H' → Q (.ref p) H'
def m_ends_of (x_trace : Str) (x_registers : Int) (x_top : Int) : Option ((List (Int × Int))) :=
  (m_checked_depths x_trace) >>= fun (r1 : (List Int)) =>
  (m_check_machine x_registers x_top) >>= fun (r4 : Unit) =>
  (m_ends_at r1 x_registers x_top) >>= fun (r6 : (List (Int × Int))) =>
  some (r6)
def sp_ends_of (K : PySem.W.Frag) : Sp := fun vs H Q _ => ∃ (O : Z.OL) (L : Z.DL) (x_trace : Str) (x_registers : Int) (x_top : Int), vs = [V.str x_trace, V.int x_registers, V.int x_top] ∧ Z.St K (O) L H ∧ ∃ r : (List (Int × Int)), m_ends_of x_trace x_registers x_top = some r ∧ ∀ p ws H', Z.St K ((p, .lst ws) :: O) ((ws, r.map (fun y : (Int × Int) => (PyData.tuple [(PyData.int y.1), (PyData.int y.2)]))) :: L) H' → Q (.ref p) H'
def m_fewest_traps (x_trace : Str) (x_registers : Int) (x_top : Int) : Option (Int) :=
  (m_ends_of x_trace x_registers x_top) >>= fun (r1 : (List (Int × Int))) =>
  (m_begins_of r1) >>= fun (r5 : (List Int)) =>
  some ((((r5.length : Nat) : Int) - (1 : Int)))
def sp_fewest_traps (K : PySem.W.Frag) : Sp := fun vs H Q _ => ∃ (O : Z.OL) (L : Z.DL) (x_trace : Str) (x_registers : Int) (x_top : Int), vs = [V.str x_trace, V.int x_registers, V.int x_top] ∧ Z.St K (O) L H ∧ ∃ r : Int, m_fewest_traps x_trace x_registers x_top = some r ∧ ∀ H', Z.St K (O) L H' → Q (V.int r) H'
def m_check_begins_b1  (x : Int × Int) (s : Unit) : Option (Z.Step Unit Unit) :=
  (if (decide (x.2 ≤ x.1)) = true then
  none
  else
  some (Z.Step.go (())))
def m_check_begins (x_last : Int) (x_begins : List Int) : Option (Unit) :=
  ((m_is_list_of_integers x_begins) >>= fun (r3 : Bool) =>
  (if (!r3) = true then
  some (true)
  else
  (Z.chk (Z.CEq (PyData.list ((Z.cutL x_begins none (some (1 : Int))).map PyData.int)) (PyData.list (([(0 : Int)]).map PyData.int))) >>= fun _ =>
  (if (!PyData.eqv (PyData.list ((Z.cutL x_begins none (some (1 : Int))).map PyData.int)) (PyData.list (([(0 : Int)]).map PyData.int))) = true then
  some (true)
  else
  (atI x_begins (-(1 : Int))) >>= fun (x13 : Int) =>
  some ((decide (x_last < x13)))) : Option (Bool)) >>= fun (st5 : Bool) =>
  some (st5)) : Option (Bool)) >>= fun (st1 : Bool) =>
  (if st1 = true then
  none
  else
  (Z.loopM (m_check_begins_b1) (List.zip x_begins (Z.cutL x_begins (some (1 : Int)) none)) (())) >>= fun res23 =>
  Z.after res23 (fun (s27 : Unit) =>
  some (())))
def sp_check_begins (K : PySem.W.Frag) : Sp := fun vs H Q _ => ∃ (O : Z.OL) (L : Z.DL) (x_last : Int) (v_begins : V) (x_begins : List Int), vs = [V.int x_last, v_begins] ∧ Z.St K (O) L H ∧ Z.Its K L [v_begins] [(PyData.list (x_begins.map PyData.int))] ∧ ∃ r : Unit, m_check_begins x_last x_begins = some r ∧ ∀ H', Z.St K (O) L H' → Q V.non H'
def m_common_numbers_c1  (xz : (Int × Int)) (sz : Unit) : Option (Option Int × Unit) :=
  some (some xz.1, (()))
def m_common_numbers_c2  (xz : (Int × Int)) (sz : Unit) : Option (Option Int × Unit) :=
  some (some xz.2, (()))
def m_common_numbers_b3 (x_ends : List (Int × Int)) (x : Int × Int) (s : (List (Int × Int))) : Option (Z.Step (List (Int × Int)) (List (Int × Int))) :=
  Z.chk ((Z.cutL x_ends (some x.1) (some x.2)).length < sizeLine) >>= fun _ =>
  Z.compM (m_common_numbers_c1) (Z.cutL x_ends (some x.1) (some x.2)) (()) >>= fun (r29 : List Int × Unit) =>
  Z.chk (0 < r29.1.length) >>= fun _ =>
  Z.chk ((Z.cutL x_ends (some x.1) (some x.2)).length < sizeLine) >>= fun _ =>
  Z.compM (m_common_numbers_c2) (Z.cutL x_ends (some x.1) (some x.2)) (()) >>= fun (r39 : List Int × Unit) =>
  Z.chk (0 < r39.1.length) >>= fun _ =>
  Z.chk (s.length < sizeLine) >>= fun _ =>
  some (Z.Step.go ((s ++ [((Z.lmax r29.1), (Z.lmin r39.1))])))
def m_common_numbers (x_ends : List (Int × Int)) (x_begins : List Int) : Option ((List (Int × Int))) :=
  Z.chk ((Z.cutL x_begins (some (1 : Int)) none).length + ([((x_ends.length : Nat) : Int)]).length ≤ sizeLine) >>= fun _ =>
  (Z.loopM (m_common_numbers_b3 x_ends) (List.zip x_begins ((Z.cutL x_begins (some (1 : Int)) none) ++ [((x_ends.length : Nat) : Int)])) (([] : List (Int × Int)))) >>= fun res15 =>
  Z.after res15 (fun (s43 : (List (Int × Int))) =>
  some (s43))
def sp_common_numbers (K : PySem.W.Frag) : Sp := fun vs H Q _ => ∃ (O : Z.OL) (L : Z.DL) (v_ends : V) (x_ends : List (Int × Int)) (v_begins : V) (x_begins : List Int), vs = [v_ends, v_begins] ∧ Z.St K (O) L H ∧ Z.Its K L [v_ends] [(PyData.list (x_ends.map (fun y : (Int × Int) => (PyData.tuple [(PyData.int y.1), (PyData.int y.2)]))))] ∧ Z.Its K L [v_begins] [(PyData.list (x_begins.map PyData.int))] ∧ ∃ r : (List (Int × Int)), m_common_numbers x_ends x_begins = some r ∧ ∀ p ws H', Z.St K ((p, .lst ws) :: O) ((ws, r.map (fun y : (Int × Int) => (PyData.tuple [(PyData.int y.1), (PyData.int y.2)]))) :: L) H' → Q (.ref p) H'
def m_plan_of_groups_b1  (x : Int × Int × (Int × Int)) (s : Int × (List Int)) : Option (Z.Step (Int × (List Int)) (List Int)) :=
  Z.chk (Z.CRepL ([(Z.imin (Z.imax s.1 x.2.2.1) x.2.2.2)]).length (x.2.1 - x.1)) >>= fun _ =>
  Z.chk (s.2.length + (Z.repL ([(Z.imin (Z.imax s.1 x.2.2.1) x.2.2.2)]) (x.2.1 - x.1)).length ≤ sizeLine) >>= fun _ =>
  some (Z.Step.go ((Z.imin (Z.imax s.1 x.2.2.1) x.2.2.2), (s.2 ++ (Z.repL ([(Z.imin (Z.imax s.1 x.2.2.1) x.2.2.2)]) (x.2.1 - x.1)))))
def m_plan_of_groups (x_ends : List (Int × Int)) (x_begins : List Int) (x_commons : List (Int × Int)) : Option ((List Int)) :=
  Z.chk ((Z.cutL x_begins (some (1 : Int)) none).length + ([((x_ends.length : Nat) : Int)]).length ≤ sizeLine) >>= fun _ =>
  (Z.loopM (m_plan_of_groups_b1) (List.zip x_begins (List.zip ((Z.cutL x_begins (some (1 : Int)) none) ++ [((x_ends.length : Nat) : Int)]) x_commons)) ((0 : Int), [])) >>= fun res17 =>
  Z.after res17 (fun (s32 : Int × (List Int)) =>
  some (s32.2))
def sp_plan_of_groups (K : PySem.W.Frag) : Sp := fun vs H Q _ => ∃ (O : Z.OL) (L : Z.DL) (v_ends : V) (x_ends : List (Int × Int)) (v_begins : V) (x_begins : List Int) (v_commons : V) (x_commons : List (Int × Int)), vs = [v_ends, v_begins, v_commons] ∧ Z.St K (O) L H ∧ Z.Its K L [v_ends] [(PyData.list (x_ends.map (fun y : (Int × Int) => (PyData.tuple [(PyData.int y.1), (PyData.int y.2)]))))] ∧ Z.Its K L [v_begins] [(PyData.list (x_begins.map PyData.int))] ∧ Z.Its K L [v_commons] [(PyData.list (x_commons.map (fun y : (Int × Int) => (PyData.tuple [(PyData.int y.1), (PyData.int y.2)]))))] ∧ ∃ r : (List Int), m_plan_of_groups x_ends x_begins x_commons = some r ∧ ∀ p H', Z.St K ((p, .lst (r.map V.int)) :: O) L H' → Q (.ref p) H'
def m_plan_in_blocks_b1  (x : Int × (Int × Int)) (s : Unit) : Option (Z.Step Unit (List Int)) :=
  (if (decide (x.2.2 < x.2.1)) = true then
  none
  else
  some (Z.Step.go (())))
def m_plan_in_blocks (x_trace : Str) (x_registers : Int) (x_top : Int) (x_begins : List Int) : Option ((List Int)) :=
  (m_ends_of x_trace x_registers x_top) >>= fun (r1 : (List (Int × Int))) =>
  Z.chk (x_trace.length ≤ sizeLine) >>= fun _ =>
  (m_check_begins ((x_trace.length : Nat) : Int) x_begins) >>= fun (r6 : Unit) =>
  (m_common_numbers r1 x_begins) >>= fun (r8 : (List (Int × Int))) =>
  (Z.loopM (m_plan_in_blocks_b1) (Z.enumZ r8) (())) >>= fun res15 =>
  Z.after res15 (fun (s24 : Unit) =>
  (m_plan_of_groups r1 x_begins r8) >>= fun (r28 : (List Int)) =>
  some (r28))
def sp_plan_in_blocks (K : PySem.W.Frag) : Sp := fun vs H Q _ => ∃ (O : Z.OL) (L : Z.DL) (x_trace : Str) (x_registers : Int) (x_top : Int) (v_begins : V) (x_begins : List Int), vs = [V.str x_trace, V.int x_registers, V.int x_top, v_begins] ∧ Z.St K (O) L H ∧ Z.Its K L [v_begins] [(PyData.list (x_begins.map PyData.int))] ∧ ∃ r : (List Int), m_plan_in_blocks x_trace x_registers x_top x_begins = some r ∧ ∀ p H', Z.St K ((p, .lst (r.map V.int)) :: O) L H' → Q (.ref p) H'
def m__law_high_path_b1 (x_many : Int) (s : Str × Int × (List Int)) : Option (Z.Step (Str × Int × (List Int)) (Str × (List Int))) :=
  Z.chk (s.1.length ≤ sizeLine) >>= fun _ =>
  (if (decide (((s.1.length : Nat) : Int) < x_many)) = true then
  Z.chk (s.1.length ≤ sizeLine) >>= fun _ =>
  (m__law_draw s.2.2 (300 : Int)) >>= fun (r8 : Int × (List Int)) =>
  ((if (decide ((0 : Int) < s.2.1)) = true then
  (m__law_draw r8.2 (2 : Int)) >>= fun (r12 : Int × (List Int)) =>
  some ((decide (r12.1 = (0 : Int))), r12.2)
  else
  some (false, r8.2)) : Option (Bool × (List Int))) >>= fun (st10 : Bool × (List Int)) =>
  (if st10.1 = true then
  Z.chk (Z.CRep ("-" : Str) (Z.imin (Z.imin (x_many - ((s.1.length : Nat) : Int)) ((1 : Int) + r8.1)) s.2.1)) >>= fun _ =>
  Z.chk (s.1.length + (Txt.mul ("-" : Str) (Z.imin (Z.imin (x_many - ((s.1.length : Nat) : Int)) ((1 : Int) + r8.1)) s.2.1)).length ≤ sizeLine) >>= fun _ =>
  some (Z.Step.go ((s.1 ++ (Txt.mul ("-" : Str) (Z.imin (Z.imin (x_many - ((s.1.length : Nat) : Int)) ((1 : Int) + r8.1)) s.2.1))), (s.2.1 - (Z.imin (Z.imin (x_many - ((s.1.length : Nat) : Int)) ((1 : Int) + r8.1)) s.2.1)), st10.2))
  else
  Z.chk (Z.CRep ("+" : Str) (Z.imin (x_many - ((s.1.length : Nat) : Int)) ((1 : Int) + r8.1))) >>= fun _ =>
  Z.chk (s.1.length + (Txt.mul ("+" : Str) (Z.imin (x_many - ((s.1.length : Nat) : Int)) ((1 : Int) + r8.1))).length ≤ sizeLine) >>= fun _ =>
  some (Z.Step.go ((s.1 ++ (Txt.mul ("+" : Str) (Z.imin (x_many - ((s.1.length : Nat) : Int)) ((1 : Int) + r8.1)))), (s.2.1 + (Z.imin (x_many - ((s.1.length : Nat) : Int)) ((1 : Int) + r8.1))), st10.2)))
  else
  some (Z.Step.out (s.1, s.2.1, s.2.2)))
def m__law_high_path (x_source : List Int) (x_many : Int) : Option (Str × (List Int)) :=
  (Z.whileM (m__law_high_path_b1 x_many) Z.FUEL (("" : Str), (0 : Int), x_source)) >>= fun res3 =>
  Z.after res3 (fun (s19 : Str × Int × (List Int)) =>
  some (s19.1, s19.2.2))
def sp__law_high_path (K : PySem.W.Frag) : Sp := fun vs H Q _ => ∃ (O : Z.OL) (L : Z.DL) (p_source : Addr) (x_source : List Int) (x_many : Int), vs = [.ref p_source, V.int x_many] ∧ Z.St K ((p_source, .lst (x_source.map V.int)) :: O) L H ∧ ∃ r : Str × (List Int), m__law_high_path x_source x_many = some r ∧ ∀ H', Z.St K ((p_source, .lst (r.2.map V.int)) :: O) L H' → Q (V.str r.1) H'
def m__law_far_machine (x_source : List Int) : Option ((Int × Int) × (List Int)) :=
  (m__law_draw x_source (360 : Int)) >>= fun (r1 : Int × (List Int)) =>
  (m__law_draw r1.2 (100 : Int)) >>= fun (r3 : Int × (List Int)) =>
  (m__law_draw r3.2 (3 : Int)) >>= fun (r6 : Int × (List Int)) =>
  (atI ([((40 : Int) + r1.1), r3.1, (((10 : Int) ^ (30 : Int).toNat) - (1001 : Int))]) r6.1) >>= fun (x8 : Int) =>
  (m__law_draw r6.2 (300 : Int)) >>= fun (r10 : Int × (List Int)) =>
  (m__law_draw r10.2 (4 : Int)) >>= fun (r13 : Int × (List Int)) =>
  (atI ([(0 : Int), (0 : Int), (1 : Int), r10.1]) r13.1) >>= fun (x15 : Int) =>
  some (((Z.imax (1 : Int) (x8 + x15)), x15), r13.2)
def sp__law_far_machine (K : PySem.W.Frag) : Sp := fun vs H Q _ => ∃ (O : Z.OL) (L : Z.DL) (p_source : Addr) (x_source : List Int), vs = [.ref p_source] ∧ Z.St K ((p_source, .lst (x_source.map V.int)) :: O) L H ∧ ∃ r : (Int × Int) × (List Int), m__law_far_machine x_source = some r ∧ ∀ v H', Z.St K ((p_source, .lst (r.2.map V.int)) :: O) (([v], [(PyData.tuple [(PyData.int r.1.1), (PyData.int r.1.2)])]) :: L) H' → Q v H'
def m__law_grouping_b1 (x_stages : List Int) (x_room : Int) (x12 : Int) (x : Int) (s : Int × Int × (List Int) × (List Int)) : Option (Z.Step (Int × Int × (List Int) × (List Int)) ((List Int) × (List Int))) :=
  (atI x_stages x) >>= fun (x22 : Int) =>
  (atI x_stages x) >>= fun (x25 : Int) =>
  ((if (decide (x_room < ((Z.imax s.2.1 x25) - (Z.imin s.1 x22)))) = true then
  some (true, s.2.2.1)
  else
  (m__law_draw s.2.2.1 x12) >>= fun (r29 : Int × (List Int)) =>
  some ((decide (r29.1 = (0 : Int))), r29.2)) : Option (Bool × (List Int))) >>= fun (st27 : Bool × (List Int)) =>
  (if st27.1 = true then
  Z.chk (s.2.2.2.length < sizeLine) >>= fun _ =>
  (atI x_stages x) >>= fun (x34 : Int) =>
  (atI x_stages x) >>= fun (x37 : Int) =>
  some (Z.Step.go (x34, x37, st27.2, (s.2.2.2 ++ [x])))
  else
  some (Z.Step.go ((Z.imin s.1 x22), (Z.imax s.2.1 x25), st27.2, s.2.2.2)))
def m__law_grouping (x_source : List Int) (x_stages : List Int) (x_room : Int) : Option ((List Int) × (List Int)) :=
  (atI x_stages (0 : Int)) >>= fun (x4 : Int) =>
  (atI x_stages (0 : Int)) >>= fun (x7 : Int) =>
  (m__law_draw x_source (4 : Int)) >>= fun (r10 : Int × (List Int)) =>
  (atI ([(1 : Int), (3 : Int), (9 : Int), (100 : Int)]) r10.1) >>= fun (x12 : Int) =>
  Z.chk (Z.CRng (1 : Int)) >>= fun _ =>
  Z.chk (Z.CRng ((x_stages.length : Nat) : Int)) >>= fun _ =>
  (Z.loopM (m__law_grouping_b1 x_stages x_room x12) (Z.upto (1 : Int) ((x_stages.length : Nat) : Int)) (x4, x7, r10.2, [(0 : Int)])) >>= fun res18 =>
  Z.after res18 (fun (s39 : Int × Int × (List Int) × (List Int)) =>
  some (s39.2.2.2, s39.2.2.1))
def sp__law_grouping (K : PySem.W.Frag) : Sp := fun vs H Q _ => ∃ (O : Z.OL) (L : Z.DL) (p_source : Addr) (x_source : List Int) (v_stages : V) (x_stages : List Int) (x_room : Int), vs = [.ref p_source, v_stages, V.int x_room] ∧ Z.St K ((p_source, .lst (x_source.map V.int)) :: O) L H ∧ Z.Its K L [v_stages] [(PyData.list (x_stages.map PyData.int))] ∧ ∃ r : (List Int) × (List Int), m__law_grouping x_source x_stages x_room = some r ∧ ∀ p H', Z.St K ((p, .lst (r.1.map V.int)) :: (p_source, .lst (r.2.map V.int)) :: O) L H' → Q (.ref p) H'
def m__law_common_b1 (x_stages : List Int) (x_room : Int) (x : Int × Int) (s : (List (Int × Int))) : Option (Z.Step (List (Int × Int)) (List (Int × Int))) :=
  Z.chk (0 < (Z.cutL x_stages (some x.1) (some x.2)).length) >>= fun _ =>
  Z.chk (0 < (Z.cutL x_stages (some x.1) (some x.2)).length) >>= fun _ =>
  Z.chk (s.length < sizeLine) >>= fun _ =>
  some (Z.Step.go ((s ++ [((Z.imax (0 : Int) ((Z.lmax (Z.cutL x_stages (some x.1) (some x.2))) - x_room)), (Z.lmin (Z.cutL x_stages (some x.1) (some x.2))))])))
def m__law_common (x_stages : List Int) (x_room : Int) (x_begins_here : List Int) : Option ((List (Int × Int))) :=
  Z.chk ((Z.cutL x_begins_here (some (1 : Int)) none).length + ([((x_stages.length : Nat) : Int)]).length ≤ sizeLine) >>= fun _ =>
  (Z.loopM (m__law_common_b1 x_stages x_room) (List.zip x_begins_here ((Z.cutL x_begins_here (some (1 : Int)) none) ++ [((x_stages.length : Nat) : Int)])) (([] : List (Int × Int)))) >>= fun res15 =>
  Z.after res15 (fun (s25 : (List (Int × Int))) =>
  some (s25))
def sp__law_common (K : PySem.W.Frag) : Sp := fun vs H Q _ => ∃ (O : Z.OL) (L : Z.DL) (v_stages : V) (x_stages : List Int) (x_room : Int) (v_begins_here : V) (x_begins_here : List Int), vs = [v_stages, V.int x_room, v_begins_here] ∧ Z.St K (O) L H ∧ Z.Its K L [v_stages] [(PyData.list (x_stages.map PyData.int))] ∧ Z.Its K L [v_begins_here] [(PyData.list (x_begins_here.map PyData.int))] ∧ ∃ r : (List (Int × Int)), m__law_common x_stages x_room x_begins_here = some r ∧ ∀ p ws H', Z.St K ((p, .lst ws) :: O) ((ws, r.map (fun y : (Int × Int) => (PyData.tuple [(PyData.int y.1), (PyData.int y.2)]))) :: L) H' → Q (.ref p) H'
def m__law_in_groups_b1  (x : (Int × Int) × Int × Int) (s : (List Int) × Int) : Option (Z.Step ((List Int) × Int) (List Int)) :=
  Z.chk (Z.CRepL ([(Z.imax x.1.1 (Z.imin x.1.2 s.2))]).length (x.2.2 - x.2.1)) >>= fun _ =>
  Z.chk (s.1.length + (Z.repL ([(Z.imax x.1.1 (Z.imin x.1.2 s.2))]) (x.2.2 - x.2.1)).length ≤ sizeLine) >>= fun _ =>
  some (Z.Step.go ((s.1 ++ (Z.repL ([(Z.imax x.1.1 (Z.imin x.1.2 s.2))]) (x.2.2 - x.2.1))), (Z.imax x.1.1 (Z.imin x.1.2 s.2))))
def m__law_in_groups (x_stages : List Int) (x_room : Int) (x_begins_here : List Int) : Option ((List Int)) :=
  Z.chk ((Z.cutL x_begins_here (some (1 : Int)) none).length + ([((x_stages.length : Nat) : Int)]).length ≤ sizeLine) >>= fun _ =>
  (m__law_common x_stages x_room x_begins_here) >>= fun (r10 : (List (Int × Int))) =>
  (Z.loopM (m__law_in_groups_b1) (List.zip r10 (List.zip x_begins_here ((Z.cutL x_begins_here (some (1 : Int)) none) ++ [((x_stages.length : Nat) : Int)]))) ([], (0 : Int))) >>= fun res19 =>
  Z.after res19 (fun (s42 : (List Int) × Int) =>
  some (s42.1))
def sp__law_in_groups (K : PySem.W.Frag) : Sp := fun vs H Q _ => ∃ (O : Z.OL) (L : Z.DL) (v_stages : V) (x_stages : List Int) (x_room : Int) (v_begins_here : V) (x_begins_here : List Int), vs = [v_stages, V.int x_room, v_begins_here] ∧ Z.St K (O) L H ∧ Z.Its K L [v_stages] [(PyData.list (x_stages.map PyData.int))] ∧ Z.Its K L [v_begins_here] [(PyData.list (x_begins_here.map PyData.int))] ∧ ∃ r : (List Int), m__law_in_groups x_stages x_room x_begins_here = some r ∧ ∀ v H', Z.St K (O) (([v], [(PyData.list (r.map PyData.int))]) :: L) H' → Q v H'
def m__law_any_machine (x_source : List Int) : Option ((Int × Int) × (List Int)) :=
  (m__law_draw x_source (4 : Int)) >>= fun (r1 : Int × (List Int)) =>
  (if (decide ((0 : Int) < r1.1)) = true then
  (m__law_machine r1.2) >>= fun (r3 : (Int × Int) × (List Int)) =>
  some (r3.1, r3.2)
  else
  (m__law_draw r1.2 (60 : Int)) >>= fun (r6 : Int × (List Int)) =>
  (m__law_draw r6.2 ((10 : Int) ^ (29 : Int).toNat)) >>= fun (r8 : Int × (List Int)) =>
  (m__law_draw r8.2 (4 : Int)) >>= fun (r11 : Int × (List Int)) =>
  (atI ([(0 : Int), (1 : Int), r6.1, r8.1]) r11.1) >>= fun (x13 : Int) =>
  (m__law_draw r11.2 ((10 : Int) ^ (29 : Int).toNat)) >>= fun (r15 : Int × (List Int)) =>
  some (((Z.imax (1 : Int) (x13 + r15.1)), x13), r15.2))
def sp__law_any_machine (K : PySem.W.Frag) : Sp := fun vs H Q _ => ∃ (O : Z.OL) (L : Z.DL) (p_source : Addr) (x_source : List Int), vs = [.ref p_source] ∧ Z.St K ((p_source, .lst (x_source.map V.int)) :: O) L H ∧ ∃ r : (Int × Int) × (List Int), m__law_any_machine x_source = some r ∧ ∀ v H', Z.St K ((p_source, .lst (r.2.map V.int)) :: O) (([v], [(PyData.tuple [(PyData.int r.1.1), (PyData.int r.1.2)])]) :: L) H' → Q v H'
def m_checked_future (x_future : Str) (x_depth : Int) : Option ((List Int)) :=
  ((if (!true) = true then
  some (true)
  else
  Z.chk (x_future.length ≤ sizeLine) >>= fun _ =>
  some ((decide ((1000 : Int) < ((x_future.length : Nat) : Int))))) : Option (Bool)) >>= fun (st1 : Bool) =>
  (if st1 = true then
  none
  else
  (m_depths_along x_future x_depth) >>= fun (r5 : (List Int)) =>
  Z.chk (x_future.length ≤ sizeLine) >>= fun _ =>
  (if (decide (((r5.length : Nat) : Int) ≤ ((x_future.length : Nat) : Int))) = true then
  none
  else
  some (r5)))
def sp_checked_future (K : PySem.W.Frag) : Sp := fun vs H Q _ => ∃ (O : Z.OL) (L : Z.DL) (x_future : Str) (x_depth : Int), vs = [V.str x_future, V.int x_depth] ∧ Z.St K (O) L H ∧ ∃ r : (List Int), m_checked_future x_future x_depth = some r ∧ ∀ p H', Z.St K ((p, .lst (r.map V.int)) :: O) L H' → Q (.ref p) H'
def m_moved_behind_c1  (x : Int × Int) (s : Unit) : Option (Option Int × Unit) :=
  some (some (x.2 - x.1), (()))
def m_moved_behind (x_trace : Str) (x_registers : Int) (x_top : Int) (x_future : Str) : Option ((List Int)) :=
  (m_checked_depths x_trace) >>= fun (r1 : (List Int)) =>
  (m_check_machine x_registers x_top) >>= fun (r4 : Unit) =>
  (atI r1 (-(1 : Int))) >>= fun (x6 : Int) =>
  (m_checked_future x_future x6) >>= fun (r8 : (List Int)) =>
  (m_lazy_along r1 x_registers x_top (0 : Int)) >>= fun (r11 : (List Int)) =>
  (atI r11 (-(1 : Int))) >>= fun (x14 : Int) =>
  (m_lazy_along r8 x_registers x_top x14) >>= fun (r16 : (List Int)) =>
  Z.chk ((List.zip r16 (Z.cutL r16 (some (1 : Int)) none)).length < sizeLine) >>= fun _ =>
  Z.compM (m_moved_behind_c1) (List.zip r16 (Z.cutL r16 (some (1 : Int)) none)) (()) >>= fun (r22 : List Int × Unit) =>
  some (r22.1)
def sp_moved_behind (K : PySem.W.Frag) : Sp := fun vs H Q _ => ∃ (O : Z.OL) (L : Z.DL) (x_trace : Str) (x_registers : Int) (x_top : Int) (x_future : Str), vs = [V.str x_trace, V.int x_registers, V.int x_top, V.str x_future] ∧ Z.St K (O) L H ∧ ∃ r : (List Int), m_moved_behind x_trace x_registers x_top x_future = some r ∧ ∀ p H', Z.St K ((p, .lst (r.map V.int)) :: O) L H' → Q (.ref p) H'
def m__law_coming_b1 (x_many : Int) (r1 : Int × (List Int)) (s : Int × Str × (List Int)) : Option (Z.Step (Int × Str × (List Int)) (Str × (List Int))) :=
  Z.chk (s.2.1.length ≤ sizeLine) >>= fun _ =>
  (if (decide (((s.2.1.length : Nat) : Int) < x_many)) = true then
  Z.chk (s.2.1.length ≤ sizeLine) >>= fun _ =>
  (atI ([(1 : Int), (6 : Int), (30 : Int)]) r1.1) >>= fun (x10 : Int) =>
  (m__law_draw s.2.2 x10) >>= fun (r12 : Int × (List Int)) =>
  ((if (decide ((0 : Int) < s.1)) = true then
  (m__law_draw r12.2 (2 : Int)) >>= fun (r16 : Int × (List Int)) =>
  some ((decide (r16.1 = (0 : Int))), r16.2)
  else
  some (false, r12.2)) : Option (Bool × (List Int))) >>= fun (st14 : Bool × (List Int)) =>
  (if st14.1 = true then
  Z.chk (Z.CRep ("-" : Str) (Z.imin (Z.imin (x_many - ((s.2.1.length : Nat) : Int)) ((1 : Int) + r12.1)) s.1)) >>= fun _ =>
  Z.chk (s.2.1.length + (Txt.mul ("-" : Str) (Z.imin (Z.imin (x_many - ((s.2.1.length : Nat) : Int)) ((1 : Int) + r12.1)) s.1)).length ≤ sizeLine) >>= fun _ =>
  some (Z.Step.go ((s.1 - (Z.imin (Z.imin (x_many - ((s.2.1.length : Nat) : Int)) ((1 : Int) + r12.1)) s.1)), (s.2.1 ++ (Txt.mul ("-" : Str) (Z.imin (Z.imin (x_many - ((s.2.1.length : Nat) : Int)) ((1 : Int) + r12.1)) s.1))), st14.2))
  else
  Z.chk (Z.CRep ("+" : Str) (Z.imin (x_many - ((s.2.1.length : Nat) : Int)) ((1 : Int) + r12.1))) >>= fun _ =>
  Z.chk (s.2.1.length + (Txt.mul ("+" : Str) (Z.imin (x_many - ((s.2.1.length : Nat) : Int)) ((1 : Int) + r12.1))).length ≤ sizeLine) >>= fun _ =>
  some (Z.Step.go ((s.1 + (Z.imin (x_many - ((s.2.1.length : Nat) : Int)) ((1 : Int) + r12.1))), (s.2.1 ++ (Txt.mul ("+" : Str) (Z.imin (x_many - ((s.2.1.length : Nat) : Int)) ((1 : Int) + r12.1)))), st14.2)))
  else
  some (Z.Step.out (s.1, s.2.1, s.2.2)))
def m__law_coming (x_source : List Int) (x_high : Int) (x_many : Int) : Option (Str × (List Int)) :=
  (m__law_draw x_source (3 : Int)) >>= fun (r1 : Int × (List Int)) =>
  (Z.whileM (m__law_coming_b1 x_many r1) Z.FUEL (x_high, ("" : Str), r1.2)) >>= fun res4 =>
  Z.after res4 (fun (s23 : Int × Str × (List Int)) =>
  some (s23.2.1, s23.2.2))
def sp__law_coming (K : PySem.W.Frag) : Sp := fun vs H Q _ => ∃ (O : Z.OL) (L : Z.DL) (p_source : Addr) (x_source : List Int) (x_high : Int) (x_many : Int), vs = [.ref p_source, V.int x_high, V.int x_many] ∧ Z.St K ((p_source, .lst (x_source.map V.int)) :: O) L H ∧ ∃ r : Str × (List Int), m__law_coming x_source x_high x_many = some r ∧ ∀ H', Z.St K ((p_source, .lst (r.2.map V.int)) :: O) L H' → Q (V.str r.1) H'
def m__law_left (x_path : Str) : Option (Int) :=
  some (((Txt.count x_path ("+" : Str)) - (Txt.count x_path ("-" : Str))))
def sp__law_left (K : PySem.W.Frag) : Sp := fun vs H Q _ => ∃ (O : Z.OL) (L : Z.DL) (x_path : Str), vs = [V.str x_path] ∧ Z.St K (O) L H ∧ ∃ r : Int, m__law_left x_path = some r ∧ ∀ H', Z.St K (O) L H' → Q (V.int r) H'
def m_word_numbers_at_c1 (x_top : Int) (x : Int) (s : Unit) : Option (Option Int × Unit) :=
  some (some ((x + x_top) - (1 : Int)), (()))
def m_word_numbers_at (x_depths : List Int) (x_top : Int) : Option ((List Int)) :=
  (m_levels_above x_depths x_top) >>= fun (r1 : (List Int)) =>
  (m_open_heights_of r1) >>= fun (r4 : (List Int)) =>
  Z.chk (r4.length < sizeLine) >>= fun _ =>
  Z.compM (m_word_numbers_at_c1 x_top) r4 (()) >>= fun (r9 : List Int × Unit) =>
  (atI x_depths (-(1 : Int))) >>= fun (x13 : Int) =>
  Z.chk (Z.CRepL ([(0 : Int)]).length (Z.imin x_top x13)) >>= fun _ =>
  Z.chk (r9.1.length + (Z.repL ([(0 : Int)]) (Z.imin x_top x13)).length ≤ sizeLine) >>= fun _ =>
  some ((r9.1 ++ (Z.repL ([(0 : Int)]) (Z.imin x_top x13))))
def sp_word_numbers_at (K : PySem.W.Frag) : Sp := fun vs H Q _ => ∃ (O : Z.OL) (L : Z.DL) (v_depths : V) (x_depths : List Int) (x_top : Int), vs = [v_depths, V.int x_top] ∧ Z.St K (O) L H ∧ Z.Its K L [v_depths] [(PyData.list (x_depths.map PyData.int))] ∧ ∃ r : (List Int), m_word_numbers_at x_depths x_top = some r ∧ ∀ p H', Z.St K ((p, .lst (r.map V.int)) :: O) L H' → Q (.ref p) H'
def m_word_numbers (x_trace : Str) (x_top : Int) : Option ((List Int)) :=
  (m_checked_depths x_trace) >>= fun (r1 : (List Int)) =>
  (m_check_top x_top (1000 : Int)) >>= fun (r4 : Unit) =>
  (m_word_numbers_at r1 x_top) >>= fun (r6 : (List Int)) =>
  some (r6)
def sp_word_numbers (K : PySem.W.Frag) : Sp := fun vs H Q _ => ∃ (O : Z.OL) (L : Z.DL) (x_trace : Str) (x_top : Int), vs = [V.str x_trace, V.int x_top] ∧ Z.St K (O) L H ∧ ∃ r : (List Int), m_word_numbers x_trace x_top = some r ∧ ∀ p H', Z.St K ((p, .lst (r.map V.int)) :: O) L H' → Q (.ref p) H'
def m__law_inside_c1 (x_seats : Int) (x : Int) (s : Unit) : Option (Option Int × Unit) :=
  (if (decide (x_seats ≤ x)) = true then
  some (some x, (()))
  else
  some (none, (())))
def m__law_inside (x_path : Str) (x_seats : Int) (x_held : Int) : Option (Int) :=
  (m_word_numbers x_path x_held) >>= fun (r1 : (List Int)) =>
  Z.chk (r1.length < sizeLine) >>= fun _ =>
  Z.compM (m__law_inside_c1 x_seats) r1 (()) >>= fun (r6 : List Int × Unit) =>
  some (((r6.1.length : Nat) : Int))
def sp__law_inside (K : PySem.W.Frag) : Sp := fun vs H Q _ => ∃ (O : Z.OL) (L : Z.DL) (x_path : Str) (x_seats : Int) (x_held : Int), vs = [V.str x_path, V.int x_seats, V.int x_held] ∧ Z.St K (O) L H ∧ ∃ r : Int, m__law_inside x_path x_seats x_held = some r ∧ ∀ H', Z.St K (O) L H' → Q (V.int r) H'
def m_blocks_of_c1  (x : Int × Int) (s : Unit) : Option (Option (Int × Int) × Unit) :=
  some (some (x.1, (x.2 - (1 : Int))), (()))
def m_blocks_of (x_trace : Str) (x_registers : Int) (x_top : Int) : Option ((List (Int × Int))) :=
  (m_ends_of x_trace x_registers x_top) >>= fun (r1 : (List (Int × Int))) =>
  (m_begins_of r1) >>= fun (r5 : (List Int)) =>
  Z.chk (x_trace.length ≤ sizeLine) >>= fun _ =>
  Z.chk ((Z.cutL r5 (some (1 : Int)) none).length + ([(((x_trace.length : Nat) : Int) + (1 : Int))]).length ≤ sizeLine) >>= fun _ =>
  Z.chk ((List.zip r5 ((Z.cutL r5 (some (1 : Int)) none) ++ [(((x_trace.length : Nat) : Int) + (1 : Int))])).length < sizeLine) >>= fun _ =>
  Z.compM (m_blocks_of_c1) (List.zip r5 ((Z.cutL r5 (some (1 : Int)) none) ++ [(((x_trace.length : Nat) : Int) + (1 : Int))])) (()) >>= fun (r16 : List (Int × Int) × Unit) =>
  some (r16.1)
def sp_blocks_of (K : PySem.W.Frag) : Sp := fun vs H Q _ => ∃ (O : Z.OL) (L : Z.DL) (x_trace : Str) (x_registers : Int) (x_top : Int), vs = [V.str x_trace, V.int x_registers, V.int x_top] ∧ Z.St K (O) L H ∧ ∃ r : (List (Int × Int)), m_blocks_of x_trace x_registers x_top = some r ∧ ∀ p ws H', Z.St K ((p, .lst ws) :: O) ((ws, r.map (fun y : (Int × Int) => (PyData.tuple [(PyData.int y.1), (PyData.int y.2)]))) :: L) H' → Q (.ref p) H'
def m_best_plan (x_trace : Str) (x_registers : Int) (x_top : Int) : Option ((List Int)) :=
  (m_ends_of x_trace x_registers x_top) >>= fun (r1 : (List (Int × Int))) =>
  (m_begins_of r1) >>= fun (r5 : (List Int)) =>
  (m_common_numbers r1 r5) >>= fun (r8 : (List (Int × Int))) =>
  (m_plan_of_groups r1 r5 r8) >>= fun (r12 : (List Int)) =>
  some (r12)
def sp_best_plan (K : PySem.W.Frag) : Sp := fun vs H Q _ => ∃ (O : Z.OL) (L : Z.DL) (x_trace : Str) (x_registers : Int) (x_top : Int), vs = [V.str x_trace, V.int x_registers, V.int x_top] ∧ Z.St K (O) L H ∧ ∃ r : (List Int), m_best_plan x_trace x_registers x_top = some r ∧ ∀ p H', Z.St K ((p, .lst (r.map V.int)) :: O) L H' → Q (.ref p) H'
def m_stretches_of (x_trace : Str) (x_registers : Int) (x_top : Int) : Option ((List (Int × Int))) :=
  (m_ends_of x_trace x_registers x_top) >>= fun (r1 : (List (Int × Int))) =>
  (m_begins_of r1) >>= fun (r5 : (List Int)) =>
  some ((List.zip r5 (Z.cutL r5 (some (1 : Int)) none)))
def sp_stretches_of (K : PySem.W.Frag) : Sp := fun vs H Q _ => ∃ (O : Z.OL) (L : Z.DL) (x_trace : Str) (x_registers : Int) (x_top : Int), vs = [V.str x_trace, V.int x_registers, V.int x_top] ∧ Z.St K (O) L H ∧ ∃ r : (List (Int × Int)), m_stretches_of x_trace x_registers x_top = some r ∧ ∀ p ws H', Z.St K ((p, .lst ws) :: O) ((ws, r.map (fun y : (Int × Int) => (PyData.tuple [(PyData.int y.1), (PyData.int y.2)]))) :: L) H' → Q (.ref p) H'
def m_is_pair_of_moments (x_value : (Int × Int)) (x_last : Int) : Option (Bool) :=
  ((if (!true) = true then
  some (true)
  else
  some ((!decide ((2 : Int) = (2 : Int))))) : Option (Bool)) >>= fun (st1 : Bool) =>
  (if st1 = true then
  some (false)
  else
  ((m_is_integer x_value.1) >>= fun (r20 : Bool) =>
  (if r20 = true then
  (m_is_integer x_value.2) >>= fun (r22 : Bool) =>
  some ((r22 && ((decide ((0 : Int) ≤ x_value.1)) && ((decide (x_value.1 < x_value.2)) && (decide (x_value.2 ≤ x_last))))))
  else
  some (false)) : Option (Bool)) >>= fun (st18 : Bool) =>
  some (st18))
def sp_is_pair_of_moments (K : PySem.W.Frag) : Sp := fun vs H Q _ => ∃ (O : Z.OL) (L : Z.DL) (v_value : V) (x_value : (Int × Int)) (x_last : Int), vs = [v_value, V.int x_last] ∧ Z.St K (O) L H ∧ Z.Its K L [v_value] [(PyData.tuple [(PyData.int x_value.1), (PyData.int x_value.2)])] ∧ ∃ r : Bool, m_is_pair_of_moments x_value x_last = some r ∧ ∀ H', Z.St K (O) L H' → Q (V.bl r) H'
def m_shows_traps_b1 (x_trace : Str) (x_registers : Int) (x_top : Int) (r8 : (List Int)) (x : (Int × Int)) (s : Int) : Option (Z.Step Int Bool) :=
  (Z.chk (x_trace.length ≤ sizeLine) >>= fun _ =>
  (m_is_pair_of_moments x ((x_trace.length : Nat) : Int)) >>= fun (r23 : Bool) =>
  (if (!r23) = true then
  some (true)
  else
  some ((decide (x.1 < s)))) : Option (Bool)) >>= fun (st20 : Bool) =>
  (if st20 = true then
  some (Z.Step.ret (false))
  else
  Z.chk (0 < (Z.cutL r8 (some x.1) (some (x.2 + (1 : Int)))).length) >>= fun _ =>
  Z.chk (0 < (Z.cutL r8 (some x.1) (some (x.2 + (1 : Int)))).length) >>= fun _ =>
  (if (decide (((Z.lmax (Z.cutL r8 (some x.1) (some (x.2 + (1 : Int))))) - (Z.lmin (Z.cutL r8 (some x.1) (some (x.2 + (1 : Int)))))) ≤ (x_registers - x_top))) = true then
  some (Z.Step.ret (false))
  else
  some (Z.Step.go (x.2))))
def m_shows_traps (x_trace : Str) (x_registers : Int) (x_top : Int) (x_value : List (Int × Int)) : Option (Bool) :=
  (m_checked_depths x_trace) >>= fun (r1 : (List Int)) =>
  (m_check_machine x_registers x_top) >>= fun (r4 : Unit) =>
  (if (!true) = true then
  some (false)
  else
  (m_levels_above r1 x_top) >>= fun (r8 : (List Int)) =>
  (Z.loopM (m_shows_traps_b1 x_trace x_registers x_top r8) x_value ((0 : Int))) >>= fun res16 =>
  Z.after res16 (fun (s41 : Int) =>
  some (true)))
def sp_shows_traps (K : PySem.W.Frag) : Sp := fun vs H Q _ => ∃ (O : Z.OL) (L : Z.DL) (x_trace : Str) (x_registers : Int) (x_top : Int) (v_value : V) (x_value : List (Int × Int)), vs = [V.str x_trace, V.int x_registers, V.int x_top, v_value] ∧ Z.St K (O) L H ∧ Z.Its K L [v_value] [(PyData.list (x_value.map (fun y : (Int × Int) => (PyData.tuple [(PyData.int y.1), (PyData.int y.2)]))))] ∧ ∃ r : Bool, m_shows_traps x_trace x_registers x_top x_value = some r ∧ ∀ H', Z.St K (O) L H' → Q (V.bl r) H'
def m_rounds_below (x_depth : Int) (x_rise : Int) (x_times : Int) (x_top : Int) : Option (Int) :=
  (if (decide (x_top < x_depth)) = true then
  some ((0 : Int))
  else
  (if (decide (x_rise = (0 : Int))) = true then
  some (x_times)
  else
  Z.chk (CDivW (x_top - x_depth) x_rise) >>= fun _ =>
  some ((Z.imin x_times (((x_top - x_depth) / x_rise) + (1 : Int))))))
def sp_rounds_below (K : PySem.W.Frag) : Sp := fun vs H Q _ => ∃ (O : Z.OL) (L : Z.DL) (x_depth : Int) (x_rise : Int) (x_times : Int) (x_top : Int), vs = [V.int x_depth, V.int x_rise, V.int x_times, V.int x_top] ∧ Z.St K (O) L H ∧ ∃ r : Int, m_rounds_below x_depth x_rise x_times x_top = some r ∧ ∀ H', Z.St K (O) L H' → Q (V.int r) H'
def m_words_read_b1 (x_rise : Int) (x_times : Int) (x_registers : Int) (x_top : Int) (x : (Int × Option Int × Int × Int)) (s : Int) : Option (Z.Step Int Int) :=
  (if ((!decide ((Z.vO x.2.1) = V.non)) && (decide ((x_registers - x_top) < x.2.2.2))) = true then
  (m_rounds_below x.2.2.1 x_rise x_times x_top) >>= fun (r21 : Int) =>
  some (Z.Step.go ((s + (x_times - r21))))
  else
  some (Z.Step.go (s)))
def m_words_read (x_calls : List (Int × Option Int × Int × Int)) (x_rise : Int) (x_times : Int) (x_registers : Int) (x_top : Int) : Option (Int) :=
  (Z.loopM (m_words_read_b1 x_rise x_times x_registers x_top) x_calls ((0 : Int))) >>= fun res7 =>
  Z.after res7 (fun (s23 : Int) =>
  some (s23))
def sp_words_read (K : PySem.W.Frag) : Sp := fun vs H Q _ => ∃ (O : Z.OL) (L : Z.DL) (v_calls : V) (x_calls : List (Int × Option Int × Int × Int)) (x_rise : Int) (x_times : Int) (x_registers : Int) (x_top : Int), vs = [v_calls, V.int x_rise, V.int x_times, V.int x_registers, V.int x_top] ∧ Z.St K (O) L H ∧ Z.Its K L [v_calls] [(PyData.list (x_calls.map (fun y : (Int × Option Int × Int × Int) => (PyData.tuple [(PyData.int y.1), (Z.dO y.2.1), (PyData.int y.2.2.1), (PyData.int y.2.2.2)]))))] ∧ ∃ r : Int, m_words_read x_calls x_rise x_times x_registers x_top = some r ∧ ∀ H', Z.St K (O) L H' → Q (V.int r) H'
def m_words_left_c1  (x : (Int × Option Int × Int × Int)) (s : Unit) : Option (Option Int × Unit) :=
  some (some x.2.2.1, (()))
def m_words_left_b2 (x_rise : Int) (x_times : Int) (x_registers : Int) (x_top : Int) (x : (Int × Option Int × Int × Int)) (s : Int) : Option (Z.Step Int Int) :=
  (if ((decide ((Z.vO x.2.1) = V.non)) && ((decide (x_top < (((x_times - (1 : Int)) * x_rise) + x.2.2.1))) && (decide ((x_registers - x_top) < x.2.2.2)))) = true then
  some (Z.Step.go ((s + (1 : Int))))
  else
  some (Z.Step.go (s)))
def m_words_left (x_calls : List (Int × Option Int × Int × Int)) (x_rise : Int) (x_times : Int) (x_registers : Int) (x_top : Int) : Option (Int) :=
  (if (decide (x_rise = (0 : Int))) = true then
  some ((0 : Int))
  else
  Z.chk (CMulW (x_times - (1 : Int)) x_rise) >>= fun _ =>
  Z.chk (x_calls.length < sizeLine) >>= fun _ =>
  Z.compM (m_words_left_c1) x_calls (()) >>= fun (r17 : List Int × Unit) =>
  Z.chk (0 < r17.1.length) >>= fun _ =>
  (Z.loopM (m_words_left_b2 x_rise x_times x_registers x_top) x_calls ((Z.imax ((Z.imin ((x_times - (1 : Int)) * x_rise) ((((x_times - (1 : Int)) * x_rise) + (Z.lmax r17.1)) - (x_registers - x_top))) - x_top) (0 : Int)))) >>= fun res24 =>
  Z.after res24 (fun (s38 : Int) =>
  some (s38)))
def sp_words_left (K : PySem.W.Frag) : Sp := fun vs H Q _ => ∃ (O : Z.OL) (L : Z.DL) (v_calls : V) (x_calls : List (Int × Option Int × Int × Int)) (x_rise : Int) (x_times : Int) (x_registers : Int) (x_top : Int), vs = [v_calls, V.int x_rise, V.int x_times, V.int x_registers, V.int x_top] ∧ Z.St K (O) L H ∧ Z.Its K L [v_calls] [(PyData.list (x_calls.map (fun y : (Int × Option Int × Int × Int) => (PyData.tuple [(PyData.int y.1), (Z.dO y.2.1), (PyData.int y.2.2.1), (PyData.int y.2.2.2)]))))] ∧ ∃ r : Int, m_words_left x_calls x_rise x_times x_registers x_top = some r ∧ ∀ H', Z.St K (O) L H' → Q (V.int r) H'
def m_words_in_rounds_c1  (x : (Int × Option Int × Int × Int)) (s : Unit) : Option (Option (Option Int) × Unit) :=
  (if (decide ((Z.vO x.2.1) = V.non)) = true then
  some (some x.2.1, (()))
  else
  some (none, (())))
def m_words_in_rounds (x_trace : Str) (x_times : Int) (x_registers : Int) (x_top : Int) : Option ((Int × Int)) :=
  (m_calls_of x_trace (0 : Int)) >>= fun (r1 : (List (Int × Option Int × Int × Int))) =>
  (m_check_number x_times (1 : Int) (some (999999999999999999999999999999 : Int))) >>= fun (r5 : Unit) =>
  (m_check_machine x_registers x_top) >>= fun (r7 : Unit) =>
  Z.chk (r1.length < sizeLine) >>= fun _ =>
  Z.compM (m_words_in_rounds_c1) r1 (()) >>= fun (r21 : List (Option Int) × Unit) =>
  (m_words_read r1 ((r21.1.length : Nat) : Int) x_times x_registers x_top) >>= fun (r22 : Int) =>
  (m_words_left r1 ((r21.1.length : Nat) : Int) x_times x_registers x_top) >>= fun (r24 : Int) =>
  some (((r22 + r24), r22))
def sp_words_in_rounds (K : PySem.W.Frag) : Sp := fun vs H Q _ => ∃ (O : Z.OL) (L : Z.DL) (x_trace : Str) (x_times : Int) (x_registers : Int) (x_top : Int), vs = [V.str x_trace, V.int x_times, V.int x_registers, V.int x_top] ∧ Z.St K (O) L H ∧ ∃ r : (Int × Int), m_words_in_rounds x_trace x_times x_registers x_top = some r ∧ ∀ v H', Z.St K (O) (([v], [(PyData.tuple [(PyData.int r.1), (PyData.int r.2)])]) :: L) H' → Q v H'
def m_traps_of_like_rounds_b1 (x_turns : List Int) (x_rise : Int) (x_times : Int) (x_room : Int) (s : Int × Int × Int × (List ((Int × Int) × Int)) × (List Int)) : Option (Z.Step (Int × Int × Int × (List ((Int × Int) × Int)) × (List Int)) Int) :=
  ((if (decide (((s.2.2.2.2.length : Nat) : Int) < x_times)) = true then
  some ((!(Z.dget s.2.2.2.1 (s.1, s.2.1)).isSome))
  else
  some (false)) : Option (Bool)) >>= fun (st13 : Bool) =>
  (if st13 = true then
  Z.chk (s.2.2.2.1.length < sizeLine) >>= fun _ =>
  Z.chk (s.2.2.2.2.length < sizeLine) >>= fun _ =>
  (m_traps_along x_turns x_room s.1 s.2.1) >>= fun (r20 : (Int × Int × Int)) =>
  some (Z.Step.go ((r20.2.1 - x_rise), (r20.2.2 - x_rise), (s.2.2.1 + r20.1), (Z.dput s.2.2.2.1 (s.1, s.2.1) ((s.2.2.2.2.length : Nat) : Int)), (s.2.2.2.2 ++ [s.2.2.1])))
  else
  some (Z.Step.out (s.1, s.2.1, s.2.2.1, s.2.2.2.1, s.2.2.2.2)))
def m_traps_of_like_rounds (x_turns : List Int) (x_rise : Int) (x_times : Int) (x_room : Int) (x_block : (Int × Int)) : Option (Int) :=
  (Z.whileM (m_traps_of_like_rounds_b1 x_turns x_rise x_times x_room) Z.FUEL (x_block.1, x_block.2, (0 : Int), ([] : List ((Int × Int) × Int)), [])) >>= fun res10 =>
  Z.after res10 (fun (s31 : Int × Int × Int × (List ((Int × Int) × Int)) × (List Int)) =>
  (if (decide (((s31.2.2.2.2.length : Nat) : Int) = x_times)) = true then
  some (s31.2.2.1)
  else
  (Z.dget s31.2.2.2.1 (s31.1, s31.2.1)) >>= fun (x34 : Int) =>
  Z.chk (CDivW (x_times - ((s31.2.2.2.2.length : Nat) : Int)) (((s31.2.2.2.2.length : Nat) : Int) - x34)) >>= fun _ =>
  (atI s31.2.2.2.2 x34) >>= fun (x37 : Int) =>
  Z.chk (CMulW ((x_times - ((s31.2.2.2.2.length : Nat) : Int)) / (((s31.2.2.2.2.length : Nat) : Int) - x34)) (s31.2.2.1 - x37)) >>= fun _ =>
  Z.chk ((0 : Int) < (((s31.2.2.2.2.length : Nat) : Int) - x34)) >>= fun _ =>
  (atI s31.2.2.2.2 (x34 + ((x_times - ((s31.2.2.2.2.length : Nat) : Int)) % (((s31.2.2.2.2.length : Nat) : Int) - x34)))) >>= fun (x41 : Int) =>
  (atI s31.2.2.2.2 x34) >>= fun (x43 : Int) =>
  some ((((s31.2.2.1 + (((x_times - ((s31.2.2.2.2.length : Nat) : Int)) / (((s31.2.2.2.2.length : Nat) : Int) - x34)) * (s31.2.2.1 - x37))) + x41) - x43))))
def sp_traps_of_like_rounds (K : PySem.W.Frag) : Sp := fun vs H Q _ => ∃ (O : Z.OL) (L : Z.DL) (v_turns : V) (x_turns : List Int) (x_rise : Int) (x_times : Int) (x_room : Int) (v_block : V) (x_block : (Int × Int)), vs = [v_turns, V.int x_rise, V.int x_times, V.int x_room, v_block] ∧ Z.St K (O) L H ∧ Z.Its K L [v_turns] [(PyData.list (x_turns.map PyData.int))] ∧ Z.Its K L [v_block] [(PyData.tuple [(PyData.int x_block.1), (PyData.int x_block.2)])] ∧ ∃ r : Int, m_traps_of_like_rounds x_turns x_rise x_times x_room x_block = some r ∧ ∀ H', Z.St K (O) L H' → Q (V.int r) H'
def m_traps_in_rounds_c1 (x8 : Int) (s : Int × Int × Int × Int) (xz : Int) (sz : Unit) : Option (Option Int × Unit) :=
  Z.chk (CMulW s.1 x8) >>= fun _ =>
  some (some (xz + (s.1 * x8)), (()))
def m_traps_in_rounds_b2 (x_times : Int) (x_registers : Int) (x_top : Int) (r1 : (List Int)) (x8 : Int) (s : Int × Int × Int × Int) : Option (Z.Step (Int × Int × Int × Int) Int) :=
  ((if (decide (s.1 < x_times)) = true then
  ((if (decide ((0 : Int) < x8)) = true then
  Z.chk (CMulW s.1 x8) >>= fun _ =>
  some ((decide ((s.1 * x8) < x_top)))
  else
  some (false)) : Option (Bool)) >>= fun (st20 : Bool) =>
  some (st20)
  else
  some (false)) : Option (Bool)) >>= fun (st18 : Bool) =>
  (if st18 = true then
  Z.chk (r1.length < sizeLine) >>= fun _ =>
  Z.compM (m_traps_in_rounds_c1 x8 s) r1 (()) >>= fun (r30 : List Int × Unit) =>
  (m_levels_above r30.1 x_top) >>= fun (r31 : (List Int)) =>
  (m_turns_of r31) >>= fun (r34 : (List Int)) =>
  (m_traps_along r34 (x_registers - x_top) s.2.2.1 s.2.2.2) >>= fun (r37 : (Int × Int × Int)) =>
  some (Z.Step.go ((s.1 + (1 : Int)), (s.2.1 + r37.1), r37.2.1, r37.2.2))
  else
  some (Z.Step.out (s.1, s.2.1, s.2.2.1, s.2.2.2)))
def m_traps_in_rounds (x_trace : Str) (x_times : Int) (x_registers : Int) (x_top : Int) : Option (Int) :=
  (m_checked_depths x_trace) >>= fun (r1 : (List Int)) =>
  (m_check_number x_times (1 : Int) (some (999999999999999999999999999999 : Int))) >>= fun (r4 : Unit) =>
  (m_check_machine x_registers x_top) >>= fun (r6 : Unit) =>
  (atI r1 (-(1 : Int))) >>= fun (x8 : Int) =>
  Z.chk (0 < r1.length) >>= fun _ =>
  (m_rounds_below (Z.lmax r1) x8 x_times x_top) >>= fun (r11 : Int) =>
  (Z.whileM (m_traps_in_rounds_b2 x_times x_registers x_top r1 x8) Z.FUEL (r11, (0 : Int), (0 : Int), (0 : Int))) >>= fun res15 =>
  Z.after res15 (fun (s48 : Int × Int × Int × Int) =>
  Z.chk (CMulW s48.1 x8) >>= fun _ =>
  ((if (decide (x8 = (0 : Int))) = true then
  (m_levels_above r1 x_top) >>= fun (r54 : (List Int)) =>
  some (r54)
  else
  some (r1)) : Option ((List Int))) >>= fun (st52 : (List Int)) =>
  (m_turns_of st52) >>= fun (r58 : (List Int)) =>
  (m_traps_of_like_rounds r58 x8 (x_times - s48.1) (x_registers - x_top) ((s48.2.2.1 - (Z.imax ((s48.1 * x8) - x_top) (0 : Int))), (s48.2.2.2 - (Z.imax ((s48.1 * x8) - x_top) (0 : Int))))) >>= fun (r62 : Int) =>
  some ((s48.2.1 + r62)))
def sp_traps_in_rounds (K : PySem.W.Frag) : Sp := fun vs H Q _ => ∃ (O : Z.OL) (L : Z.DL) (x_trace : Str) (x_times : Int) (x_registers : Int) (x_top : Int), vs = [V.str x_trace, V.int x_times, V.int x_registers, V.int x_top] ∧ Z.St K (O) L H ∧ ∃ r : Int, m_traps_in_rounds x_trace x_times x_registers x_top = some r ∧ ∀ H', Z.St K (O) L H' → Q (V.int r) H'
def m__law_traps_b1 (x_room : Int) (x : Int) (s : Int × Int × Int) : Option (Z.Step (Int × Int × Int) Int) :=
  (if (decide (x_room < ((Z.imax s.2.2 x) - (Z.imin s.2.1 x)))) = true then
  some (Z.Step.go ((s.1 + (1 : Int)), x, x))
  else
  some (Z.Step.go (s.1, (Z.imin s.2.1 x), (Z.imax s.2.2 x))))
def m__law_traps (x_stages : List Int) (x_room : Int) : Option (Int) :=
  (atI x_stages (0 : Int)) >>= fun (x3 : Int) =>
  (atI x_stages (0 : Int)) >>= fun (x6 : Int) =>
  (Z.loopM (m__law_traps_b1 x_room) x_stages ((0 : Int), x3, x6)) >>= fun res10 =>
  Z.after res10 (fun (s14 : Int × Int × Int) =>
  some (s14.1))
def sp__law_traps (K : PySem.W.Frag) : Sp := fun vs H Q _ => ∃ (O : Z.OL) (L : Z.DL) (v_stages : V) (x_stages : List Int) (x_room : Int), vs = [v_stages, V.int x_room] ∧ Z.St K (O) L H ∧ Z.Its K L [v_stages] [(PyData.list (x_stages.map PyData.int))] ∧ ∃ r : Int, m__law_traps x_stages x_room = some r ∧ ∀ H', Z.St K (O) L H' → Q (V.int r) H'
def m_turning_moments_b1  (x : Int × Int) (s : Bool × Int × (List Int)) : Option (Z.Step (Bool × Int × (List Int)) (List Int)) :=
  (if (decide (x.2 = s.2.1)) = true then
  some (Z.Step.go (s.1, s.2.1, s.2.2))
  else
  ((if ((!s.2.2.isEmpty) && (decide ((V.bl s.1) = (V.bl (decide (s.2.1 < x.2)))))) = true then
  (Z.lastZ s.2.2) >>= fun (x12 : Int) =>
  some (s.2.2.dropLast)
  else
  some (s.2.2)) : Option ((List Int))) >>= fun (st10 : (List Int)) =>
  Z.chk (st10.length < sizeLine) >>= fun _ =>
  some (Z.Step.go ((decide (s.2.1 < x.2)), x.2, (st10 ++ [x.1]))))
def m_turning_moments (x_trace : Str) (x_registers : Int) (x_top : Int) : Option ((List Int)) :=
  (m_lazy_plan x_trace x_registers x_top) >>= fun (r2 : (List Int)) =>
  (Z.loopM (m_turning_moments_b1) (Z.enumZ r2) (false, (0 : Int), [])) >>= fun res7 =>
  Z.after res7 (fun (s15 : Bool × Int × (List Int)) =>
  some (s15.2.2))
def sp_turning_moments (K : PySem.W.Frag) : Sp := fun vs H Q _ => ∃ (O : Z.OL) (L : Z.DL) (x_trace : Str) (x_registers : Int) (x_top : Int), vs = [V.str x_trace, V.int x_registers, V.int x_top] ∧ Z.St K (O) L H ∧ ∃ r : (List Int), m_turning_moments x_trace x_registers x_top = some r ∧ ∀ p H', Z.St K ((p, .lst (r.map V.int)) :: O) L H' → Q (.ref p) H'
def m_check_moments_b1 (x_last : Int) (x : Int × Int) (s : Int) : Option (Z.Step Int Unit) :=
  (if (!((decide (s < x.2)) && (decide (x.2 ≤ x_last)))) = true then
  none
  else
  some (Z.Step.go (x.2)))
def m_check_moments (x_last : Int) (x_moments : List Int) : Option (Unit) :=
  (m_is_list_of_integers x_moments) >>= fun (r1 : Bool) =>
  (if (!r1) = true then
  none
  else
  (Z.loopM (m_check_moments_b1 x_last) (Z.enumZ x_moments) ((-(1 : Int)))) >>= fun res7 =>
  Z.after res7 (fun (s11 : Int) =>
  some (())))
def sp_check_moments (K : PySem.W.Frag) : Sp := fun vs H Q _ => ∃ (O : Z.OL) (L : Z.DL) (x_last : Int) (v_moments : V) (x_moments : List Int), vs = [V.int x_last, v_moments] ∧ Z.St K (O) L H ∧ Z.Its K L [v_moments] [(PyData.list (x_moments.map PyData.int))] ∧ ∃ r : Unit, m_check_moments x_last x_moments = some r ∧ ∀ H', Z.St K (O) L H' → Q V.non H'
def m_moved_by_c1 (r1 : (List Int)) (x : Int) (s : Unit) : Option (Option Int × Unit) :=
  (atI r1 x) >>= fun (x15 : Int) =>
  some (some x15, (()))
def m_moved_by_b2  (x : (Int × Int)) (s : Int × Int × Int × Bool) : Option (Z.Step (Int × Int × Int × Bool) Int) :=
  some (Z.Step.go ((s.1 + (if s.2.2.2 = true then (x.1 - s.2.2.1) else (s.2.1 - x.2))), x.1, x.2, (!s.2.2.2)))
def m_moved_by (x_trace : Str) (x_registers : Int) (x_top : Int) (x_moments : List Int) : Option (Int) :=
  (m_checked_depths x_trace) >>= fun (r1 : (List Int)) =>
  (m_check_machine x_registers x_top) >>= fun (r4 : Unit) =>
  Z.chk (x_trace.length ≤ sizeLine) >>= fun _ =>
  (m_check_moments ((x_trace.length : Nat) : Int) x_moments) >>= fun (r7 : Unit) =>
  Z.chk (x_moments.length < sizeLine) >>= fun _ =>
  Z.compM (m_moved_by_c1 r1) x_moments (()) >>= fun (r17 : List Int × Unit) =>
  (m_ends_at r17.1 x_registers x_top) >>= fun (r18 : (List (Int × Int))) =>
  (Z.loopM (m_moved_by_b2) r18 ((0 : Int), (0 : Int), (0 : Int), true)) >>= fun res24 =>
  Z.after res24 (fun (s33 : Int × Int × Int × Bool) =>
  some (s33.1))
def sp_moved_by (K : PySem.W.Frag) : Sp := fun vs H Q _ => ∃ (O : Z.OL) (L : Z.DL) (x_trace : Str) (x_registers : Int) (x_top : Int) (v_moments : V) (x_moments : List Int), vs = [V.str x_trace, V.int x_registers, V.int x_top, v_moments] ∧ Z.St K (O) L H ∧ Z.Its K L [v_moments] [(PyData.list (x_moments.map PyData.int))] ∧ ∃ r : Int, m_moved_by x_trace x_registers x_top x_moments = some r ∧ ∀ H', Z.St K (O) L H' → Q (V.int r) H'
def m_is_row (x_value : List Int) : Option (Bool) :=
  (m_check_row x_value) >>= fun (r1 : Unit) =>
  some (true)
def sp_is_row (K : PySem.W.Frag) : Sp := fun vs H Q _ => ∃ (O : Z.OL) (L : Z.DL) (v_value : V) (x_value : List Int), vs = [v_value] ∧ Z.St K (O) L H ∧ Z.Its K L [v_value] [(PyData.list (x_value.map PyData.int))] ∧ ∃ r : Bool, m_is_row x_value = some r ∧ ∀ H', Z.St K (O) L H' → Q (V.bl r) H'
end Zm
namespace Z
open PySem PySem.Spec PyProof.Rows L2
theorem flat_bls : ∀ l : List Bool, (l.map V.bl).all flatV = true
  | [] => rfl
  | b :: r => by rw [List.map_cons, List.all_cons, flat_bls r]; rfl
theorem eqV_bl (a b : Bool) : eqV (V.bl a) (V.bl b) = decide (a = b) := by cases a <;> cases b <;> rfl
theorem inV_bls (b : Bool) : ∀ l : List Bool, inV (V.bl b) (l.map V.bl) = l.any fun y => decide (y = b)
  | [] => rfl
  | a :: r => by
    have i := inV_bls b r
    unfold inV at i ⊢
    rw [List.map_cons, List.any_cons, List.any_cons, i, eqV_bl]
/-- the two of a list of two -/
def two {α : Type} : List α → Option (α × α)
  | [a, b] => some (a, b)
  | _ => none
theorem two_of {α : Type} {l : List α} {y : α × α} (h : two l = some y) : l = [y.1, y.2] := by
  match l, h with
  | [a, b], h => cases Option.some.inj h; rfl
  | [], h => cases h
  | [_], h => cases h
  | _ :: _ :: _ :: _, h => cases h
theorem St.two {K : PySem.W.Frag} {O : OL} {L : DL} {H : Hp} {α : Type} {f : α → PyData} {l : List α} {y : α × α} {xs : List V} (S : Z.St K O L H) (i : Its K L xs (l.map f)) (h : Z.two l = some y) :
    ∃ v w, xs = [v, w] ∧ xs.length = 2 ∧ Z.St K O (([v], [f y.1]) :: ([w], [f y.2]) :: L) H := by
  rw [two_of h] at i
  obtain ⟨v, vs, e1, S1⟩ := S.split i
  obtain ⟨w, ws, e2, S2⟩ := S1.split (.mem (.tail _ (.head _)))
  have e3 : ws = [] := by
    have := S2.lenOf (vs := ws) (ds := []) (.mem (.tail _ (.head _)))
    exact List.length_eq_zero_iff.mp this
  subst e3 e2 e1
  refine ⟨v, w, rfl, rfl, S2.tell fun e he => ?_⟩
  rcases List.mem_cons.mp he with z | he
  · subst z; exact .mem (.tail _ (.tail _ (.head _)))
  · rcases List.mem_cons.mp he with z | he
    · subst z; exact .mem (.head _)
    · exact .mem (.tail _ (.tail _ (.tail _ (.tail _ he))))
end Z
/-! A tuple of a text, and perhaps of a number; x in some texts. -/
namespace Z
open PySem PySem.Spec PyProof.Rows L2
def dR (r : Str × Option Int) : PyData := .tuple (.str r.1 :: r.2.toList.map .int)
def rlen (r : Str × Option Int) : Int := if r.2.isSome = true then 2 else 1
theorem rule_len (r : Str × Option Int) : (((V.str r.1 :: r.2.toList.map V.int : List V).length : Nat) : Int) = rlen r := by
  obtain ⟨a, b⟩ := r; cases b <;> rfl
theorem rule_one {r : Str × Option Int} {n : Int} (h : r.2 = some n) : atI (V.str r.1 :: r.2.toList.map V.int) (1 : Int) = some (V.int n) := by
  rw [h]; rfl
theorem rule_zero (r : Str × Option Int) : atI (V.str r.1 :: r.2.toList.map V.int) (0 : Int) = some (V.str r.1) := by
  obtain ⟨a, b⟩ := r; cases b <;> rfl
theorem St.rule {K : PySem.W.Frag} {O : OL} {L : DL} {H : Hp} {v : V} {r : Str × Option Int} (S : Z.St K O L H) (i : Its K L [v] [dR r]) :
    ∃ a, v = V.ref a ∧ SqT K H a (V.str r.1 :: r.2.toList.map V.int) := by
  obtain ⟨a, xs, e, q, l, S1⟩ := S.tseq i
  obtain ⟨u, us, e2, S2⟩ := S1.split (.mem (.head _))
  obtain rfl := S2.isStr (.mem (.head _))
  obtain rfl := S2.areInts (ns := r.2.toList) (.mem (.tail _ (.head _)))
  subst e2
  exact ⟨a, e, q⟩
theorem owns2 {i : Nat} {x : Int} {v a b : V} (hx : [(0 : Int), 1][i]? = some x) (hv : [a, b][i]? = some v) : (x = 0 ∧ v = a) ∨ (x = 1 ∧ v = b) := by
  match i, hx, hv with
  | 0, hx, hv => exact .inl ⟨(Option.some.inj hx).symm, (Option.some.inj hv).symm⟩
  | 1, hx, hv => exact .inr ⟨(Option.some.inj hx).symm, (Option.some.inj hv).symm⟩
  | _ + 2, hx, hv => simp at hx
theorem flat_strs : ∀ l : List Str, (l.map V.str).all flatV = true
  | [] => rfl
  | b :: r => by rw [List.map_cons, List.all_cons, flat_strs r]; rfl
theorem eqV_str (a b : Str) : eqV (V.str a) (V.str b) = decide (a = b) := by
  show (a == b) = _
  first | exact beq_eq_decide a b | rfl | simp
theorem inV_strs (b : Str) : ∀ l : List Str, inV (V.str b) (l.map V.str) = l.any fun y => decide (y = b)
  | [] => rfl
  | a :: r => by
    have i := inV_strs b r
    unfold inV at i ⊢
    rw [List.map_cons, List.any_cons, List.any_cons, i, eqV_str]
/-! a truth value or None -/
def vB : Option Bool → V
  | none => .non
  | some b => .bl b
def dB : Option Bool → PyData
  | none => .none
  | some b => .bool b
theorem Its.obool {K : PySem.W.Frag} {L : DL} (o : Option Bool) : Its K L [vB o] [dB o] := by
  cases o with
  | none => exact Its.non
  | some i => exact Its.bl i
theorem St.isOB {K : PySem.W.Frag} {O : OL} {L : DL} {H : Hp} {v : V} {j : Option Bool} (S : Z.St K O L H) (i : Its K L [v] [dB j]) : v = vB j := by
  cases j with
  | none => exact S.isNon i
  | some k => exact S.isBl i
theorem scal_io (i : Int) (o : Option Int) : scal (V.int i) (vO o) = true := by cases o <;> rfl
theorem scal_oi (i : Int) (o : Option Int) : scal (vO o) (V.int i) = true := by cases o <;> rfl
theorem scal_bo (i : Bool) (o : Option Bool) : scal (V.bl i) (vB o) = true := by cases o <;> rfl
theorem scal_ob (i : Bool) (o : Option Bool) : scal (vB o) (V.bl i) = true := by cases o <;> rfl
/-- behind a loop -/
theorem after_of {S R : Type} {s : S} {k : S → Option R} {r : R} (h : after (.go s) k = some r) : k s = some r := h
theorem afterS_of {S S' R : Type} {s : S} {k : S → Option (Step S' R)} {r : Step S' R} (h : afterS (.go s) k = some r) : k s = some r := h
end Z
namespace Zm
open PySem PySem.Spec PyProof.Rows L2 Z
def m_fits_room (x_room : Int) (x_value : (Str × Option Int)) : Option (Bool) :=
  (if ((!true) || ((!((decide ((1 : Int) ≤ (Z.rlen x_value))) && (decide ((Z.rlen x_value) ≤ (2 : Int))))) || (!true))) = true then
  some (false)
  else
  (if (decide ((Z.rlen x_value) = (1 : Int))) = true then
  some ((([(("lazy" : Str), ("halving" : Str)).1, (("lazy" : Str), ("halving" : Str)).2].any fun y => decide (y = x_value.1))))
  else
  (x_value.2) >>= fun (x22 : Int) =>
  (m_is_integer x22) >>= fun (r24 : Bool) =>
  (if (!r24) = true then
  some (false)
  else
  some ((((decide ((V.str x_value.1) = (V.str ("keep" : Str)))) && ((decide ((0 : Int) ≤ x22)) && (decide (x22 ≤ x_room)))) || ((decide ((V.str x_value.1) = (V.str ("lot" : Str)))) && ((decide ((1 : Int) ≤ x22)) && (decide (x22 ≤ (x_room + (1 : Int)))))))))))
def sp_fits_room (K : PySem.W.Frag) : Sp := fun vs H Q _ => ∃ (O : Z.OL) (L : Z.DL) (x_room : Int) (v_value : V) (x_value : (Str × Option Int)), vs = [V.int x_room, v_value] ∧ Z.St K (O) L H ∧ Z.Its K L [v_value] [(Z.dR x_value)] ∧ ∃ r : Bool, m_fits_room x_room x_value = some r ∧ ∀ H', Z.St K (O) L H' → Q (V.bl r) H'
def m_check_rule (x_room : Int) (x_rule : (Str × Option Int)) : Option (Unit) :=
  (m_fits_room x_room x_rule) >>= fun (r3 : Bool) =>
  (if (!r3) = true then
  none
  else
  some (()))
def sp_check_rule (K : PySem.W.Frag) : Sp := fun vs H Q _ => ∃ (O : Z.OL) (L : Z.DL) (x_room : Int) (v_rule : V) (x_rule : (Str × Option Int)), vs = [V.int x_room, v_rule] ∧ Z.St K (O) L H ∧ Z.Its K L [v_rule] [(Z.dR x_rule)] ∧ ∃ r : Unit, m_check_rule x_room x_rule = some r ∧ ∀ H', Z.St K (O) L H' → Q V.non H'
def m_block_behind (x_block : (Int × Int)) (x_room : Int) (x_level : Int) : Option ((Int × Int)) :=
  (if (decide (x_block.2 < x_level)) = true then
  ((if (decide ((x_level - x_block.1) ≤ x_room)) = true then
  some ((x_block.1, x_level))
  else
  some ((x_level, x_level))) : Option ((Int × Int))) >>= fun (st7 : (Int × Int)) =>
  some (st7)
  else
  (if (decide (x_level < x_block.1)) = true then
  ((if (decide ((x_block.2 - x_level) ≤ x_room)) = true then
  some ((x_level, x_block.2))
  else
  some ((x_level, x_level))) : Option ((Int × Int))) >>= fun (st12 : (Int × Int)) =>
  some (st12)
  else
  some (x_block)))
def sp_block_behind (K : PySem.W.Frag) : Sp := fun vs H Q _ => ∃ (O : Z.OL) (L : Z.DL) (v_block : V) (x_block : (Int × Int)) (x_room : Int) (x_level : Int), vs = [v_block, V.int x_room, V.int x_level] ∧ Z.St K (O) L H ∧ Z.Its K L [v_block] [(PyData.tuple [(PyData.int x_block.1), (PyData.int x_block.2)])] ∧ ∃ r : (Int × Int), m_block_behind x_block x_room x_level = some r ∧ ∀ v H', Z.St K (O) (([v], [(PyData.tuple [(PyData.int r.1), (PyData.int r.2)])]) :: L) H' → Q v H'
def m_number_behind (x_rule : (Str × Option Int)) (x_room : Int) (x_number : Int) (x_level : Int) (x_block : (Int × Int)) : Option (Int) :=
  (if ((decide ((if (decide (x_room < x_level)) = true then (x_level - x_room) else (0 : Int)) ≤ x_number)) && (decide (x_number ≤ x_level))) = true then
  some (x_number)
  else
  (if (decide ((V.str x_rule.1) = (V.str ("lazy" : Str)))) = true then
  some ((if (decide (x_number < (if (decide (x_room < x_level)) = true then (x_level - x_room) else (0 : Int)))) = true then (if (decide (x_room < x_level)) = true then (x_level - x_room) else (0 : Int)) else x_level))
  else
  (if (decide ((V.str x_rule.1) = (V.str ("keep" : Str)))) = true then
  (x_rule.2) >>= fun (x7 : Int) =>
  some ((Z.imax (x_level - x7) (0 : Int)))
  else
  (if (decide ((V.str x_rule.1) = (V.str ("lot" : Str)))) = true then
  ((if (decide (x_number < (if (decide (x_room < x_level)) = true then (x_level - x_room) else (0 : Int)))) = true then
  (x_rule.2) >>= fun (x13 : Int) =>
  some ((x_number + x13))
  else
  (x_rule.2) >>= fun (x17 : Int) =>
  some ((Z.imax (x_number - x17) (0 : Int)))) : Option (Int)) >>= fun (st9 : Int) =>
  some (st9)
  else
  some ((((Z.imax (x_block.2 - x_room) (0 : Int)) + x_block.1) / (2 : Int)))))))
def sp_number_behind (K : PySem.W.Frag) : Sp := fun vs H Q _ => ∃ (O : Z.OL) (L : Z.DL) (v_rule : V) (x_rule : (Str × Option Int)) (x_room : Int) (x_number : Int) (x_level : Int) (v_block : V) (x_block : (Int × Int)), vs = [v_rule, V.int x_room, V.int x_number, V.int x_level, v_block] ∧ Z.St K (O) L H ∧ Z.Its K L [v_rule] [(Z.dR x_rule)] ∧ Z.Its K L [v_block] [(PyData.tuple [(PyData.int x_block.1), (PyData.int x_block.2)])] ∧ ∃ r : Int, m_number_behind x_rule x_room x_number x_level x_block = some r ∧ ∀ H', Z.St K (O) L H' → Q (V.int r) H'
def m_plan_of_rule_b1 (x_registers : Int) (x_top : Int) (x_rule : (Str × Option Int)) (x : Int) (s : Int × (Int × Int) × (List Int)) : Option (Z.Step (Int × (Int × Int) × (List Int)) (List Int)) :=
  (m_block_behind s.2.1 (x_registers - x_top) x) >>= fun (r20 : (Int × Int)) =>
  (m_number_behind x_rule (x_registers - x_top) s.1 x r20) >>= fun (r23 : Int) =>
  Z.chk (s.2.2.length < sizeLine) >>= fun _ =>
  some (Z.Step.go (r23, r20, (s.2.2 ++ [r23])))
def m_plan_of_rule (x_trace : Str) (x_registers : Int) (x_top : Int) (x_rule : (Str × Option Int)) : Option ((List Int)) :=
  (m_checked_depths x_trace) >>= fun (r3 : (List Int)) =>
  (m_check_machine x_registers x_top) >>= fun (r6 : Unit) =>
  (m_check_rule (x_registers - x_top) x_rule) >>= fun (r8 : Unit) =>
  (m_levels_above r3 x_top) >>= fun (r12 : (List Int)) =>
  (Z.loopM (m_plan_of_rule_b1 x_registers x_top x_rule) r12 ((0 : Int), ((0 : Int), (0 : Int)), [])) >>= fun res17 =>
  Z.after res17 (fun (s26 : Int × (Int × Int) × (List Int)) =>
  some (s26.2.2))
def sp_plan_of_rule (K : PySem.W.Frag) : Sp := fun vs H Q _ => ∃ (O : Z.OL) (L : Z.DL) (x_trace : Str) (x_registers : Int) (x_top : Int) (v_rule : V) (x_rule : (Str × Option Int)), vs = [V.str x_trace, V.int x_registers, V.int x_top, v_rule] ∧ Z.St K (O) L H ∧ Z.Its K L [v_rule] [(Z.dR x_rule)] ∧ ∃ r : (List Int), m_plan_of_rule x_trace x_registers x_top x_rule = some r ∧ ∀ p H', Z.St K ((p, .lst (r.map V.int)) :: O) L H' → Q (.ref p) H'
def m__law_ruled_b1 (x_stages : List Int) (x_room : Int) (x_deal : (Str × Option Int)) (x : Int) (s : Int × (List Int)) : Option (Z.Step (Int × (List Int)) (List Int)) :=
  (atI x_stages x) >>= fun (x18 : Int) =>
  (atI s.2 (-(1 : Int))) >>= fun (x20 : Int) =>
  (Z.chk (0 < (Z.cutL x_stages (some s.1) (some (x + (1 : Int)))).length) >>= fun _ =>
  Z.chk (0 < (Z.cutL x_stages (some s.1) (some (x + (1 : Int)))).length) >>= fun _ =>
  (if (decide (x_room < ((Z.lmax (Z.cutL x_stages (some s.1) (some (x + (1 : Int))))) - (Z.lmin (Z.cutL x_stages (some s.1) (some (x + (1 : Int)))))))) = true then
  some (x, [x18])
  else
  some (s.1, (Z.cutL x_stages (some s.1) (some (x + (1 : Int)))))) : Option (Int × (List Int))) >>= fun (st24 : Int × (List Int)) =>
  ((if ((decide (x20 < (Z.imax (0 : Int) (x18 - x_room)))) || (decide (x18 < x20))) = true then
  ((if (decide ((V.str x_deal.1) = (V.str ("lazy" : Str)))) = true then
  some ((if (decide (x20 < (Z.imax (0 : Int) (x18 - x_room)))) = true then (Z.imax (0 : Int) (x18 - x_room)) else x18), st24.2)
  else
  ((if (decide ((V.str x_deal.1) = (V.str ("keep" : Str)))) = true then
  (x_deal.2) >>= fun (x44 : Int) =>
  some ((Z.imax (0 : Int) (x18 - x44)), st24.2)
  else
  ((if (decide ((V.str x_deal.1) = (V.str ("lot" : Str)))) = true then
  ((if (decide (x20 < (Z.imax (0 : Int) (x18 - x_room)))) = true then
  (x_deal.2) >>= fun (x54 : Int) =>
  some ((x20 + x54))
  else
  (x_deal.2) >>= fun (x58 : Int) =>
  some ((Z.imax (0 : Int) (x20 - x58)))) : Option (Int)) >>= fun (st50 : Int) =>
  some (st50, st24.2)
  else
  Z.chk (0 < st24.2.length) >>= fun _ =>
  Z.chk (0 < st24.2.length) >>= fun _ =>
  some ((((Z.imax (0 : Int) ((Z.lmax st24.2) - x_room)) + (Z.lmin st24.2)) / (2 : Int)), st24.2)) : Option (Int × (List Int))) >>= fun (st46 : Int × (List Int)) =>
  some (st46.1, st46.2)) : Option (Int × (List Int))) >>= fun (st38 : Int × (List Int)) =>
  some (st38.1, st38.2)) : Option (Int × (List Int))) >>= fun (st34 : Int × (List Int)) =>
  some (st34.1, st34.2)
  else
  some (x20, st24.2)) : Option (Int × (List Int))) >>= fun (st32 : Int × (List Int)) =>
  Z.chk (s.2.length < sizeLine) >>= fun _ =>
  some (Z.Step.go (st24.1, (s.2 ++ [st32.1])))
def m__law_ruled (x_stages : List Int) (x_room : Int) (x_deal : (Str × Option Int)) : Option ((List Int)) :=
  Z.chk (Z.CRng (1 : Int)) >>= fun _ =>
  Z.chk (Z.CRng ((x_stages.length : Nat) : Int)) >>= fun _ =>
  (Z.loopM (m__law_ruled_b1 x_stages x_room x_deal) (Z.upto (1 : Int) ((x_stages.length : Nat) : Int)) ((0 : Int), [(0 : Int)])) >>= fun res14 =>
  Z.after res14 (fun (s71 : Int × (List Int)) =>
  some (s71.2))
def sp__law_ruled (K : PySem.W.Frag) : Sp := fun vs H Q _ => ∃ (O : Z.OL) (L : Z.DL) (v_stages : V) (x_stages : List Int) (x_room : Int) (v_deal : V) (x_deal : (Str × Option Int)), vs = [v_stages, V.int x_room, v_deal] ∧ Z.St K (O) L H ∧ Z.Its K L [v_stages] [(PyData.list (x_stages.map PyData.int))] ∧ Z.Its K L [v_deal] [(Z.dR x_deal)] ∧ ∃ r : (List Int), m__law_ruled x_stages x_room x_deal = some r ∧ ∀ p H', Z.St K ((p, .lst (r.map V.int)) :: O) L H' → Q (.ref p) H'
def m__law_rule (x_source : List Int) (x_room : Int) : Option ((Str × Option Int) × (List Int)) :=
  (m__law_draw x_source (x_room + (1 : Int))) >>= fun (r1 : Int × (List Int)) =>
  (m__law_draw r1.2 (x_room + (1 : Int))) >>= fun (r3 : Int × (List Int)) =>
  (m__law_draw r3.2 (6 : Int)) >>= fun (r12 : Int × (List Int)) =>
  (atI ([((("lazy" : Str)), (none : Option Int)), ((("halving" : Str)), (none : Option Int)), ((("keep" : Str), r1.1).1, some (("keep" : Str), r1.1).2), ((("lot" : Str), ((1 : Int) + r3.1)).1, some (("lot" : Str), ((1 : Int) + r3.1)).2), ((("keep" : Str), x_room).1, some (("keep" : Str), x_room).2), ((("lot" : Str), (x_room + (1 : Int))).1, some (("lot" : Str), (x_room + (1 : Int))).2)]) r12.1) >>= fun (x14 : (Str × Option Int)) =>
  some (x14, r12.2)
def sp__law_rule (K : PySem.W.Frag) : Sp := fun vs H Q _ => ∃ (O : Z.OL) (L : Z.DL) (p_source : Addr) (x_source : List Int) (x_room : Int), vs = [.ref p_source, V.int x_room] ∧ Z.St K ((p_source, .lst (x_source.map V.int)) :: O) L H ∧ ∃ r : (Str × Option Int) × (List Int), m__law_rule x_source x_room = some r ∧ ∀ v H', Z.St K ((p_source, .lst (r.2.map V.int)) :: O) (([v], [(Z.dR r.1)]) :: L) H' → Q v H'
def m__law_waves_b1 (x_room : Int) (x_many : Int) (s : Str × Int × (List Int)) : Option (Z.Step (Str × Int × (List Int)) (Str × (List Int))) :=
  Z.chk (s.1.length ≤ sizeLine) >>= fun _ =>
  (if (decide (((s.1.length : Nat) : Int) < x_many)) = true then
  (m__law_draw s.2.2 (3 : Int)) >>= fun (r10 : Int × (List Int)) =>
  (m__law_draw r10.2 (3 : Int)) >>= fun (r12 : Int × (List Int)) =>
  (m__law_draw r12.2 ((((s.2.1 + x_room) + r12.1) - (Z.imax (0 : Int) ((s.2.1 - x_room) - r10.1))) + (1 : Int))) >>= fun (r14 : Int × (List Int)) =>
  (m__law_draw r14.2 (5 : Int)) >>= fun (r17 : Int × (List Int)) =>
  (atI ([(Z.imax (0 : Int) ((s.2.1 - x_room) - r10.1)), ((s.2.1 + x_room) + r12.1), ((Z.imax (0 : Int) ((s.2.1 - x_room) - r10.1)) + r14.1), (Z.imax (0 : Int) (s.2.1 - (1 : Int))), (s.2.1 + (1 : Int))]) r17.1) >>= fun (x19 : Int) =>
  ((if (decide (x19 = s.2.1)) = true then
  some ((s.2.1 + (1 : Int)))
  else
  some (x19)) : Option (Int)) >>= fun (st21 : Int) =>
  Z.chk (s.1.length ≤ sizeLine) >>= fun _ =>
  Z.chk (Z.CRep ("+" : Str) ((Z.imin st21 ((s.2.1 + x_many) - ((s.1.length : Nat) : Int))) - s.2.1)) >>= fun _ =>
  Z.chk (s.1.length + (Txt.mul ("+" : Str) ((Z.imin st21 ((s.2.1 + x_many) - ((s.1.length : Nat) : Int))) - s.2.1)).length ≤ sizeLine) >>= fun _ =>
  Z.chk (Z.CRep ("-" : Str) (s.2.1 - (Z.imin st21 ((s.2.1 + x_many) - ((s.1.length : Nat) : Int))))) >>= fun _ =>
  Z.chk ((s.1 ++ (Txt.mul ("+" : Str) ((Z.imin st21 ((s.2.1 + x_many) - ((s.1.length : Nat) : Int))) - s.2.1))).length + (Txt.mul ("-" : Str) (s.2.1 - (Z.imin st21 ((s.2.1 + x_many) - ((s.1.length : Nat) : Int))))).length ≤ sizeLine) >>= fun _ =>
  some (Z.Step.go (((s.1 ++ (Txt.mul ("+" : Str) ((Z.imin st21 ((s.2.1 + x_many) - ((s.1.length : Nat) : Int))) - s.2.1))) ++ (Txt.mul ("-" : Str) (s.2.1 - (Z.imin st21 ((s.2.1 + x_many) - ((s.1.length : Nat) : Int)))))), (Z.imin st21 ((s.2.1 + x_many) - ((s.1.length : Nat) : Int))), r17.2))
  else
  some (Z.Step.out (s.1, s.2.1, s.2.2)))
def m__law_waves (x_source : List Int) (x_room : Int) (x_held : Int) (x_many : Int) : Option (Str × (List Int)) :=
  Z.chk (Z.CRep ("+" : Str) x_held) >>= fun _ =>
  (Z.whileM (m__law_waves_b1 x_room x_many) Z.FUEL ((Txt.mul ("+" : Str) x_held), (0 : Int), x_source)) >>= fun res6 =>
  Z.after res6 (fun (s28 : Str × Int × (List Int)) =>
  Z.chk (s28.1.length ≤ sizeLine) >>= fun _ =>
  some ((cutS s28.1 none (some x_many)), s28.2.2))
def sp__law_waves (K : PySem.W.Frag) : Sp := fun vs H Q _ => ∃ (O : Z.OL) (L : Z.DL) (p_source : Addr) (x_source : List Int) (x_room : Int) (x_held : Int) (x_many : Int), vs = [.ref p_source, V.int x_room, V.int x_held, V.int x_many] ∧ Z.St K ((p_source, .lst (x_source.map V.int)) :: O) L H ∧ ∃ r : Str × (List Int), m__law_waves x_source x_room x_held x_many = some r ∧ ∀ H', Z.St K ((p_source, .lst (r.2.map V.int)) :: O) L H' → Q (V.str r.1) H'
def m__law_farther_b1 (x_numbers : List Int) (x_lazy : List Int) (x : Int) (s : Int × Int) : Option (Z.Step (Int × Int) Bool) :=
  (atI x_numbers x) >>= fun (x11 : Int) =>
  (atI x_numbers (x - (1 : Int))) >>= fun (x14 : Int) =>
  (atI x_lazy x) >>= fun (x18 : Int) =>
  (atI x_lazy (x - (1 : Int))) >>= fun (x21 : Int) =>
  (atI x_lazy x) >>= fun (x24 : Int) =>
  (atI x_numbers x) >>= fun (x27 : Int) =>
  (if (decide ((s.1 + (Z.iabs (x11 - x14))) < ((s.2 + (Z.iabs (x18 - x21))) + (Z.iabs (x24 - x27))))) = true then
  some (Z.Step.ret (false))
  else
  some (Z.Step.go ((s.1 + (Z.iabs (x11 - x14))), (s.2 + (Z.iabs (x18 - x21))))))
def m__law_farther (x_numbers : List Int) (x_lazy : List Int) : Option (Bool) :=
  Z.chk (Z.CRng (1 : Int)) >>= fun _ =>
  Z.chk (Z.CRng ((x_numbers.length : Nat) : Int)) >>= fun _ =>
  (Z.loopM (m__law_farther_b1 x_numbers x_lazy) (Z.upto (1 : Int) ((x_numbers.length : Nat) : Int)) ((0 : Int), (0 : Int))) >>= fun res7 =>
  Z.after res7 (fun (s29 : Int × Int) =>
  some (true))
def sp__law_farther (K : PySem.W.Frag) : Sp := fun vs H Q _ => ∃ (O : Z.OL) (L : Z.DL) (v_numbers : V) (x_numbers : List Int) (v_lazy : V) (x_lazy : List Int), vs = [v_numbers, v_lazy] ∧ Z.St K (O) L H ∧ Z.Its K L [v_numbers] [(PyData.list (x_numbers.map PyData.int))] ∧ Z.Its K L [v_lazy] [(PyData.list (x_lazy.map PyData.int))] ∧ ∃ r : Bool, m__law_farther x_numbers x_lazy = some r ∧ ∀ H', Z.St K (O) L H' → Q (V.bl r) H'
def m_most_in_block (x_registers : Int) (x_top : Int) (x_rule : (Str × Option Int)) : Option ((Option Int)) :=
  (m_check_machine x_registers x_top) >>= fun (r3 : Unit) =>
  (m_check_rule (x_registers - x_top) x_rule) >>= fun (r5 : Unit) =>
  (if (decide ((V.str x_rule.1) = (V.str ("halving" : Str)))) = true then
  some ((some ((Builtin.Int.intBits ((x_registers - x_top) + (1 : Int)) : Nat) : Int)))
  else
  ((if (decide ((V.str x_rule.1) = (V.str ("keep" : Str)))) = true then
  (x_rule.2) >>= fun (x13 : Int) =>
  Z.chk ((0 : Int) < (x13 + (1 : Int))) >>= fun _ =>
  some ((decide ((0 : Int) < (((x_registers - x_top) + (1 : Int)) % (x13 + (1 : Int))))))
  else
  some (false)) : Option (Bool)) >>= fun (st9 : Bool) =>
  (if st9 = true then
  some ((none : Option Int))
  else
  ((if (decide ((V.str x_rule.1) = (V.str ("lot" : Str)))) = true then
  (x_rule.2) >>= fun (x21 : Int) =>
  some ((decide ((1 : Int) < x21)))
  else
  some (false)) : Option (Bool)) >>= fun (st17 : Bool) =>
  (if st17 = true then
  some ((none : Option Int))
  else
  some ((some ((x_registers - x_top) + (1 : Int)))))))
def sp_most_in_block (K : PySem.W.Frag) : Sp := fun vs H Q _ => ∃ (O : Z.OL) (L : Z.DL) (x_registers : Int) (x_top : Int) (v_rule : V) (x_rule : (Str × Option Int)), vs = [V.int x_registers, V.int x_top, v_rule] ∧ Z.St K (O) L H ∧ Z.Its K L [v_rule] [(Z.dR x_rule)] ∧ ∃ r : (Option Int), m_most_in_block x_registers x_top x_rule = some r ∧ ∀ H', Z.St K (O) L H' → Q (Z.vO r) H'
def m__law_groups_b1 (x_room : Int) (x : Int × Int) (s : Int × Int × (List Int)) : Option (Z.Step (Int × Int × (List Int)) (List Int)) :=
  (if (decide (x_room < ((Z.imax s.2.1 x.2) - (Z.imin s.1 x.2)))) = true then
  Z.chk (s.2.2.length < sizeLine) >>= fun _ =>
  some (Z.Step.go (x.2, x.2, (s.2.2 ++ [x.1])))
  else
  some (Z.Step.go ((Z.imin s.1 x.2), (Z.imax s.2.1 x.2), s.2.2)))
def m__law_groups (x_stages : List Int) (x_room : Int) : Option ((List Int)) :=
  (Z.loopM (m__law_groups_b1 x_room) (Z.enumZ x_stages) ((0 : Int), (0 : Int), [(0 : Int)])) >>= fun res6 =>
  Z.after res6 (fun (s11 : Int × Int × (List Int)) =>
  Z.chk (s11.2.2.length + ([((x_stages.length : Nat) : Int)]).length ≤ sizeLine) >>= fun _ =>
  some ((s11.2.2 ++ [((x_stages.length : Nat) : Int)])))
def sp__law_groups (K : PySem.W.Frag) : Sp := fun vs H Q _ => ∃ (O : Z.OL) (L : Z.DL) (v_stages : V) (x_stages : List Int) (x_room : Int), vs = [v_stages, V.int x_room] ∧ Z.St K (O) L H ∧ Z.Its K L [v_stages] [(PyData.list (x_stages.map PyData.int))] ∧ ∃ r : (List Int), m__law_groups x_stages x_room = some r ∧ ∀ p H', Z.St K ((p, .lst (r.map V.int)) :: O) L H' → Q (.ref p) H'
end Zm
/-! Dicts that are walked (and locked meanwhile). -/
namespace Z
open PySem PySem.Spec PyProof.Rows L2
section
variable {α β : Type} {K : PySem.W.Frag} {L : DL} {O : OL} {H : Hp} {p : Addr} {k : Nat} {kf : α → Key} {f : β → V} {m : List (α × β)} {c : α} {x : β} {od : Obj}
theorem St.dgoF [DecidableEq α] (S : Z.St K O L H) (hk : ∀ a b, kf a = kf b → a = b) (h : O[k]? = some (p, .frz od (.dK (kvs kf f m)))) : DGet H p (kV (kf c)) ((dget m c).map f) := by
  rw [← valV_kvs hk]
  exact .inl ⟨_, _, .inr ⟨od, S.at h⟩, rfl, rfl⟩
theorem St.dgsF [DecidableEq α] (S : Z.St K O L H) (hk : ∀ a b, kf a = kf b → a = b) (h : O[k]? = some (p, .frz od (.dK (kvs kf f m)))) (e : dget m c = some x) : DGet H p (kV (kf c)) (some (f x)) := by
  have := S.dgoF hk h (c := c)
  rw [e] at this; exact this
end
theorem key_at {β : Type} {f : β → V} {m : List (Int × β)} {i : Nat} {x : Int} {k : Key} {w v : V} (hx : (m.map Prod.fst)[i]? = some x) (hk : (kvs Sum.inl f m)[i]? = some (k, w)) (e : v = kV k) : v = V.int x := by
  unfold kvs at hk
  rw [List.getElem?_map] at hx hk
  cases q : m[i]? with
  | none => rw [q] at hx; cases hx
  | some z =>
    rw [q] at hx hk
    have h1 := Option.some.inj hx
    have h2 := Option.some.inj hk
    have h3 : Sum.inl z.1 = k := congrArg Prod.fst h2
    rw [e, ← h1, ← h3]
    rfl
end Z
/-! comb, out of math; x *= e. -/
namespace Z
open PySem PySem.Spec PyProof.Rows L2
/-- f(e, ..), f a name of the module that stands for a built-in function -/
theorem pe_callM {X : Cx} {id : String} {x : Str} {r : List V → Hp → VK → Prop} {e : Expr} {es : List Expr} {t : TA} {p pos : Pos} (hc : CallR X (.builtin id) r) (hg : Gl X x) (hm : X.mg x = some (.builtin id)) (ha : PA X (e :: es) t) (hdb : (x == ("__debug__" : Str)) = false := by decide)
    (he : starEach (e :: es) X.env = (false, eval e X.env) :: starEach es X.env := by rfl) (hpl : (backTo pos (starEach es X.env)).any (·.1) = false := by rfl) : PE X (.Call (.Name x p) (e :: es) [] pos) (tCB r t) := by
  refine ⟨fun pins s σ H Q I h => ?_⟩
  refine wpAny_Call_Name_kw (ld_glob I hg hm ?_ hdb)
  exact PyProof.Rows.callWith_builtin1 (thn (ha.run pos pins s σ H _ I h) fun us s1 ⟨vs, H1, I1, r1, q1⟩ => hc pins s1 σ H1 vs us Q I1 r1 q1) he hpl
def CComb (a b : Int) : Prop := 0 ≤ a ∧ 0 ≤ b ∧ a ≤ 18000
instance (a b : Int) : Decidable (CComb a b) := by unfold CComb; infer_instance
theorem call_comb {X : Cx} : CallR X (.builtin "math.comb") (fun xs H Q => ∃ i j, xs = [.int i, .int j] ∧ CComb i j ∧ Q (.int (PySem.W.mcComb i j)) H) := by
  intro pins s σ H xs us Q I r h
  obtain ⟨i, j, rfl, ⟨c1, c2, c3⟩, q⟩ := h
  obtain ⟨u, w', rfl, ⟨t, rfl⟩, ⟨t', rfl⟩⟩ := vals2 r
  exact PySem.W.mc_comb c1 c2 (by omega) (.inr c3) fun _ => ⟨.int _, H, I.tok _, ⟨_, rfl⟩, q⟩
def ipMul : TIp := fun x y H Q => ∃ i j, x = .int i ∧ y = .int j ∧ CMulW i j ∧ Q (.int (i * j)) H
theorem ip_mulW {X : Cx} : PIp X .Mult ipMul := by
  intro pins s σ H x y v u Q I r1 r2 h
  obtain ⟨i, j, e1, e2, hc, q⟩ := h
  subst e1; subst e2
  obtain ⟨t, rfl⟩ := r1
  obtain ⟨t', rfl⟩ := r2
  exact imul_int ⟨.int _, H, I.tok _, ⟨_, rfl⟩, q⟩ hc.ok
end Z
namespace Z18
open PySem PySem.Spec PyProof.Rows L2 Z Zm
def m__law_short_b1 (x_most : Int) (x : Int) (s : (List Int)) : Option (Z.Step (List Int) (List Int)) :=
  (if (decide ((s.sum + x) ≤ x_most)) = true then
  Z.chk (s.length < sizeLine) >>= fun _ =>
  some (Z.Step.go ((s ++ [x])))
  else
  some (Z.Step.go (s)))
def m__law_short (x_items : List Int) (x_most : Int) : Option ((List Int)) :=
  (Z.loopM (m__law_short_b1 x_most) x_items (([] : List Int))) >>= fun res5 =>
  Z.after res5 (fun (s10 : (List Int)) =>
  some (s10))
def sp__law_short (K : PySem.W.Frag) : Sp := fun vs H Q _ => ∃ (O : Z.OL) (L : Z.DL) (v_items : V) (x_items : List Int) (x_most : Int), vs = [v_items, V.int x_most] ∧ Z.St K (O) L H ∧ Z.Its K L [v_items] [(PyData.list (x_items.map PyData.int))] ∧ ∃ r : (List Int), m__law_short x_items x_most = some r ∧ ∀ p H', Z.St K ((p, .lst (r.map V.int)) :: O) L H' → Q (.ref p) H'
def m_count_traces_b1  (x : Int × Int) (s : Int × Int) : Option (Z.Step (Int × Int) Int) :=
  Z.chk (Z.CComb ((x.1 + ((((2 : Int) * (s.2 - x.1)) - x.2) + (1 : Int))) - (1 : Int)) ((x.2 + ((((2 : Int) * (s.2 - x.1)) - x.2) + (1 : Int))) - (1 : Int))) >>= fun _ =>
  Z.chk (CMulW s.1 (PySem.W.mcComb ((x.1 + ((((2 : Int) * (s.2 - x.1)) - x.2) + (1 : Int))) - (1 : Int)) ((x.2 + ((((2 : Int) * (s.2 - x.1)) - x.2) + (1 : Int))) - (1 : Int)))) >>= fun _ =>
  some (Z.Step.go ((s.1 * (PySem.W.mcComb ((x.1 + ((((2 : Int) * (s.2 - x.1)) - x.2) + (1 : Int))) - (1 : Int)) ((x.2 + ((((2 : Int) * (s.2 - x.1)) - x.2) + (1 : Int))) - (1 : Int)))), (s.2 - x.1)))
def m_count_traces (x_row : List Int) : Option (Int) :=
  (m_check_row x_row) >>= fun (r1 : Unit) =>
  Z.chk ((Z.cutL x_row (some (1 : Int)) none).length + ([(0 : Int)]).length ≤ sizeLine) >>= fun _ =>
  (Z.loopM (m_count_traces_b1) (List.zip x_row ((Z.cutL x_row (some (1 : Int)) none) ++ [(0 : Int)])) ((1 : Int), x_row.sum)) >>= fun res14 =>
  Z.after res14 (fun (s20 : Int × Int) =>
  some (s20.1))
def sp_count_traces (K : PySem.W.Frag) : Sp := fun vs H Q _ => ∃ (O : Z.OL) (L : Z.DL) (v_row : V) (x_row : List Int), vs = [v_row] ∧ Z.St K (O) L H ∧ Z.Its K L [v_row] [(PyData.list (x_row.map PyData.int))] ∧ ∃ r : Int, m_count_traces x_row = some r ∧ ∀ H', Z.St K (O) L H' → Q (V.int r) H'
def m__law_items_b1  (x : Int) (s : Int × (List Int) × (List Int)) : Option (Z.Step (Int × (List Int) × (List Int)) ((List Int) × (List Int))) :=
  (m__law_draw s.2.2 s.1) >>= fun (r7 : Int × (List Int)) =>
  Z.chk (s.2.1.length < sizeLine) >>= fun _ =>
  some (Z.Step.go (((1 : Int) + r7.1), (s.2.1 ++ [((1 : Int) + r7.1)]), r7.2))
def m__law_items (x_source : List Int) (x_many : Int) (x_most : Int) : Option ((List Int) × (List Int)) :=
  Z.chk (Z.CRng x_many) >>= fun _ =>
  (Z.loopM (m__law_items_b1) (Z.upto (0 : Int) x_many) (x_most, ([] : List Int), x_source)) >>= fun res4 =>
  Z.after res4 (fun (s10 : Int × (List Int) × (List Int)) =>
  some (s10.2.1, s10.2.2))
def sp__law_items (K : PySem.W.Frag) : Sp := fun vs H Q _ => ∃ (O : Z.OL) (L : Z.DL) (p_source : Addr) (x_source : List Int) (x_many : Int) (x_most : Int), vs = [.ref p_source, V.int x_many, V.int x_most] ∧ Z.St K ((p_source, .lst (x_source.map V.int)) :: O) L H ∧ ∃ r : (List Int) × (List Int), m__law_items x_source x_many x_most = some r ∧ ∀ p H', Z.St K ((p, .lst (r.1.map V.int)) :: (p_source, .lst (r.2.map V.int)) :: O) L H' → Q (.ref p) H'
def m__law_spread_b1  (xz : Int) (sz : (List Int)) : Option (Z.Step (List Int) Int) :=
  (atI sz xz) >>= fun (x19 : Int) =>
  (atI sz (xz - (1 : Int))) >>= fun (x21 : Int) =>
  (Z.setI sz xz (x19 + x21)) >>= fun (y23 : List Int) =>
  some (Z.Step.go (y23))
def m__law_spread_b2 (x_things : Int) (x : Int) (s : (List Int)) : Option (Z.Step (List Int) Int) :=
  Z.chk (Z.CRng (1 : Int)) >>= fun _ =>
  Z.chk (Z.CRng (x_things + (1 : Int))) >>= fun _ =>
  (Z.loopM (m__law_spread_b1) (Z.upto (1 : Int) (x_things + (1 : Int))) (s)) >>= fun res16 =>
  Z.afterS res16 (fun (s26 : (List Int)) =>
  some (Z.Step.go (s26)))
def m__law_spread (x_things : Int) (x_needy : Int) (x_free : Int) : Option (Int) :=
  Z.chk (Z.CRepL ([(0 : Int)]).length x_things) >>= fun _ =>
  Z.chk (([(1 : Int)]).length + (Z.repL ([(0 : Int)]) x_things).length ≤ sizeLine) >>= fun _ =>
  Z.chk (Z.CRng (x_needy + x_free)) >>= fun _ =>
  (Z.loopM (m__law_spread_b2 x_things) (Z.upto (0 : Int) (x_needy + x_free)) (([(1 : Int)] ++ (Z.repL ([(0 : Int)]) x_things)))) >>= fun res10 =>
  Z.after res10 (fun (s28 : (List Int)) =>
  (atI s28 (x_things - x_needy)) >>= fun (x31 : Int) =>
  some (x31))
def sp__law_spread (K : PySem.W.Frag) : Sp := fun vs H Q _ => ∃ (O : Z.OL) (L : Z.DL) (x_things : Int) (x_needy : Int) (x_free : Int), vs = [V.int x_things, V.int x_needy, V.int x_free] ∧ Z.St K (O) L H ∧ ∃ r : Int, m__law_spread x_things x_needy x_free = some r ∧ ∀ H', Z.St K (O) L H' → Q (V.int r) H'
def m__law_built_b1  (x : Int) (s : Int × Int × Int) : Option (Z.Step (Int × Int × Int) Int) :=
  (m__law_spread x s.2.2 ((s.2.1 + (s.2.1 - s.2.2)) + (1 : Int))) >>= fun (r9 : Int) =>
  Z.chk (CMulW s.1 r9) >>= fun _ =>
  some (Z.Step.go ((s.1 * r9), (s.2.1 + x), x))
def m__law_built (x_items : List Int) : Option (Int) :=
  (Z.loopM (m__law_built_b1) x_items.reverse ((1 : Int), (0 : Int), (0 : Int))) >>= fun res6 =>
  Z.after res6 (fun (s12 : Int × Int × Int) =>
  some (s12.1))
def sp__law_built (K : PySem.W.Frag) : Sp := fun vs H Q _ => ∃ (O : Z.OL) (L : Z.DL) (v_items : V) (x_items : List Int), vs = [v_items] ∧ Z.St K (O) L H ∧ Z.Its K L [v_items] [(PyData.list (x_items.map PyData.int))] ∧ ∃ r : Int, m__law_built x_items = some r ∧ ∀ H', Z.St K (O) L H' → Q (V.int r) H'
def m_law_b1 (x_script : List Int) (x : Int × Int) (xz : Int) (sz : (List Int)) : Option (Z.Step (List Int) Bool) :=
  Z.chk (Z.CEq (PyData.list (x_script.map PyData.int)) (PyData.list (([] : List Int).map PyData.int))) >>= fun _ =>
  (atI ([(5 : Int), (13 : Int)]) (if (!PyData.eqv (PyData.list (x_script.map PyData.int)) (PyData.list (([] : List Int).map PyData.int))) = true then (1 : Int) else 0)) >>= fun (x30 : Int) =>
  (m__law_draw sz x30) >>= fun (r32 : Int × (List Int)) =>
  (m__law_draw r32.2 (3 : Int)) >>= fun (r35 : Int × (List Int)) =>
  (atI ([(3 : Int), (9 : Int), (30 : Int)]) r35.1) >>= fun (x37 : Int) =>
  (m__law_items r35.2 r32.1 x37) >>= fun (r39 : (List Int) × (List Int)) =>
  (m__law_short r39.1 (60 : Int)) >>= fun (r42 : (List Int)) =>
  (((if (decide ((x.1 + xz) = (0 : Int))) = true then
  Z.chk (Z.CEq (PyData.list (x_script.map PyData.int)) (PyData.list (([] : List Int).map PyData.int))) >>= fun _ =>
  some ((!PyData.eqv (PyData.list (x_script.map PyData.int)) (PyData.list (([] : List Int).map PyData.int))))
  else
  some (false)) : Option (Bool)) >>= fun (st47 : Bool) =>
  (if st47 = true then
  (m__law_items r39.2 (40 : Int) (20 : Int)) >>= fun (r52 : (List Int) × (List Int)) =>
  (m__law_short r52.1 (300 : Int)) >>= fun (r55 : (List Int)) =>
  some (r55, r52.2)
  else
  some (r42, r39.2)) : Option ((List Int) × (List Int))) >>= fun (st45 : (List Int) × (List Int)) =>
  (m_count_traces st45.1) >>= fun (r59 : Int) =>
  Z.chk (r59.natAbs.log2 < 1920) >>= fun _ =>
  (m__law_built st45.1) >>= fun (r62 : Int) =>
  Z.chk (r62.natAbs.log2 < 1920) >>= fun _ =>
  (if (!decide ((V.str (PyData.shown (PyData.int r59))) = (V.str (PyData.shown (PyData.int r62))))) = true then
  some (Z.Step.ret (false))
  else
  some (Z.Step.go (st45.2)))
def m_law_b2 (x_script : List Int) (x : Int × Int) (s : Unit) : Option (Z.Step Unit Bool) :=
  (m__law_source x.2 x.1) >>= fun (r17 : (List Int)) =>
  Z.chk (Z.CRng (2 : Int)) >>= fun _ =>
  (Z.loopM (m_law_b1 x_script x) (Z.upto (0 : Int) (2 : Int)) (r17)) >>= fun res24 =>
  Z.afterS res24 (fun (s65 : (List Int)) =>
  some (Z.Step.go (())))
def m_law (x_script : List Int) : Option (Bool) :=
  Z.chk (x_script.length + ([(0 : Int)]).length ≤ sizeLine) >>= fun _ =>
  (Z.loopM (m_law_b2 x_script) (Z.enumZ (Z.cutL (x_script ++ [(0 : Int)]) none (some (Z.imax (1 : Int) (Z.imin ((x_script.length : Nat) : Int) (6 : Int)))))) (())) >>= fun res14 =>
  Z.after res14 (fun (s69 : Unit) =>
  ((m_count_traces ([(300 : Int)])) >>= fun (r79 : Int) =>
  (if (decide (r79 = (1 : Int))) = true then
  (Z.chk (Z.CRepL ([(1 : Int)]).length (300 : Int)) >>= fun _ =>
  (m_count_traces (Z.repL ([(1 : Int)]) (300 : Int))) >>= fun (r86 : Int) =>
  (if (decide (r86 = (1 : Int))) = true then
  (m_count_traces ([(2 : Int), (1 : Int)])) >>= fun (r89 : Int) =>
  some ((decide (r89 = (3 : Int))))
  else
  some (false)) : Option (Bool)) >>= fun (st81 : Bool) =>
  some (st81)
  else
  some (false)) : Option (Bool)) >>= fun (st76 : Bool) =>
  some (st76))
def sp_law (K : PySem.W.Frag) : Sp := fun vs H Q _ => ∃ (O : Z.OL) (L : Z.DL) (v_script : V) (x_script : List Int), vs = [v_script] ∧ Z.St K (O) L H ∧ Z.Its K L [v_script] [(PyData.list (x_script.map PyData.int))] ∧ ∃ r : Bool, m_law x_script = some r ∧ ∀ H', Z.St K (O) L H' → Q (V.bl r) H'
end Z18
namespace Z18
open PySem PySem.Spec PyProof.Rows L2 Z Zm
def topS (i : Nat) : Stmt := PySem.Challenge.pw_lazyspill_k18_great_rows_counted.main.body.getD i (.Pass ⟨0, 0, 0, 0⟩)
abbrev s__law_source : Stmt := topS 11
abbrev N__law_source : List Str := ["cell", "k", "great"]
theorem sc__law_source : FnScope N__law_source ["cell", "k"] (defScope s__law_source) := ⟨rfl, rfl, rfl, by decide +kernel, rfl, by decide +kernel, by decide +kernel⟩
abbrev s__law_draw : Stmt := topS 12
abbrev N__law_draw : List Str := ["source", "count", "digit", "mixed"]
theorem sc__law_draw : FnScope N__law_draw ["source", "count"] (defScope s__law_draw) := ⟨rfl, rfl, rfl, by decide +kernel, rfl, by decide +kernel, by decide +kernel⟩
abbrev s__law_short : Stmt := topS 16
abbrev N__law_short : List Str := ["items", "most", "found", "item"]
theorem sc__law_short : FnScope N__law_short ["items", "most"] (defScope s__law_short) := ⟨rfl, rfl, rfl, by decide +kernel, rfl, by decide +kernel, by decide +kernel⟩
abbrev s_is_integer : Stmt := topS 5
abbrev N_is_integer : List Str := ["value"]
theorem sc_is_integer : FnScope N_is_integer ["value"] (defScope s_is_integer) := ⟨rfl, rfl, rfl, by decide +kernel, rfl, by decide +kernel, by decide +kernel⟩
abbrev s_check_row : Stmt := topS 8
abbrev N_check_row : List Str := ["row", "index", "item"]
theorem sc_check_row : FnScope N_check_row ["row"] (defScope s_check_row) := ⟨rfl, rfl, rfl, by decide +kernel, rfl, by decide +kernel, by decide +kernel⟩
abbrev s_count_traces : Stmt := topS 9
abbrev N_count_traces : List Str := ["row", "ways", "later", "item", "behind", "between"]
theorem sc_count_traces : FnScope N_count_traces ["row"] (defScope s_count_traces) := ⟨rfl, rfl, rfl, by decide +kernel, rfl, by decide +kernel, by decide +kernel⟩
abbrev s__law_items : Stmt := topS 13
abbrev N__law_items : List Str := ["source", "many", "most", "found", "high", "turn"]
theorem sc__law_items : FnScope N__law_items ["source", "many", "most"] (defScope s__law_items) := ⟨rfl, rfl, rfl, by decide +kernel, rfl, by decide +kernel, by decide +kernel⟩
abbrev s__law_spread : Stmt := topS 14
abbrev N__law_spread : List Str := ["things", "needy", "free", "ways", "place", "many"]
theorem sc__law_spread : FnScope N__law_spread ["things", "needy", "free"] (defScope s__law_spread) := ⟨rfl, rfl, rfl, by decide +kernel, rfl, by decide +kernel, by decide +kernel⟩
abbrev s__law_built : Stmt := topS 15
abbrev N__law_built : List Str := ["items", "found", "calls", "last", "many"]
theorem sc__law_built : FnScope N__law_built ["items"] (defScope s__law_built) := ⟨rfl, rfl, rfl, by decide +kernel, rfl, by decide +kernel, by decide +kernel⟩
abbrev s_law : Stmt := topS 17
abbrev N_law : List Str := ["script", "k", "cell", "source", "turn", "many", "items"]
theorem sc_law : FnScope N_law ["script"] (defScope s_law) := ⟨rfl, rfl, rfl, by decide +kernel, rfl, by decide +kernel, by decide +kernel⟩
structure Tx (K : PySem.W.Frag) (mg : Str → Option Value) (a : Nat → Addr) (fd : Nat → FuncData) : Prop where
  F__law_source : Fun K "_law_source" "_law_source" s__law_source (a 0) (fd 0)
  g__law_source : mg "_law_source" = some (.ref (a 0))
  b__law_source : Binds K (fd 0) ["cell", "k"] []
  F__law_draw : Fun K "_law_draw" "_law_draw" s__law_draw (a 1) (fd 1)
  g__law_draw : mg "_law_draw" = some (.ref (a 1))
  b__law_draw : Binds K (fd 1) ["source", "count"] []
  F__law_short : Fun K "_law_short" "_law_short" s__law_short (a 2) (fd 2)
  g__law_short : mg "_law_short" = some (.ref (a 2))
  b__law_short : Binds K (fd 2) ["items", "most"] []
  F_is_integer : Fun K "is_integer" "is_integer" s_is_integer (a 3) (fd 3)
  g_is_integer : mg "is_integer" = some (.ref (a 3))
  b_is_integer : Binds K (fd 3) ["value"] []
  F_check_row : Fun K "check_row" "check_row" s_check_row (a 4) (fd 4)
  g_check_row : mg "check_row" = some (.ref (a 4))
  b_check_row : Binds K (fd 4) ["row"] []
  F_count_traces : Fun K "count_traces" "count_traces" s_count_traces (a 5) (fd 5)
  g_count_traces : mg "count_traces" = some (.ref (a 5))
  b_count_traces : Binds K (fd 5) ["row"] []
  F__law_items : Fun K "_law_items" "_law_items" s__law_items (a 6) (fd 6)
  g__law_items : mg "_law_items" = some (.ref (a 6))
  b__law_items : Binds K (fd 6) ["source", "many", "most"] []
  F__law_spread : Fun K "_law_spread" "_law_spread" s__law_spread (a 7) (fd 7)
  g__law_spread : mg "_law_spread" = some (.ref (a 7))
  b__law_spread : Binds K (fd 7) ["things", "needy", "free"] []
  F__law_built : Fun K "_law_built" "_law_built" s__law_built (a 8) (fd 8)
  g__law_built : mg "_law_built" = some (.ref (a 8))
  b__law_built : Binds K (fd 8) ["items"] []
  F_law : Fun K "law" "law" s_law (a 9) (fd 9)
  g_law : mg "law" = some (.ref (a 9))
  b_law : Binds K (fd 9) ["script"] []
  n_abs : mg "abs" = none
  n_bool : mg "bool" = none
  n_enumerate : mg "enumerate" = none
  n_int : mg "int" = none
  n_isinstance : mg "isinstance" = none
  n_len : mg "len" = none
  n_list : mg "list" = none
  n_max : mg "max" = none
  n_min : mg "min" = none
  n_range : mg "range" = none
  n_repr : mg "repr" = none
  n_sum : mg "sum" = none
  n_zip : mg "zip" = none
  m_comb : mg "comb" = some (.builtin "math.comb")
  c_MOST_ITEMS : ∃ t, mg "MOST_ITEMS" = some (.int 1000 t)
section
variable {P : Program} {w : World} {K : PySem.W.Frag} {mg : Str → Option Value} {base : Heap} {a : Nat → Addr} {fd : Nat → FuncData}
theorem ok__law_source (T : Tx K mg a fd) : FnOk P w K mg base CX0 1 (a 0) (fd 0) ["cell", "k"] (sp__law_source K) := by
  have nd := sc__law_source.nd
  refine T.F__law_source.ok sc__law_source (fun vs H Q E h => ?_) (fun cdv A outer s H vs Q E hr hsp => ?_)
  · obtain ⟨_, _, _, _, rfl, _⟩ := h
    rfl
  · obtain ⟨O, L, x_cell, x_k, rfl, hS, r, h, q⟩ := hsp
    refine ⟨_, (pss_cons (ps_set (i := 2) nd (by rfl) (.inl rfl) (pe_callB call_abs (by rfl) T.n_abs (by decide +kernel) (pa_cons (pv 0) pa_nil)))
    (pss_one (ps_ret (pe_lst (pa_cons (pe_callB (call_max2 rfl) (by rfl) T.n_max (by decide +kernel) (pa_cons pe_int (pa_cons (pe_op op_sub (pv 2) (pe_op op_powZ pe_int pe_int)) pa_nil))) (pa_cons (pe_op op_add (pe_op op_add (pe_op op_mul (pe_op op_mod (pe_callTy call_int1 (by rfl) T.n_int (by decide +kernel) (pa_cons (pv 2) pa_nil)) (pe_op op_add (pe_op op_powZ pe_int pe_int) pe_int)) pe_int) (pe_op op_mul pe_int (pv 1))) (pe_callTy call_int1 (by rfl) T.n_int (by decide +kernel) (pa_cons (pe_cmpR op_lt (pv 0) pe_int (nomark _)) pa_nil))) (pa_cons pe_int pa_nil))))))), ?_⟩
    unfold m__law_source at h
    try rw [show L2.start N__law_source [V.int x_cell, V.int x_k] = [some (V.int x_cell), some (V.int x_k), none] from rfl]
    refine ⟨_, rfl, ?_⟩
    refine ⟨_, rfl, ?_⟩
    refine ⟨_, rfl, ?_⟩
    refine ⟨_, _, rfl, rfl, ⟨by decide, by decide +kernel⟩, ?_⟩
    refine ⟨_, _, rfl, rfl, ?_⟩
    refine ⟨_, _, rfl, ?_⟩
    refine ⟨_, rfl, ?_⟩
    refine .inl ⟨_, rfl, ?_⟩
    refine ⟨_, _, rfl, rfl, ⟨by decide, by decide +kernel⟩, ?_⟩
    refine ⟨_, _, rfl, rfl, ?_⟩
    refine ⟨_, _, rfl, rfl, (show (0 : Int) < (((10 : Int) ^ (41 : Int).toNat) + (37 : Int)) by decide +kernel), ?_⟩
    refine ⟨_, _, rfl, rfl, (.inr ⟨by decide, by decide⟩), ?_⟩
    refine ⟨_, rfl, ?_⟩
    refine ⟨_, _, rfl, rfl, (.inl ⟨by decide, by decide⟩), ?_⟩
    refine ⟨_, _, rfl, rfl, ?_⟩
    refine ⟨_, rfl, ?_⟩
    refine ⟨_, _, rfl, rfl, ?_⟩
    refine .inr ⟨_, rfl, ?_⟩
    refine ⟨_, _, rfl, rfl, ?_⟩
    refine ⟨by show 3 ≤ sizeLine; decide, fun p1 hp1 => ?_⟩
    have hS : Z.St K ((p1, .lst (([(Z.imax (0 : Int) ((Z.iabs x_cell) - ((10 : Int) ^ (18 : Int).toNat))), (((((Z.iabs x_cell) % (((10 : Int) ^ (41 : Int).toNat) + (37 : Int))) * (89 : Int)) + ((2 : Int) * x_k)) + (if (decide (x_cell < (0 : Int))) = true then (1 : Int) else 0)), (0 : Int)]).map V.int)) :: O) (L) _ := hS.own hp1
    obtain rfl := Option.some.inj h
    exact q _ _ ((hS.sel 1 [0]).gone 0)
theorem ok__law_draw (T : Tx K mg a fd) : FnOk P w K mg base CX0 1 (a 1) (fd 1) ["source", "count"] (sp__law_draw K) := by
  have nd := sc__law_draw.nd
  refine T.F__law_draw.ok sc__law_draw (fun vs H Q E h => ?_) (fun cdv A outer s H vs Q E hr hsp => ?_)
  · obtain ⟨_, _, _, _, _, rfl, _⟩ := h
    rfl
  · obtain ⟨O, L, p_source, x_source, x_count, rfl, hS, r, h, q⟩ := hsp
    refine ⟨_, (pss_cons (ps_if (pt_cmpR op_gt (pe_ix ix_list (pv 0) pe_int (fun _ _ => rfl)) pe_int (nomark _)) (pss_cons (ps_set (i := 2) nd (by rfl) (.inl rfl) (pe_op op_mod (pe_callTy call_int1 (by rfl) T.n_int (by decide +kernel) (pa_cons (pe_ix ix_list (pv 0) pe_int (fun _ _ => rfl)) pa_nil)) (pv 1)))
    (pss_cons (ps_asg (pe_op op_fdivW (pe_ix ix_list (pv 0) pe_int (fun _ _ => rfl)) (pv 1)) (pg_sub (pv 0) pe_int set_list))
    (pss_one (ps_ret (pv 2))))) pss_nil)
    (pss_cons (ps_asg (pe_op op_add (pe_ix ix_list (pv 0) pe_int (fun _ _ => rfl)) pe_int) (pg_sub (pv 0) pe_int set_list))
    (pss_cons (ps_set (i := 3) nd (by rfl) (.inl rfl) (pe_op op_mod (pe_callTy call_int1 (by rfl) T.n_int (by decide +kernel) (pa_cons (pe_op op_powZ (pe_op op_add (pe_ix ix_list (pv 0) pe_int (fun _ _ => rfl)) (pe_op op_mul pe_int (pe_ix ix_list (pv 0) pe_int (fun _ _ => rfl)))) pe_int) pa_nil)) (pe_op op_add (pe_op op_powZ pe_int pe_int) pe_int)))
    (pss_cons (ps_set (i := 3) nd (by rfl) (.inl rfl) (pe_op op_mod (pe_callTy call_int1 (by rfl) T.n_int (by decide +kernel) (pa_cons (pe_op op_powZ (pe_op op_add (pe_op op_mulW (pv 3) (pe_ix ix_list (pv 0) pe_int (fun _ _ => rfl))) pe_int) pe_int) pa_nil)) (pe_op op_add (pe_op op_powZ pe_int pe_int) pe_int)))
    (pss_one (ps_ret (pe_op op_mod (pe_callTy call_int1 (by rfl) T.n_int (by decide +kernel) (pa_cons (pe_op op_fdivW (pv 3) pe_int) pa_nil)) (pv 1)))))))), ?_⟩
    unfold m__law_draw at h
    try rw [show L2.start N__law_draw [V.ref p_source, V.int x_count] = [some (V.ref p_source), some (V.int x_count), none, none] from rfl]
    refine ⟨_, rfl, ?_⟩
    obtain ⟨x1, e2, h⟩ := Z.bind_of h
    refine ⟨_, _, _, _, rfl, rfl, (hS.atL (k := 0) rfl), Z.atI_f e2, ?_⟩
    refine ⟨_, _, rfl, rfl, ?_⟩
    refine ⟨_, rfl, ?_⟩
    refine Z.iteS (fun hc => ?_) (fun hc => ?_)
    · have h := Z.if_t hc h
      refine ⟨_, rfl, ?_⟩
      obtain ⟨x3, e4, h⟩ := Z.bind_of h
      refine ⟨_, _, _, _, rfl, rfl, (hS.atL (k := 0) rfl), Z.atI_f e4, ?_⟩
      refine .inl ⟨_, rfl, ?_⟩
      refine ⟨_, rfl, ?_⟩
      obtain ⟨c5, h⟩ := Z.chk_of h
      refine ⟨_, _, rfl, rfl, c5, ?_⟩
      refine ⟨_, rfl, ?_⟩
      obtain ⟨x6, e7, h⟩ := Z.bind_of h
      refine ⟨_, _, _, _, rfl, rfl, (hS.atL (k := 0) rfl), Z.atI_f e7, ?_⟩
      refine ⟨_, rfl, ?_⟩
      obtain ⟨c8, h⟩ := Z.chk_of h
      refine ⟨_, _, rfl, rfl, c8, ?_⟩
      refine ⟨_, rfl, ?_⟩
      obtain ⟨y9, e10, h⟩ := Z.bind_of h
      obtain ⟨j11, hj11, ej11⟩ := Z.setI_f (f := V.int) e10
      refine ⟨_, _, _, _, rfl, rfl, hS.at (k := 0) rfl, hj11, ?_⟩
      rw [ej11]
      have hS : Z.St K ((p_source, .lst (y9.map V.int)) :: O) (L) _ := hS.put (k := 0) rfl
      refine ⟨_, rfl, ?_⟩
      obtain rfl := Option.some.inj h
      exact q _ ((hS.sel 1 [0]).gone 0)
    · have h := Z.if_f hc h
      refine ⟨_, rfl, ?_⟩
      obtain ⟨x12, e13, h⟩ := Z.bind_of h
      refine ⟨_, _, _, _, rfl, rfl, (hS.atL (k := 0) rfl), Z.atI_f e13, ?_⟩
      refine ⟨_, _, rfl, rfl, ?_⟩
      refine ⟨_, rfl, ?_⟩
      obtain ⟨y14, e15, h⟩ := Z.bind_of h
      obtain ⟨j16, hj16, ej16⟩ := Z.setI_f (f := V.int) e15
      refine ⟨_, _, _, _, rfl, rfl, hS.at (k := 0) rfl, hj16, ?_⟩
      rw [ej16]
      have hS : Z.St K ((p_source, .lst (y14.map V.int)) :: O) (L) _ := hS.put (k := 0) rfl
      refine ⟨_, rfl, ?_⟩
      obtain ⟨x17, e18, h⟩ := Z.bind_of h
      refine ⟨_, _, _, _, rfl, rfl, (hS.atL (k := 0) rfl), Z.atI_f e18, ?_⟩
      refine ⟨_, rfl, ?_⟩
      obtain ⟨x19, e20, h⟩ := Z.bind_of h
      refine ⟨_, _, _, _, rfl, rfl, (hS.atL (k := 0) rfl), Z.atI_f e20, ?_⟩
      refine ⟨_, _, rfl, rfl, (.inl ⟨by decide, by decide⟩), ?_⟩
      refine ⟨_, _, rfl, rfl, ?_⟩
      obtain ⟨c21, h⟩ := Z.chk_of h
      refine ⟨_, _, rfl, rfl, c21, ?_⟩
      refine .inl ⟨_, rfl, ?_⟩
      refine ⟨_, _, rfl, rfl, ⟨by decide, by decide +kernel⟩, ?_⟩
      refine ⟨_, _, rfl, rfl, ?_⟩
      refine ⟨_, _, rfl, rfl, (show (0 : Int) < (((10 : Int) ^ (37 : Int).toNat) + (43 : Int)) by decide +kernel), ?_⟩
      refine ⟨_, rfl, ?_⟩
      refine ⟨_, rfl, ?_⟩
      obtain ⟨x22, e23, h⟩ := Z.bind_of h
      refine ⟨_, _, _, _, rfl, rfl, (hS.atL (k := 0) rfl), Z.atI_f e23, ?_⟩
      obtain ⟨c24, h⟩ := Z.chk_of h
      refine ⟨_, _, rfl, rfl, c24, ?_⟩
      refine ⟨_, _, rfl, rfl, ?_⟩
      obtain ⟨c25, h⟩ := Z.chk_of h
      refine ⟨_, _, rfl, rfl, c25, ?_⟩
      refine .inl ⟨_, rfl, ?_⟩
      refine ⟨_, _, rfl, rfl, ⟨by decide, by decide +kernel⟩, ?_⟩
      refine ⟨_, _, rfl, rfl, ?_⟩
      refine ⟨_, _, rfl, rfl, (show (0 : Int) < (((10 : Int) ^ (39 : Int).toNat) + (3 : Int)) by decide +kernel), ?_⟩
      refine ⟨_, rfl, ?_⟩
      refine ⟨_, _, rfl, rfl, ⟨by decide, by decide +kernel⟩, ?_⟩
      refine .inl ⟨_, rfl, ?_⟩
      refine ⟨_, rfl, ?_⟩
      obtain ⟨c26, h⟩ := Z.chk_of h
      refine ⟨_, _, rfl, rfl, c26, ?_⟩
      obtain rfl := Option.some.inj h
      exact q _ ((hS.sel 1 [0]).gone 0)
theorem ok__law_short (T : Tx K mg a fd) : FnOk P w K mg base CX0 1 (a 2) (fd 2) ["items", "most"] (sp__law_short K) := by
  have nd := sc__law_short.nd
  refine T.F__law_short.ok sc__law_short (fun vs H Q E h => ?_) (fun cdv A outer s H vs Q E hr hsp => ?_)
  · obtain ⟨_, _, _, _, _, rfl, _⟩ := h
    rfl
  · obtain ⟨O, L, v_items, x_items, x_most, rfl, hS, iv_items, r, h, q⟩ := hsp
    refine ⟨_, (pss_cons (ps_set (i := 2) nd (by rfl) (.inl rfl) (pe_lst pa_nil))
    (pss_cons (ps_for PassesOwn.never (by rfl) (pi_list (pv 0)) (pg_name (i := 3) nd (by rfl) (Or.inl rfl)) (pss_one (ps_if (pt_cmpR op_le (pe_op op_add (pe_callB (Z.cr_sumK (K := K) rfl rfl) (by rfl) T.n_sum (by decide +kernel) (pa_cons (pv 2) pa_nil)) (pv 3)) (pv 1) (nomark _)) (pss_one (ps_expr (pe_bm PySem.F.plainAttrs_list PySem.F.slot_list_append PySem.F.type_list_append mt_append (pv 2) (pa_cons (pv 3) pa_nil)))) pss_nil)))
    (pss_one (ps_ret (pv 2))))), ?_⟩
    unfold m__law_short at h
    try rw [show L2.start N__law_short [v_items, V.int x_most] = [some (v_items), some (V.int x_most), none, none] from rfl]
    have hS := hS.more (iv_items)
    refine ⟨by show 0 ≤ sizeLine; decide, fun p1 hp1 => ?_⟩
    have hS : Z.St K ((p1, .lst (([] : List Int).map V.int)) :: O) (([v_items], [(PyData.list (x_items.map PyData.int))]) :: L) _ := hS.own hp1
    refine ⟨_, rfl, ?_⟩
    obtain ⟨a3, ws2, rfl, hqws2, hlws2, hS⟩ := hS.seq (.mem (.head _))
    obtain rfl := hS.areInts (.mem (.head _))
    obtain ⟨res5, hl6, hk7⟩ := Z.bind_of h
    refine ⟨_, rfl, ⟨_, hqws2⟩, ?_⟩
    refine Z.for_loop (res := res5) (Z.walkL (n := x_items.length)) x_items rfl (m__law_short_b1 x_most) (([] : List Int)) hl6 (fun (s : (List Int)) σ H => ∃ (y4 : Option V), σ = [some (V.ref a3), some (V.int x_most), some (V.ref p1), y4] ∧ Z.St K ((p1, .lst (s.map V.int)) :: O) ((x_items.map V.int, x_items.map PyData.int) :: ([V.ref a3], [(PyData.list (x_items.map PyData.int))]) :: L) H) ⟨_, rfl, hS⟩ (fun s σ H iv => ?_) ?_ ?_
    · obtain ⟨y4, rfl, hS⟩ := iv
      exact (Z.dataL hS (.tail _ (.head _)) (by rw [List.length_map]))
    · rintro s10 σ H ⟨y11, rfl, hS⟩ rfl
      have h := Z.after_of hk7
      refine ⟨_, rfl, ?_⟩
      obtain rfl := Option.some.inj h
      exact q _ _ ((hS.sel 1 [0]).gone 2)
    · intro aft i x v s flres5 σ H H' hx iv hy hb hrres5 hout
      obtain ⟨y4, rfl, hS⟩ := iv
      unfold m__law_short_b1 at hb
      obtain ⟨rfl, hv⟩ := hy
      obtain ⟨ws8, hqws8, _, hS⟩ := hS.seqAt (.mem (.tail _ (.head _)))
      obtain rfl := hS.areInts (.mem (.head _))
      obtain rfl := Z.same_at (hv _ hqws8) (Z.map_at (f := V.int) hx)
      refine ⟨_, rfl, ?_⟩
      refine ⟨_, _, rfl, (hS.atL (k := 0) rfl), ?_⟩
      refine ⟨_, rfl, ?_⟩
      refine ⟨_, _, rfl, rfl, ?_⟩
      refine ⟨_, rfl, ?_⟩
      refine ⟨_, _, rfl, rfl, ?_⟩
      refine ⟨_, rfl, ?_⟩
      refine Z.iteS (fun hc => ?_) (fun hc => ?_)
      · have hb := Z.if_t hc hb
        refine ⟨_, rfl, ?_⟩
        refine ⟨.inl ⟨rfl, _, hS.atL (k := 0) rfl⟩, ?_⟩
        refine ⟨_, rfl, ?_⟩
        obtain ⟨c9, hb⟩ := Z.chk_of hb
        refine ⟨_, _, _, rfl, rfl, hS.at (k := 0) rfl, by rw [List.length_map]; exact c9, ?_⟩
        have hS : Z.St K ((p1, .lst ((s ++ [x]).map V.int)) :: O) ((x_items.map V.int, x_items.map PyData.int) :: (x_items.map V.int, x_items.map PyData.int) :: ([V.ref a3], [(PyData.list (x_items.map PyData.int))]) :: L) _ := hS.app (k := 0) rfl
        have hS : Z.St K ((p1, .lst ((s ++ [x]).map V.int)) :: O) ((x_items.map V.int, x_items.map PyData.int) :: ([V.ref a3], [(PyData.list (x_items.map PyData.int))]) :: L) _ := hS.cut 0 1
        have ee := Option.some.inj hb
        exact ⟨_, ee.symm, ⟨_, rfl, hS⟩⟩
      · have hb := Z.if_f hc hb
        have hS : Z.St K ((p1, .lst (s.map V.int)) :: O) ((x_items.map V.int, x_items.map PyData.int) :: ([V.ref a3], [(PyData.list (x_items.map PyData.int))]) :: L) _ := hS.cut 0 1
        have ee := Option.some.inj hb
        exact ⟨_, ee.symm, ⟨_, rfl, hS⟩⟩
theorem ok_is_integer (T : Tx K mg a fd) : FnOk P w K mg base CX0 1 (a 3) (fd 3) ["value"] (sp_is_integer K) := by
  have nd := sc_is_integer.nd
  refine T.F_is_integer.ok sc_is_integer (fun vs H Q E h => ?_) (fun cdv A outer s H vs Q E hr hsp => ?_)
  · obtain ⟨_, _, _, rfl, _⟩ := h
    rfl
  · obtain ⟨O, L, x_value, rfl, hS, r, h, q⟩ := hsp
    refine ⟨_, (pss_one (ps_ret (pe_and (pe_callB call_isi (by rfl) T.n_isinstance (by decide +kernel) (pa_cons (pv 0) (pa_cons (pe_bltn (v := .ty "int") (by rfl) T.n_int (by decide +kernel) rfl) pa_nil))) (pe_one (pe_not (pe_callB call_isi (by rfl) T.n_isinstance (by decide +kernel) (pa_cons (pv 0) (pa_cons (pe_bltn (v := .ty "bool") (by rfl) T.n_bool (by decide +kernel) rfl) pa_nil)))))))), ?_⟩
    unfold m_is_integer at h
    try rw [show L2.start N_is_integer [V.int x_value] = [some (V.int x_value)] from rfl]
    refine ⟨_, rfl, ?_⟩
    refine ⟨_, _, _, _, true, rfl, .ty _, (.base (.int _)), kit_ty (by decide +kernel), ?_⟩
    refine ⟨_, rfl, ?_⟩
    first | refine Z.andJV (c := true) (d := (!false)) (fun _ q => ?_) ?_ | (show (if _ = true then _ else _); refine Z.andJV (d := (!false)) (fun _ q => ?_) ?_) | refine Z.andJV (d := (!false)) (fun _ q => ?_) ?_
    · refine ⟨_, rfl, ?_⟩
      refine ⟨_, _, _, _, false, rfl, .ty _, (.base (.int _)), kit_ty (by decide +kernel), ?_⟩
      refine ⟨_, rfl, ?_⟩
      exact q
    obtain rfl := Option.some.inj h
    exact q _ ((hS.sel 0 []).gone 0)
theorem ok_check_row (T : Tx K mg a fd) : FnOk P w K mg base CX0 2 (a 4) (fd 4) ["row"] (sp_check_row K) := by
  have G_is_integer := ok_is_integer (P := P) (w := w) (base := base) T
  have nd := sc_check_row.nd
  obtain ⟨t_MOST_ITEMS, c_MOST_ITEMS⟩ := T.c_MOST_ITEMS
  refine T.F_check_row.ok sc_check_row (fun vs H Q E h => ?_) (fun cdv A outer s H vs Q E hr hsp => ?_)
  · obtain ⟨_, _, _, _, rfl, _⟩ := h
    rfl
  · obtain ⟨O, L, v_row, x_row, rfl, hS, iv_row, r, h, q⟩ := hsp
    refine ⟨_, (pss_cons (ps_if (PW.pt (pw_or (pt_not (pt_val (pe_callB call_isi (by rfl) T.n_isinstance (by decide +kernel) (pa_cons (pv 0) (pa_cons (pe_bltn (v := .ty "list") (by rfl) T.n_list (by decide +kernel) rfl) pa_nil))))) (pw_or1 (pt_cmpR op_gt (pe_callB call_len_seq (by rfl) T.n_len (by decide +kernel) (pa_cons (pv 0) pa_nil)) (pe_glob (v := .int (1000)) (by rfl) c_MOST_ITEMS ⟨_, rfl⟩) (nomark _))))) (pss_one ps_never) pss_nil)
    (pss_one (ps_for PassesOwn.never (by rfl) (pi_enum (by rfl) T.n_enumerate (pa_cons (pv 0) pa_nil)) (pg_tup (by rfl) (pgs_cons (pg_name (i := 1) nd (by rfl) (Or.inl rfl)) (pgs_cons (pg_name (i := 2) nd (by rfl) (Or.inl rfl)) pgs_nil))) (pss_one (ps_if (PW.pt (pw_or (pt_not (pt_val (pe_call G_is_integer (hr.mono (by decide)) (by rfl) T.g_is_integer T.F_is_integer.kp T.b_is_integer .nil pass0 (pa_cons (pv 2) pa_nil)))) (pw_or (pt_cmpR op_lt (pv 2) pe_int (nomark _)) (pw_or1 (PW.pt (pw_and (pt_cmpR op_gt (pv 1) pe_int (nomark _)) (pw_and1 (pt_cmpR op_gt (pv 2) (pe_ix ix_list (pv 0) (pe_op op_sub (pv 1) pe_int) (fun _ _ => rfl)) (nomark _))))))))) (pss_one ps_never) pss_nil))))), ?_⟩
    unfold m_check_row at h
    try rw [show L2.start N_check_row [v_row] = [some (v_row), none, none] from rfl]
    have hS := hS.more (iv_row)
    obtain ⟨st1, hb2, h⟩ := Z.bind_of h
    first | with_reducible (show tOr _ _ _ _ _) | (refine Z.ifsS ?_; with_reducible (show tOr _ _ _ _ _)) | (refine Z.ifsI ?_; with_reducible (show tOr _ _ _ _ _)) | (refine Z.gnS ?_; dsimp only; refine Z.ifsS ?_; show tOr _ _ _ _ _) | (refine Z.gnS ?_; dsimp only; refine Z.ifsI ?_; show tOr _ _ _ _ _) | show tOr _ _ _ _ _ | (refine Z.ifsS ?_; show tOr _ _ _ _ _) | (refine Z.ifsI ?_; show tOr _ _ _ _ _) | (refine Z.gnS ?_; dsimp only; with_reducible (show tOr _ _ _ _ _)) | (refine Z.gnS ?_; dsimp only; show tOr _ _ _ _ _) | (dsimp only [gName]; show tOr _ _ _ _ _) | (dsimp only [gName, tIfS, tRet, tSeq, tAsg, tPar, tNext]; show tOr _ _ _ _ _) | (dsimp only [gName, tIfS, tRet, tSeq, tAsg, tPar, tNext, tCons, tOp, tNot, tB, tTest, tCall, Z.tCallP, tUn]; show tOr _ _ _ _ _)
    refine Z.joinB' (fun vq H' => vq = (st1) ∧ Z.St K (O) (([v_row], [(PyData.list (x_row.map PyData.int))]) :: L) H') (fun go => ?_) ?_
    · refine ⟨_, rfl, ?_⟩
      obtain ⟨a4, ws3, rfl, hqws3, hlws3, hS⟩ := hS.seq (.mem (.head _))
      obtain rfl := hS.areInts (.mem (.head _))
      refine ⟨_, _, _, _, true, rfl, .ty _, (Z.tyL hqws3), kit_ty (by decide +kernel), ?_⟩
      refine ⟨_, rfl, ?_⟩
      refine Z.iteS (fun hc => ?_) (fun hc => ?_)
      · have hb2 := Z.if_t hc hb2
        have hS : Z.St K (O) (([V.ref a4], [(PyData.list (x_row.map PyData.int))]) :: L) _ := hS.cut 0 1
        obtain rfl := Option.some.inj hb2
        exact go _ _ ⟨rfl, hS⟩
      · have hb2 := Z.if_f hc hb2
        refine ⟨_, rfl, ?_⟩
        obtain ⟨ws5, hqws5, hlws5, hS⟩ := hS.seqAt (.mem (.tail _ (.head _)))
        obtain rfl := hS.areInts (.mem (.head _))
        refine ⟨_, _, rfl, .inl hqws5, ?_⟩
        rw [List.length_map]
        refine ⟨_, _, rfl, rfl, ?_⟩
        refine ⟨_, rfl, ?_⟩
        have hS : Z.St K (O) (([V.ref a4], [(PyData.list (x_row.map PyData.int))]) :: L) _ := hS.cut 0 2
        obtain rfl := Option.some.inj hb2
        exact go _ _ ⟨rfl, hS⟩
    rintro _ _ ⟨rfl, hS⟩
    refine Z.iteS (fun hc => ?_) (fun hc => ?_)
    · have h := Z.if_t hc h
      cases h
    · have h := Z.if_f hc h
      refine ⟨_, rfl, ?_⟩
      obtain ⟨a8, ws7, rfl, hqws7, hlws7, hS⟩ := hS.seq (.mem (.head _))
      obtain rfl := hS.areInts (.mem (.head _))
      obtain ⟨res11, hl12, hk13⟩ := Z.bind_of h
      refine ⟨_, _, rfl, hqws7, ?_⟩
      refine Z.for_loop (res := res11) (Z.walkE (n := x_row.length)) (Z.enumZ x_row) (Z.enumZ_len _) (m_check_row_b1 x_row) (()) hl12 (fun (s : Unit) σ H => ∃ (y9 : Option V) (y10 : Option V), σ = [some (V.ref a8), y9, y10] ∧ Z.St K (O) ((x_row.map V.int, x_row.map PyData.int) :: ([V.ref a8], [(PyData.list (x_row.map PyData.int))]) :: L) H) ⟨_, _, rfl, hS⟩ (fun s σ H iv => ?_) ?_ ?_
      · obtain ⟨y9, y10, rfl, hS⟩ := iv
        exact (Z.dataL hS (.tail _ (.head _)) (by rw [List.length_map]))
      · rintro s29 σ H ⟨y30, y31, rfl, hS⟩ rfl
        have h := Z.after_of hk13
        obtain rfl := Option.some.inj h
        exact q _ ((hS.sel 0 []).gone 2)
      · intro aft i x v s flres11 σ H H' hx iv hy hb hrres11 hout
        obtain ⟨y9, y10, rfl, hS⟩ := iv
        unfold m_check_row_b1 at hb
        obtain ⟨h1, h2⟩ := Z.enumZ_get hx
        rw [← h1] at hy
        obtain ⟨tp, y, rfl, np, rfl, hv⟩ := hy
        obtain ⟨ws14, hqws14, _, hS⟩ := hS.seqAt (.mem (.tail _ (.head _)))
        obtain rfl := hS.areInts (.mem (.head _))
        obtain rfl := Z.same_at (hv _ hqws14) (Z.map_at (f := V.int) h2)
        have hS := hS.grow (Z.same_upd (o := .tup [V.int x.1, (V.int x.2)]) np)
        have hS : Z.St K (O) ((x_row.map V.int, x_row.map PyData.int) :: (x_row.map V.int, x_row.map PyData.int) :: ([V.ref a8], [(PyData.list (x_row.map PyData.int))]) :: L) _ := hS
        refine ⟨tp, [_, _], rfl, SqT.of upd_same, rfl, _, [_], rfl, ?_⟩
        refine ⟨_, [], rfl, ?_⟩
        refine ⟨rfl, ?_⟩
        obtain ⟨st15, hb16, hb⟩ := Z.bind_of hb
        first | with_reducible (show tOr _ _ _ _ _) | (refine Z.ifsS ?_; with_reducible (show tOr _ _ _ _ _)) | (refine Z.ifsI ?_; with_reducible (show tOr _ _ _ _ _)) | (refine Z.gnS ?_; dsimp only; refine Z.ifsS ?_; show tOr _ _ _ _ _) | (refine Z.gnS ?_; dsimp only; refine Z.ifsI ?_; show tOr _ _ _ _ _) | show tOr _ _ _ _ _ | (refine Z.ifsS ?_; show tOr _ _ _ _ _) | (refine Z.ifsI ?_; show tOr _ _ _ _ _) | (refine Z.gnS ?_; dsimp only; with_reducible (show tOr _ _ _ _ _)) | (refine Z.gnS ?_; dsimp only; show tOr _ _ _ _ _) | (dsimp only [gName]; show tOr _ _ _ _ _) | (dsimp only [gName, tIfS, tRet, tSeq, tAsg, tPar, tNext]; show tOr _ _ _ _ _) | (dsimp only [gName, tIfS, tRet, tSeq, tAsg, tPar, tNext, tCons, tOp, tNot, tB, tTest, tCall, Z.tCallP, tUn]; show tOr _ _ _ _ _)
        refine Z.joinB' (fun vq H' => vq = (st15) ∧ Z.St K (O) ((x_row.map V.int, x_row.map PyData.int) :: (x_row.map V.int, x_row.map PyData.int) :: ([V.ref a8], [(PyData.list (x_row.map PyData.int))]) :: L) H') (fun go => ?_) ?_
        · refine ⟨_, rfl, ?_⟩
          obtain ⟨r17, e18, hb16⟩ := Z.bind_of hb16
          refine ⟨_, _, _, rfl, hS, _, e18, fun _ hS => ?_⟩
          have hS : Z.St K (O) ((x_row.map V.int, x_row.map PyData.int) :: (x_row.map V.int, x_row.map PyData.int) :: ([V.ref a8], [(PyData.list (x_row.map PyData.int))]) :: L) _ := hS
          refine ⟨_, rfl, ?_⟩
          refine Z.iteS (fun hc => ?_) (fun hc => ?_)
          · have hb16 := Z.if_t hc hb16
            obtain rfl := Option.some.inj hb16
            exact go _ _ ⟨rfl, hS⟩
          · have hb16 := Z.if_f hc hb16
            obtain ⟨st19, hb20, hb16⟩ := Z.bind_of hb16
            first | with_reducible (show tOr _ _ _ _ _) | (refine Z.ifsS ?_; with_reducible (show tOr _ _ _ _ _)) | (refine Z.ifsI ?_; with_reducible (show tOr _ _ _ _ _)) | (refine Z.gnS ?_; dsimp only; refine Z.ifsS ?_; show tOr _ _ _ _ _) | (refine Z.gnS ?_; dsimp only; refine Z.ifsI ?_; show tOr _ _ _ _ _) | show tOr _ _ _ _ _ | (refine Z.ifsS ?_; show tOr _ _ _ _ _) | (refine Z.ifsI ?_; show tOr _ _ _ _ _) | (refine Z.gnS ?_; dsimp only; with_reducible (show tOr _ _ _ _ _)) | (refine Z.gnS ?_; dsimp only; show tOr _ _ _ _ _) | (dsimp only [gName]; show tOr _ _ _ _ _) | (dsimp only [gName, tIfS, tRet, tSeq, tAsg, tPar, tNext]; show tOr _ _ _ _ _) | (dsimp only [gName, tIfS, tRet, tSeq, tAsg, tPar, tNext, tCons, tOp, tNot, tB, tTest, tCall, Z.tCallP, tUn]; show tOr _ _ _ _ _)
            refine Z.joinB' (fun vq H' => vq = (st19) ∧ Z.St K (O) ((x_row.map V.int, x_row.map PyData.int) :: (x_row.map V.int, x_row.map PyData.int) :: ([V.ref a8], [(PyData.list (x_row.map PyData.int))]) :: L) H') (fun go => ?_) ?_
            · refine ⟨_, rfl, ?_⟩
              refine ⟨_, _, rfl, rfl, ?_⟩
              refine ⟨_, rfl, ?_⟩
              refine Z.iteS (fun hc => ?_) (fun hc => ?_)
              · have hb20 := Z.if_t hc hb20
                obtain rfl := Option.some.inj hb20
                exact go _ _ ⟨rfl, hS⟩
              · have hb20 := Z.if_f hc hb20
                obtain ⟨st21, hb22, hb20⟩ := Z.bind_of hb20
                first | with_reducible (show tAnd _ _ _ _ _) | (refine Z.ifsS ?_; with_reducible (show tAnd _ _ _ _ _)) | (refine Z.ifsI ?_; with_reducible (show tAnd _ _ _ _ _)) | (refine Z.gnS ?_; dsimp only; refine Z.ifsS ?_; show tAnd _ _ _ _ _) | (refine Z.gnS ?_; dsimp only; refine Z.ifsI ?_; show tAnd _ _ _ _ _) | show tAnd _ _ _ _ _ | (refine Z.ifsS ?_; show tAnd _ _ _ _ _) | (refine Z.ifsI ?_; show tAnd _ _ _ _ _) | (refine Z.gnS ?_; dsimp only; with_reducible (show tAnd _ _ _ _ _)) | (refine Z.gnS ?_; dsimp only; show tAnd _ _ _ _ _) | (dsimp only [gName]; show tAnd _ _ _ _ _) | (dsimp only [gName, tIfS, tRet, tSeq, tAsg, tPar, tNext]; show tAnd _ _ _ _ _) | (dsimp only [gName, tIfS, tRet, tSeq, tAsg, tPar, tNext, tCons, tOp, tNot, tB, tTest, tCall, Z.tCallP, tUn]; show tAnd _ _ _ _ _)
                refine Z.joinB' (fun vq H' => vq = (st21) ∧ Z.St K (O) ((x_row.map V.int, x_row.map PyData.int) :: (x_row.map V.int, x_row.map PyData.int) :: ([V.ref a8], [(PyData.list (x_row.map PyData.int))]) :: L) H') (fun go => ?_) ?_
                · refine ⟨_, rfl, ?_⟩
                  refine ⟨_, _, rfl, rfl, ?_⟩
                  refine ⟨_, rfl, ?_⟩
                  refine Z.iteS (fun hc => ?_) (fun hc => ?_)
                  · have hb22 := Z.if_t hc hb22
                    refine ⟨_, rfl, ?_⟩
                    refine ⟨_, rfl, ?_⟩
                    refine ⟨_, rfl, ?_⟩
                    refine ⟨_, _, rfl, rfl, ?_⟩
                    obtain ⟨ws23, hqws23, hlws23, hS⟩ := hS.seqAt (.mem (.tail _ (.tail _ (.head _))))
                    obtain rfl := hS.areInts (.mem (.head _))
                    obtain ⟨x24, e25, hb22⟩ := Z.bind_of hb22
                    refine ⟨_, _, _, _, rfl, rfl, hqws23, Z.atI_f e25, ?_⟩
                    refine ⟨_, _, rfl, rfl, ?_⟩
                    refine ⟨_, rfl, ?_⟩
                    have hS : Z.St K (O) ((x_row.map V.int, x_row.map PyData.int) :: (x_row.map V.int, x_row.map PyData.int) :: ([V.ref a8], [(PyData.list (x_row.map PyData.int))]) :: L) _ := hS.cut 0 1
                    obtain rfl := Option.some.inj hb22
                    exact go _ _ ⟨rfl, hS⟩
                  · have hb22 := Z.if_f hc hb22
                    obtain rfl := Option.some.inj hb22
                    exact go _ _ ⟨rfl, hS⟩
                rintro _ _ ⟨rfl, hS⟩
                obtain rfl := Option.some.inj hb20
                exact go _ _ ⟨rfl, hS⟩
            rintro _ _ ⟨rfl, hS⟩
            obtain rfl := Option.some.inj hb16
            exact go _ _ ⟨rfl, hS⟩
        rintro _ _ ⟨rfl, hS⟩
        refine Z.iteS (fun hc => ?_) (fun hc => ?_)
        · have hb := Z.if_t hc hb
          cases hb
        · have hb := Z.if_f hc hb
          have hS : Z.St K (O) ((x_row.map V.int, x_row.map PyData.int) :: ([V.ref a8], [(PyData.list (x_row.map PyData.int))]) :: L) _ := hS.cut 0 1
          have ee := Option.some.inj hb
          exact ⟨_, ee.symm, ⟨_, _, rfl, hS⟩⟩
theorem ok_count_traces (T : Tx K mg a fd) : FnOk P w K mg base CX0 3 (a 5) (fd 5) ["row"] (sp_count_traces K) := by
  have G_check_row := ok_check_row (P := P) (w := w) (base := base) T
  have nd := sc_count_traces.nd
  refine T.F_count_traces.ok sc_count_traces (fun vs H Q E h => ?_) (fun cdv A outer s H vs Q E hr hsp => ?_)
  · obtain ⟨_, _, _, _, rfl, _⟩ := h
    rfl
  · obtain ⟨O, L, v_row, x_row, rfl, hS, iv_row, r, h, q⟩ := hsp
    refine ⟨_, (pss_cons (ps_expr (pe_call G_check_row (hr.mono (by decide)) (by rfl) T.g_check_row T.F_check_row.kp T.b_check_row .nil pass0 (pa_cons (pv 0) pa_nil)))
    (pss_cons (ps_set (i := 1) nd (by rfl) (.inl rfl) pe_int)
    (pss_cons (ps_set (i := 2) nd (by rfl) (.inl rfl) (pe_callB (Z.cr_sumK (K := K) rfl rfl) (by rfl) T.n_sum (by decide +kernel) (pa_cons (pv 0) pa_nil)))
    (pss_cons (ps_for PassesOwn.never (by rfl) (pi_zip (by rfl) T.n_zip (pa_cons (pv 0) (pa_cons (pe_op op_catR (pe_slice sl_list (pv 0) (po_some pe_int) po_none) (pe_lst (pa_cons pe_int pa_nil))) pa_nil))) (pg_tup (by rfl) (pgs_cons (pg_name (i := 3) nd (by rfl) (Or.inl rfl)) (pgs_cons (pg_name (i := 4) nd (by rfl) (Or.inl rfl)) pgs_nil))) (pss_cons (ps_aug (i := 2) nd (by rfl) (.inl rfl) (pv 3) ip_sub)
    (pss_cons (ps_set (i := 5) nd (by rfl) (.inl rfl) (pe_op op_add (pe_op op_sub (pe_op op_mul pe_int (pv 2)) (pv 4)) pe_int))
    (pss_one (ps_aug (i := 1) nd (by rfl) (.inl rfl) (Z.pe_callM Z.call_comb (by rfl) T.m_comb (pa_cons (pe_op op_sub (pe_op op_add (pv 3) (pv 5)) pe_int) (pa_cons (pe_op op_sub (pe_op op_add (pv 4) (pv 5)) pe_int) pa_nil))) Z.ip_mulW)))))
    (pss_one (ps_ret (pv 1))))))), ?_⟩
    unfold m_count_traces at h
    try rw [show L2.start N_count_traces [v_row] = [some (v_row), none, none, none, none, none] from rfl]
    have hS := hS.more (iv_row)
    refine ⟨_, rfl, ?_⟩
    obtain ⟨r1, e2, h⟩ := Z.bind_of h
    refine ⟨_, _, _, x_row, rfl, hS, (.mem (.head _)), _, e2, fun _ hS => ?_⟩
    have hS : Z.St K (O) (([v_row], [(PyData.list (x_row.map PyData.int))]) :: L) _ := hS
    refine ⟨_, rfl, ?_⟩
    obtain ⟨a4, ws3, rfl, hqws3, hlws3, hS⟩ := hS.seq (.mem (.head _))
    obtain rfl := hS.areInts (.mem (.head _))
    refine ⟨_, _, rfl, hqws3, ?_⟩
    refine ⟨_, rfl, ?_⟩
    refine ⟨_, rfl, ?_⟩
    refine ⟨_, rfl, ?_⟩
    obtain ⟨ws5, hqws5, hlws5, hS⟩ := hS.seqAt (.mem (.tail _ (.head _)))
    obtain rfl := hS.areInts (.mem (.head _))
    refine ⟨_, _, rfl, hqws5, fun p6 hp6 => ?_⟩
    rw [Z.cut_map]
    have hS : Z.St K ((p6, .lst ((Z.cutL x_row (some (1 : Int)) none).map V.int)) :: O) ((x_row.map V.int, x_row.map PyData.int) :: (x_row.map V.int, x_row.map PyData.int) :: ([V.ref a4], [(PyData.list (x_row.map PyData.int))]) :: L) _ := hS.own hp6
    refine ⟨by show 1 ≤ sizeLine; decide, fun p7 hp7 => ?_⟩
    have hS : Z.St K ((p7, .lst (([(0 : Int)]).map V.int)) :: (p6, .lst ((Z.cutL x_row (some (1 : Int)) none).map V.int)) :: O) ((x_row.map V.int, x_row.map PyData.int) :: (x_row.map V.int, x_row.map PyData.int) :: ([V.ref a4], [(PyData.list (x_row.map PyData.int))]) :: L) _ := hS.own hp7
    obtain ⟨c8, h⟩ := Z.chk_of h
    refine ⟨_, _, _, _, rfl, rfl, (hS.atL (k := 1) rfl), (hS.atL (k := 0) rfl), by rw [List.length_map, List.length_map]; exact c8, fun p9 hp9 => ?_⟩
    rw [← List.map_append]
    have hS : Z.St K ((p9, .lst (((Z.cutL x_row (some (1 : Int)) none) ++ [(0 : Int)]).map V.int)) :: (p7, .lst (([(0 : Int)]).map V.int)) :: (p6, .lst ((Z.cutL x_row (some (1 : Int)) none).map V.int)) :: O) ((x_row.map V.int, x_row.map PyData.int) :: (x_row.map V.int, x_row.map PyData.int) :: ([V.ref a4], [(PyData.list (x_row.map PyData.int))]) :: L) _ := hS.own hp9
    obtain ⟨ws10, hqws10, hlws10, hS⟩ := hS.seqAt (.mem (.tail _ (.tail _ (.head _))))
    obtain rfl := hS.areInts (.mem (.head _))
    obtain ⟨res14, hl15, hk16⟩ := Z.bind_of h
    refine ⟨_, _, _, _, rfl, hqws10, (hS.atL (k := 0) rfl), ?_⟩
    refine Z.for_loop (res := res14) (Z.walkZ (n := min x_row.length ((Z.cutL x_row (some (1 : Int)) none) ++ [(0 : Int)]).length)) (List.zip x_row ((Z.cutL x_row (some (1 : Int)) none) ++ [(0 : Int)])) List.length_zip (m_count_traces_b1) ((1 : Int), x_row.sum) hl15 (fun (s : Int × Int) σ H => ∃ (y11 : Option V) (y12 : Option V) (y13 : Option V), σ = [some (V.ref a4), some (V.int s.1), some (V.int s.2), y11, y12, y13] ∧ Z.St K ((p9, .lst (((Z.cutL x_row (some (1 : Int)) none) ++ [(0 : Int)]).map V.int)) :: (p7, .lst (([(0 : Int)]).map V.int)) :: (p6, .lst ((Z.cutL x_row (some (1 : Int)) none).map V.int)) :: O) ((x_row.map V.int, x_row.map PyData.int) :: (x_row.map V.int, x_row.map PyData.int) :: (x_row.map V.int, x_row.map PyData.int) :: ([V.ref a4], [(PyData.list (x_row.map PyData.int))]) :: L) H) ⟨_, _, _, rfl, hS⟩ (fun s σ H iv => ?_) ?_ ?_
    · obtain ⟨y11, y12, y13, rfl, hS⟩ := iv
      exact Z.both (Z.dataL hS (.tail _ (.tail _ (.tail _ (.head _)))) (by rw [List.length_map])) ⟨_, hS.atL (k := 0) rfl, by rw [List.length_map]⟩
    · rintro s20 σ H ⟨y21, y22, y23, rfl, hS⟩ rfl
      have h := Z.after_of hk16
      refine ⟨_, rfl, ?_⟩
      obtain rfl := Option.some.inj h
      exact q _ ((hS.sel 3 []).gone 4)
    · intro aft i x v s flres14 σ H H' hx iv hy hb hrres14 hout
      obtain ⟨y11, y12, y13, rfl, hS⟩ := iv
      unfold m_count_traces_b1 at hb
      obtain ⟨tp, y1, y2, rfl, np, rfl, hv1, hv2⟩ := hy
      obtain ⟨h1, h2⟩ := Z.zip_get hx
      obtain ⟨ws17, hqws17, _, hS⟩ := hS.seqAt (.mem (.tail _ (.tail _ (.tail _ (.head _)))))
      obtain rfl := hS.areInts (.mem (.head _))
      obtain rfl := Z.same_at (hv1 _ hqws17) (Z.map_at (f := V.int) h1)
      obtain rfl := Z.same_at (hv2 _ (hS.atL (k := 0) rfl)) (Z.map_at (f := V.int) h2)
      have hS := hS.grow (Z.same_upd (o := .tup [(V.int x.1), (V.int x.2)]) np)
      have hS : Z.St K ((p9, .lst (((Z.cutL x_row (some (1 : Int)) none) ++ [(0 : Int)]).map V.int)) :: (p7, .lst (([(0 : Int)]).map V.int)) :: (p6, .lst ((Z.cutL x_row (some (1 : Int)) none).map V.int)) :: O) ((x_row.map V.int, x_row.map PyData.int) :: (x_row.map V.int, x_row.map PyData.int) :: (x_row.map V.int, x_row.map PyData.int) :: (x_row.map V.int, x_row.map PyData.int) :: ([V.ref a4], [(PyData.list (x_row.map PyData.int))]) :: L) _ := hS
      refine ⟨tp, [_, _], rfl, SqT.of upd_same, rfl, _, [_], rfl, _, [], rfl, rfl, ?_⟩
      refine ⟨_, rfl, ?_⟩
      refine ⟨_, rfl, ?_⟩
      refine ⟨_, _, rfl, rfl, ?_⟩
      refine ⟨_, rfl, ?_⟩
      refine ⟨_, _, rfl, rfl, (.inl ⟨by decide, by decide⟩), ?_⟩
      refine ⟨_, rfl, ?_⟩
      refine ⟨_, _, rfl, rfl, ?_⟩
      refine ⟨_, _, rfl, rfl, ?_⟩
      refine ⟨_, rfl, ?_⟩
      refine ⟨_, rfl, ?_⟩
      refine ⟨_, rfl, ?_⟩
      refine ⟨_, _, rfl, rfl, ?_⟩
      refine ⟨_, _, rfl, rfl, ?_⟩
      refine ⟨_, rfl, ?_⟩
      refine ⟨_, rfl, ?_⟩
      refine ⟨_, _, rfl, rfl, ?_⟩
      refine ⟨_, _, rfl, rfl, ?_⟩
      obtain ⟨c18, hb⟩ := Z.chk_of hb
      refine ⟨_, _, rfl, c18, ?_⟩
      obtain ⟨c19, hb⟩ := Z.chk_of hb
      refine ⟨_, _, rfl, rfl, c19, ?_⟩
      have hS : Z.St K ((p9, .lst (((Z.cutL x_row (some (1 : Int)) none) ++ [(0 : Int)]).map V.int)) :: (p7, .lst (([(0 : Int)]).map V.int)) :: (p6, .lst ((Z.cutL x_row (some (1 : Int)) none).map V.int)) :: O) ((x_row.map V.int, x_row.map PyData.int) :: (x_row.map V.int, x_row.map PyData.int) :: (x_row.map V.int, x_row.map PyData.int) :: ([V.ref a4], [(PyData.list (x_row.map PyData.int))]) :: L) _ := hS.cut 0 1
      have ee := Option.some.inj hb
      exact ⟨_, ee.symm, ⟨_, _, _, rfl, hS⟩⟩
theorem ok__law_items (T : Tx K mg a fd) : FnOk P w K mg base CX0 2 (a 6) (fd 6) ["source", "many", "most"] (sp__law_items K) := by
  have G__law_draw := ok__law_draw (P := P) (w := w) (base := base) T
  have nd := sc__law_items.nd
  refine T.F__law_items.ok sc__law_items (fun vs H Q E h => ?_) (fun cdv A outer s H vs Q E hr hsp => ?_)
  · obtain ⟨_, _, _, _, _, _, rfl, _⟩ := h
    rfl
  · obtain ⟨O, L, p_source, x_source, x_many, x_most, rfl, hS, r, h, q⟩ := hsp
    refine ⟨_, (pss_cons (ps_par (i := 3) (j := 4) (by rfl) nd (by rfl) (by rfl) (by decide) (by rfl) (by rfl) (pa_cons (pe_lst pa_nil) (pa_cons (pv 2) pa_nil)) (by rfl))
    (pss_cons (ps_for PassesOwn.never (by rfl) (pi_range1 (by rfl) T.n_range (pa_cons (pv 1) pa_nil)) (pg_name (i := 5) nd (by rfl) (Or.inl rfl)) (pss_cons (ps_set (i := 4) nd (by rfl) (.inl rfl) (pe_op op_add pe_int (pe_call G__law_draw (hr.mono (by decide)) (by rfl) T.g__law_draw T.F__law_draw.kp T.b__law_draw .nil pass0 (pa_cons (pv 0) (pa_cons (pv 4) pa_nil)))))
    (pss_one (ps_expr (pe_bm PySem.F.plainAttrs_list PySem.F.slot_list_append PySem.F.type_list_append mt_append (pv 3) (pa_cons (pv 4) pa_nil))))))
    (pss_one (ps_ret (pv 3))))), ?_⟩
    unfold m__law_items at h
    try rw [show L2.start N__law_items [V.ref p_source, V.int x_many, V.int x_most] = [some (V.ref p_source), some (V.int x_many), some (V.int x_most), none, none, none] from rfl]
    refine ⟨by show 0 ≤ sizeLine; decide, fun p1 hp1 => ?_⟩
    have hS : Z.St K ((p1, .lst (([] : List Int).map V.int)) :: (p_source, .lst (x_source.map V.int)) :: O) (L) _ := hS.own hp1
    refine ⟨_, rfl, ?_⟩
    refine ⟨_, _, rfl, ?_⟩
    refine ⟨_, rfl, ?_⟩
    obtain ⟨c2, h⟩ := Z.chk_of h
    obtain ⟨res4, hl5, hk6⟩ := Z.bind_of h
    refine ⟨_, rfl, c2.1, c2.2, ?_⟩
    refine Z.for_loop (res := res4) (walk_range (lo := 0) (n := (x_many).toNat)) (Z.upto (0 : Int) x_many) (by rw [Z.upto_len]; simp) (m__law_items_b1) (x_most, ([] : List Int), x_source) hl5 (fun (s : Int × (List Int) × (List Int)) σ H => ∃ (y3 : Option V), σ = [some (V.ref p_source), some (V.int x_many), some (V.int x_most), some (V.ref p1), some (V.int s.1), y3] ∧ Z.St K ((p1, .lst (s.2.1.map V.int)) :: (p_source, .lst (s.2.2.map V.int)) :: O) (L) H) ⟨_, rfl, hS⟩ (fun s σ H iv => ?_) ?_ ?_
    · obtain ⟨y3, rfl, hS⟩ := iv
      trivial
    · rintro s10 σ H ⟨y11, rfl, hS⟩ rfl
      have h := Z.after_of hk6
      refine ⟨_, rfl, ?_⟩
      obtain rfl := Option.some.inj h
      exact q _ _ ((hS.sel 2 [0, 1]).gone 0)
    · intro aft i x v s flres4 σ H H' hx iv hy hb hrres4 hout
      obtain ⟨y3, rfl, hS⟩ := iv
      unfold m__law_items_b1 at hb
      obtain ⟨rfl, hv⟩ := hy
      have hv : v = V.int x := by first | (rw [hv, Z.upto_get hx]; done) | (rw [hv, Z.upto_get hx]; rfl)
      subst hv
      refine ⟨_, rfl, ?_⟩
      refine ⟨_, rfl, ?_⟩
      have hS : Z.St K ((p_source, .lst (s.2.2.map V.int)) :: (p1, .lst (s.2.1.map V.int)) :: O) (L) _ := hS.sel 2 [1, 0]
      obtain ⟨r7, e8, hb⟩ := Z.bind_of hb
      refine ⟨_, _, _, _, _, rfl, hS, _, e8, fun _ hS => ?_⟩
      have hS : Z.St K ((p_source, .lst (r7.2.map V.int)) :: (p1, .lst (s.2.1.map V.int)) :: O) (L) _ := hS
      refine ⟨_, _, rfl, rfl, ?_⟩
      refine ⟨_, rfl, ?_⟩
      refine ⟨.inl ⟨rfl, _, hS.atL (k := 1) rfl⟩, ?_⟩
      refine ⟨_, rfl, ?_⟩
      obtain ⟨c9, hb⟩ := Z.chk_of hb
      refine ⟨_, _, _, rfl, rfl, hS.at (k := 1) rfl, by rw [List.length_map]; exact c9, ?_⟩
      have hS : Z.St K ((p_source, .lst (r7.2.map V.int)) :: (p1, .lst ((s.2.1 ++ [((1 : Int) + r7.1)]).map V.int)) :: O) (L) _ := hS.app (k := 1) rfl
      have hS : Z.St K ((p1, .lst ((s.2.1 ++ [((1 : Int) + r7.1)]).map V.int)) :: (p_source, .lst (r7.2.map V.int)) :: O) (L) _ := hS.sel 2 [1, 0]
      have ee := Option.some.inj hb
      exact ⟨_, ee.symm, ⟨_, rfl, hS⟩⟩
theorem ok__law_spread (T : Tx K mg a fd) : FnOk P w K mg base CX0 1 (a 7) (fd 7) ["things", "needy", "free"] (sp__law_spread K) := by
  have nd := sc__law_spread.nd
  refine T.F__law_spread.ok sc__law_spread (fun vs H Q E h => ?_) (fun cdv A outer s H vs Q E hr hsp => ?_)
  · obtain ⟨_, _, _, _, _, rfl, _⟩ := h
    rfl
  · obtain ⟨O, L, x_things, x_needy, x_free, rfl, hS, r, h, q⟩ := hsp
    refine ⟨_, (pss_cons (ps_set (i := 3) nd (by rfl) (.inl rfl) (pe_op op_catR (pe_lst (pa_cons pe_int pa_nil)) (pe_op op_rep (pe_lst (pa_cons pe_int pa_nil)) (pv 0))))
    (pss_cons (ps_for PassesOwn.never (by rfl) (pi_range1 (by rfl) T.n_range (pa_cons (pe_op op_add (pv 1) (pv 2)) pa_nil)) (pg_name (i := 4) nd (by rfl) (Or.inl rfl)) (pss_one (ps_for PassesOwn.never (by rfl) (pi_range2 (by rfl) T.n_range (pa_cons pe_int (pa_cons (pe_op op_add (pv 0) pe_int) pa_nil))) (pg_name (i := 5) nd (by rfl) (Or.inl rfl)) (pss_one (ps_asg (pe_op op_add (pe_ix ix_list (pv 3) (pv 5) (fun _ _ => rfl)) (pe_ix ix_list (pv 3) (pe_op op_sub (pv 5) pe_int) (fun _ _ => rfl))) (pg_sub (pv 3) (pv 5) set_list))))))
    (pss_one (ps_ret (pe_ix ix_list (pv 3) (pe_op op_sub (pv 0) (pv 1)) (fun _ _ => rfl)))))), ?_⟩
    unfold m__law_spread at h
    try rw [show L2.start N__law_spread [V.int x_things, V.int x_needy, V.int x_free] = [some (V.int x_things), some (V.int x_needy), some (V.int x_free), none, none, none] from rfl]
    refine ⟨by show 1 ≤ sizeLine; decide, fun p1 hp1 => ?_⟩
    have hS : Z.St K ((p1, .lst (([(1 : Int)]).map V.int)) :: O) (L) _ := hS.own hp1
    refine ⟨by show 1 ≤ sizeLine; decide, fun p2 hp2 => ?_⟩
    have hS : Z.St K ((p2, .lst (([(0 : Int)]).map V.int)) :: (p1, .lst (([(1 : Int)]).map V.int)) :: O) (L) _ := hS.own hp2
    refine ⟨_, rfl, ?_⟩
    obtain ⟨c3, h⟩ := Z.chk_of h
    refine ⟨_, _, _, rfl, rfl, hS.at (k := 0) rfl, c3.1, c3.2.1, by rw [List.length_map]; exact c3.2.2, ?_⟩
    rw [Z.rep_map]; intro p4 hp4
    have hS : Z.St K ((p4, .lst ((Z.repL ([(0 : Int)]) x_things).map V.int)) :: (p2, .lst (([(0 : Int)]).map V.int)) :: (p1, .lst (([(1 : Int)]).map V.int)) :: O) (L) _ := hS.own hp4
    obtain ⟨c5, h⟩ := Z.chk_of h
    refine ⟨_, _, _, _, rfl, rfl, (hS.atL (k := 2) rfl), (hS.atL (k := 0) rfl), by rw [List.length_map, List.length_map]; exact c5, fun p6 hp6 => ?_⟩
    rw [← List.map_append]
    have hS : Z.St K ((p6, .lst (([(1 : Int)] ++ (Z.repL ([(0 : Int)]) x_things)).map V.int)) :: (p4, .lst ((Z.repL ([(0 : Int)]) x_things).map V.int)) :: (p2, .lst (([(0 : Int)]).map V.int)) :: (p1, .lst (([(1 : Int)]).map V.int)) :: O) (L) _ := hS.own hp6
    refine ⟨_, rfl, ?_⟩
    refine ⟨_, rfl, ?_⟩
    refine ⟨_, _, rfl, rfl, ?_⟩
    obtain ⟨c7, h⟩ := Z.chk_of h
    obtain ⟨res10, hl11, hk12⟩ := Z.bind_of h
    refine ⟨_, rfl, c7.1, c7.2, ?_⟩
    refine Z.for_loop (res := res10) (walk_range (lo := 0) (n := ((x_needy + x_free)).toNat)) (Z.upto (0 : Int) (x_needy + x_free)) (by rw [Z.upto_len]; simp) (m__law_spread_b2 x_things) (([(1 : Int)] ++ (Z.repL ([(0 : Int)]) x_things))) hl11 (fun (s : (List Int)) σ H => ∃ (y8 : Option V) (y9 : Option V), σ = [some (V.int x_things), some (V.int x_needy), some (V.int x_free), some (V.ref p6), y8, y9] ∧ Z.St K ((p6, .lst (s.map V.int)) :: (p4, .lst ((Z.repL ([(0 : Int)]) x_things).map V.int)) :: (p2, .lst (([(0 : Int)]).map V.int)) :: (p1, .lst (([(1 : Int)]).map V.int)) :: O) (L) H) ⟨_, _, rfl, hS⟩ (fun s σ H iv => ?_) ?_ ?_
    · obtain ⟨y8, y9, rfl, hS⟩ := iv
      trivial
    · rintro s28 σ H ⟨y29, y30, rfl, hS⟩ rfl
      have h := Z.after_of hk12
      refine ⟨_, rfl, ?_⟩
      refine ⟨_, rfl, ?_⟩
      refine ⟨_, rfl, ?_⟩
      refine ⟨_, _, rfl, rfl, ?_⟩
      obtain ⟨x31, e32, h⟩ := Z.bind_of h
      refine ⟨_, _, _, _, rfl, rfl, (hS.atL (k := 0) rfl), Z.atI_f e32, ?_⟩
      obtain rfl := Option.some.inj h
      exact q _ ((hS.sel 4 []).gone 0)
    · intro aft i x v s flres10 σ H H' hx iv hy hb hrres10 hout
      obtain ⟨y8, y9, rfl, hS⟩ := iv
      unfold m__law_spread_b2 at hb
      obtain ⟨rfl, hv⟩ := hy
      have hv : v = V.int x := by first | (rw [hv, Z.upto_get hx]; done) | (rw [hv, Z.upto_get hx]; rfl)
      subst hv
      refine ⟨_, rfl, ?_⟩
      refine ⟨_, _, rfl, rfl, ?_⟩
      obtain ⟨c13, hb⟩ := Z.chk_of hb
      obtain ⟨c14, hb⟩ := Z.chk_of hb
      obtain ⟨res16, hl17, hk18⟩ := Z.bind_of hb
      refine ⟨_, _, rfl, ⟨c13.1, c13.2, c14.1, c14.2⟩, ?_⟩
      refine Z.for_loop (res := res16) walk_range (Z.upto (1 : Int) (x_things + (1 : Int))) (Z.upto_len _ _) (m__law_spread_b1) (s) hl17 (fun (sz : (List Int)) σ H => ∃ (y15 : Option V), σ = [some (V.int x_things), some (V.int x_needy), some (V.int x_free), some (V.ref p6), some (V.int x), y15] ∧ Z.St K ((p6, .lst (sz.map V.int)) :: (p4, .lst ((Z.repL ([(0 : Int)]) x_things).map V.int)) :: (p2, .lst (([(0 : Int)]).map V.int)) :: (p1, .lst (([(1 : Int)]).map V.int)) :: O) (L) H) ⟨_, rfl, hS⟩ (fun s σ H iv => ?_) ?_ ?_
      · obtain ⟨y15, rfl, hS⟩ := iv
        trivial
      · rintro s26 σ H ⟨y27, rfl, hS⟩ rfl
        have hb := Z.afterS_of hk18
        have ee := Option.some.inj hb
        exact ⟨_, ee.symm, ⟨_, _, rfl, hS⟩⟩
      · intro aft iz xz vz sz flres16 σ H H' hxz iv hyz hb hrres16 hout
        obtain ⟨y15, rfl, hS⟩ := iv
        unfold m__law_spread_b1 at hb
        obtain ⟨rfl, hvz⟩ := hyz
        have hvz : vz = V.int xz := by first | (rw [hvz, Z.upto_get hxz]; done) | (rw [hvz, Z.upto_get hxz]; rfl)
        subst hvz
        refine ⟨_, rfl, ?_⟩
        refine ⟨_, rfl, ?_⟩
        obtain ⟨x19, e20, hb⟩ := Z.bind_of hb
        refine ⟨_, _, _, _, rfl, rfl, (hS.atL (k := 0) rfl), Z.atI_f e20, ?_⟩
        refine ⟨_, rfl, ?_⟩
        refine ⟨_, rfl, ?_⟩
        refine ⟨_, _, rfl, rfl, ?_⟩
        obtain ⟨x21, e22, hb⟩ := Z.bind_of hb
        refine ⟨_, _, _, _, rfl, rfl, (hS.atL (k := 0) rfl), Z.atI_f e22, ?_⟩
        refine ⟨_, _, rfl, rfl, ?_⟩
        refine ⟨_, rfl, ?_⟩
        refine ⟨_, rfl, ?_⟩
        obtain ⟨y23, e24, hb⟩ := Z.bind_of hb
        obtain ⟨j25, hj25, ej25⟩ := Z.setI_f (f := V.int) e24
        refine ⟨_, _, _, _, rfl, rfl, hS.at (k := 0) rfl, hj25, ?_⟩
        rw [ej25]
        have hS : Z.St K ((p6, .lst (y23.map V.int)) :: (p4, .lst ((Z.repL ([(0 : Int)]) x_things).map V.int)) :: (p2, .lst (([(0 : Int)]).map V.int)) :: (p1, .lst (([(1 : Int)]).map V.int)) :: O) (L) _ := hS.put (k := 0) rfl
        have ee := Option.some.inj hb
        exact ⟨_, ee.symm, ⟨_, rfl, hS⟩⟩
theorem ok__law_built (T : Tx K mg a fd) : FnOk P w K mg base CX0 2 (a 8) (fd 8) ["items"] (sp__law_built K) := by
  have G__law_spread := ok__law_spread (P := P) (w := w) (base := base) T
  have nd := sc__law_built.nd
  refine T.F__law_built.ok sc__law_built (fun vs H Q E h => ?_) (fun cdv A outer s H vs Q E hr hsp => ?_)
  · obtain ⟨_, _, _, _, rfl, _⟩ := h
    rfl
  · obtain ⟨O, L, v_items, x_items, rfl, hS, iv_items, r, h, q⟩ := hsp
    refine ⟨_, (pss_cons (ps_asg (pe_tup (pa_cons pe_int (pa_cons pe_int (pa_cons pe_int pa_nil)))) (pg_tup (by rfl) (pgs_cons (pg_name (i := 1) nd (by rfl) (Or.inl rfl)) (pgs_cons (pg_name (i := 2) nd (by rfl) (Or.inl rfl)) (pgs_cons (pg_name (i := 3) nd (by rfl) (Or.inl rfl)) pgs_nil)))))
    (pss_cons (ps_for PassesOwn.never (by rfl) (pi_list (pe_revL (pv 0))) (pg_name (i := 4) nd (by rfl) (Or.inl rfl)) (pss_cons (ps_set (i := 1) nd (by rfl) (.inl rfl) (pe_op op_mulW (pv 1) (pe_call G__law_spread (hr.mono (by decide)) (by rfl) T.g__law_spread T.F__law_spread.kp T.b__law_spread .nil pass0 (pa_cons (pv 4) (pa_cons (pv 3) (pa_cons (pe_op op_add (pe_op op_add (pv 2) (pe_op op_sub (pv 2) (pv 3))) pe_int) pa_nil))))))
    (pss_one (ps_par (i := 2) (j := 3) (by rfl) nd (by rfl) (by rfl) (by decide) (by rfl) (by rfl) (pa_cons (pe_op op_add (pv 2) (pv 4)) (pa_cons (pv 4) pa_nil)) (by rfl)))))
    (pss_one (ps_ret (pv 1))))), ?_⟩
    unfold m__law_built at h
    try rw [show L2.start N__law_built [v_items] = [some (v_items), none, none, none, none] from rfl]
    have hS := hS.more (iv_items)
    refine ⟨by show 3 ≤ sizeLine; decide, fun p1 hp1 => ?_⟩
    have hS := hS.grow (Z.same_upd (o := .tup [(V.int (1 : Int)), (V.int (0 : Int)), (V.int (0 : Int))]) hp1)
    have hS : Z.St K (O) (([v_items], [(PyData.list (x_items.map PyData.int))]) :: L) _ := hS
    refine ⟨p1, [_, _, _], rfl, SqT.of upd_same, rfl, _, _, rfl, _, _, rfl, _, _, rfl, rfl, ?_⟩
    refine ⟨_, rfl, ?_⟩
    obtain ⟨a3, ws2, rfl, hqws2, hlws2, hS⟩ := hS.seq (.mem (.head _))
    obtain rfl := hS.areInts (.mem (.head _))
    refine ⟨_, _, rfl, hqws2, fun p4 hp4 => ?_⟩
    rw [← List.map_reverse]
    have hS : Z.St K ((p4, .lst (x_items.reverse.map V.int)) :: O) ((x_items.map V.int, x_items.map PyData.int) :: ([V.ref a3], [(PyData.list (x_items.map PyData.int))]) :: L) _ := hS.own hp4
    obtain ⟨res6, hl7, hk8⟩ := Z.bind_of h
    refine ⟨_, rfl, ⟨_, (hS.atL (k := 0) rfl)⟩, ?_⟩
    refine Z.for_loop (res := res6) (Z.walkL (n := x_items.reverse.length)) x_items.reverse rfl (m__law_built_b1) ((1 : Int), (0 : Int), (0 : Int)) hl7 (fun (s : Int × Int × Int) σ H => ∃ (y5 : Option V), σ = [some (V.ref a3), some (V.int s.1), some (V.int s.2.1), some (V.int s.2.2), y5] ∧ Z.St K ((p4, .lst (x_items.reverse.map V.int)) :: O) ((x_items.map V.int, x_items.map PyData.int) :: ([V.ref a3], [(PyData.list (x_items.map PyData.int))]) :: L) H) ⟨_, rfl, hS⟩ (fun s σ H iv => ?_) ?_ ?_
    · obtain ⟨y5, rfl, hS⟩ := iv
      exact ⟨_, hS.atL (k := 0) rfl, by rw [List.length_map]⟩
    · rintro s12 σ H ⟨y13, rfl, hS⟩ rfl
      have h := Z.after_of hk8
      refine ⟨_, rfl, ?_⟩
      obtain rfl := Option.some.inj h
      exact q _ ((hS.sel 1 []).gone 2)
    · intro aft i x v s flres6 σ H H' hx iv hy hb hrres6 hout
      obtain ⟨y5, rfl, hS⟩ := iv
      unfold m__law_built_b1 at hb
      obtain ⟨rfl, hv⟩ := hy
      obtain rfl := Z.same_at (hv _ (hS.atL (k := 0) rfl)) (Z.map_at (f := V.int) hx)
      refine ⟨_, rfl, ?_⟩
      refine ⟨_, rfl, ?_⟩
      refine ⟨_, rfl, ?_⟩
      refine ⟨_, rfl, ?_⟩
      refine ⟨_, rfl, ?_⟩
      refine ⟨_, rfl, ?_⟩
      refine ⟨_, _, rfl, rfl, ?_⟩
      refine ⟨_, _, rfl, rfl, ?_⟩
      refine ⟨_, _, rfl, rfl, ?_⟩
      obtain ⟨r9, e10, hb⟩ := Z.bind_of hb
      refine ⟨_, _, _, _, _, rfl, hS, _, e10, fun _ hS => ?_⟩
      have hS : Z.St K ((p4, .lst (x_items.reverse.map V.int)) :: O) ((x_items.map V.int, x_items.map PyData.int) :: ([V.ref a3], [(PyData.list (x_items.map PyData.int))]) :: L) _ := hS
      obtain ⟨c11, hb⟩ := Z.chk_of hb
      refine ⟨_, _, rfl, rfl, c11, ?_⟩
      refine ⟨_, rfl, ?_⟩
      refine ⟨_, rfl, ?_⟩
      refine ⟨_, _, rfl, rfl, ?_⟩
      refine ⟨_, rfl, ?_⟩
      refine ⟨_, _, rfl, ?_⟩
      have ee := Option.some.inj hb
      exact ⟨_, ee.symm, ⟨_, rfl, hS⟩⟩
theorem ok_law (T : Tx K mg a fd) : Z.FnG P w K mg base 4 (a 9) (fd 9) ["script"] (sp_law K) := by
  have G__law_source := ok__law_source (P := P) (w := w) (base := base) T
  have G__law_draw := ok__law_draw (P := P) (w := w) (base := base) T
  have G__law_short := ok__law_short (P := P) (w := w) (base := base) T
  have G__law_items := ok__law_items (P := P) (w := w) (base := base) T
  have G_count_traces := ok_count_traces (P := P) (w := w) (base := base) T
  have G__law_built := ok__law_built (P := P) (w := w) (base := base) T
  have nd := sc_law.nd
  refine Z.FnG.of T.F_law sc_law (fun vs H Q E h => ?_) (fun cdv A outer s H vs Q E hr hA hsp => ?_)
  · obtain ⟨_, _, _, _, rfl, _⟩ := h
    rfl
  · obtain ⟨O, L, v_script, x_script, rfl, hS, iv_script, r, h, q⟩ := hsp
    refine ⟨_, (pss_cons (ps_for PassesOwn.never (by rfl) (pi_enum (by rfl) T.n_enumerate (pa_cons (pe_slice sl_list (pe_op op_catR (pv 0) (pe_lst (pa_cons pe_int pa_nil))) po_none (po_some (pe_callB (call_max2 rfl) (by rfl) T.n_max (by decide +kernel) (pa_cons pe_int (pa_cons (pe_callB (call_min2 rfl) (by rfl) T.n_min (by decide +kernel) (pa_cons (pe_callB call_len_seq (by rfl) T.n_len (by decide +kernel) (pa_cons (pv 0) pa_nil)) (pa_cons pe_int pa_nil))) pa_nil))))) pa_nil)) (pg_tup (by rfl) (pgs_cons (pg_name (i := 1) nd (by rfl) (Or.inl rfl)) (pgs_cons (pg_name (i := 2) nd (by rfl) (Or.inl rfl)) pgs_nil))) (pss_cons (ps_set (i := 3) nd (by rfl) (.inl rfl) (pe_call G__law_source (hr.mono (by decide)) (by rfl) T.g__law_source T.F__law_source.kp T.b__law_source .nil pass0 (pa_cons (pv 2) (pa_cons (pv 1) pa_nil))))
    (pss_one (ps_for PassesOwn.never (by rfl) (pi_range1 (by rfl) T.n_range (pa_cons pe_int pa_nil)) (pg_name (i := 4) nd (by rfl) (Or.inl rfl)) (pss_cons (ps_set (i := 5) nd (by rfl) (.inl rfl) (pe_call G__law_draw (hr.mono (by decide)) (by rfl) T.g__law_draw T.F__law_draw.kp T.b__law_draw .nil pass0 (pa_cons (pv 3) (pa_cons (pe_ix ix_list (pe_lst (pa_cons pe_int (pa_cons pe_int pa_nil))) (pe_callTy call_int1 (by rfl) T.n_int (by decide +kernel) (pa_cons (pe_cmpR (op_neD hr.units) (pv 0) (pe_lst pa_nil) (nomark _)) pa_nil)) (fun _ _ => rfl)) pa_nil))))
    (pss_cons (ps_set (i := 6) nd (by rfl) (.inl rfl) (pe_call G__law_short (hr.mono (by decide)) (by rfl) T.g__law_short T.F__law_short.kp T.b__law_short .nil pass0 (pa_cons (pe_call G__law_items (hr.mono (by decide)) (by rfl) T.g__law_items T.F__law_items.kp T.b__law_items .nil pass0 (pa_cons (pv 3) (pa_cons (pv 5) (pa_cons (pe_ix ix_list (pe_lst (pa_cons pe_int (pa_cons pe_int (pa_cons pe_int pa_nil)))) (pe_call G__law_draw (hr.mono (by decide)) (by rfl) T.g__law_draw T.F__law_draw.kp T.b__law_draw .nil pass0 (pa_cons (pv 3) (pa_cons pe_int pa_nil))) (fun _ _ => rfl)) pa_nil)))) (pa_cons pe_int pa_nil))))
    (pss_cons (ps_if (PW.pt (pw_and (pt_cmp (pc_eqI (pe_op op_add (pv 1) (pv 4)) pe_int)) (pw_and1 (pt_cmpR (op_neD hr.units) (pv 0) (pe_lst pa_nil) (nomark _))))) (pss_one (ps_set (i := 6) nd (by rfl) (.inl rfl) (pe_call G__law_short (hr.mono (by decide)) (by rfl) T.g__law_short T.F__law_short.kp T.b__law_short .nil pass0 (pa_cons (pe_call G__law_items (hr.mono (by decide)) (by rfl) T.g__law_items T.F__law_items.kp T.b__law_items .nil pass0 (pa_cons (pv 3) (pa_cons pe_int (pa_cons pe_int pa_nil)))) (pa_cons pe_int pa_nil))))) pss_nil)
    (pss_one (ps_if (pt_cmpR op_ne (pe_callB SkE.call_repr_int (by rfl) T.n_repr (by decide +kernel) (pa_cons (pe_call G_count_traces (hr.mono (by decide)) (by rfl) T.g_count_traces T.F_count_traces.kp T.b_count_traces .nil pass0 (pa_cons (pv 6) pa_nil)) pa_nil)) (pe_callB SkE.call_repr_int (by rfl) T.n_repr (by decide +kernel) (pa_cons (pe_call G__law_built (hr.mono (by decide)) (by rfl) T.g__law_built T.F__law_built.kp T.b__law_built .nil pass0 (pa_cons (pv 6) pa_nil)) pa_nil)) (nomark _)) (pss_one (ps_ret pe_bl)) pss_nil)))))))))
    (pss_one (ps_ret (pe_and (pe_cmp (pc_eqI (pe_call G_count_traces (hr.mono (by decide)) (by rfl) T.g_count_traces T.F_count_traces.kp T.b_count_traces .nil pass0 (pa_cons (pe_lst (pa_cons pe_int pa_nil)) pa_nil)) pe_int)) (pe_and (pe_cmp (pc_eqI (pe_call G_count_traces (hr.mono (by decide)) (by rfl) T.g_count_traces T.F_count_traces.kp T.b_count_traces .nil pass0 (pa_cons (pe_op op_rep (pe_lst (pa_cons pe_int pa_nil)) pe_int) pa_nil)) pe_int)) (pe_one (pe_cmp (pc_eqI (pe_call G_count_traces (hr.mono (by decide)) (by rfl) T.g_count_traces T.F_count_traces.kp T.b_count_traces .nil pass0 (pa_cons (pe_lst (pa_cons pe_int (pa_cons pe_int pa_nil))) pa_nil)) pe_int)))))))), ?_⟩
    unfold m_law at h
    try rw [show L2.start N_law [v_script] = [some (v_script), none, none, none, none, none, none] from rfl]
    have hS := hS.more (iv_script)
    refine ⟨_, rfl, ?_⟩
    refine ⟨by show 1 ≤ sizeLine; decide, fun p1 hp1 => ?_⟩
    have hS : Z.St K ((p1, .lst (([(0 : Int)]).map V.int)) :: O) (([v_script], [(PyData.list (x_script.map PyData.int))]) :: L) _ := hS.own hp1
    obtain ⟨a3, ws2, rfl, hqws2, hlws2, hS⟩ := hS.seq (.mem (.head _))
    obtain rfl := hS.areInts (.mem (.head _))
    obtain ⟨c4, h⟩ := Z.chk_of h
    refine ⟨_, _, _, _, rfl, rfl, hqws2, (hS.atL (k := 0) rfl), by rw [List.length_map, List.length_map]; exact c4, fun p5 hp5 => ?_⟩
    rw [← List.map_append]
    have hS : Z.St K ((p5, .lst ((x_script ++ [(0 : Int)]).map V.int)) :: (p1, .lst (([(0 : Int)]).map V.int)) :: O) ((x_script.map V.int, x_script.map PyData.int) :: ([V.ref a3], [(PyData.list (x_script.map PyData.int))]) :: L) _ := hS.own hp5
    refine ⟨_, rfl, ?_⟩
    obtain ⟨ws6, hqws6, hlws6, hS⟩ := hS.seqAt (.mem (.tail _ (.head _)))
    obtain rfl := hS.areInts (.mem (.head _))
    refine ⟨_, _, rfl, .inl hqws6, ?_⟩
    rw [List.length_map]
    refine ⟨_, _, rfl, ?_⟩
    refine ⟨_, _, rfl, ?_⟩
    refine ⟨_, rfl, ?_⟩
    refine ⟨_, _, rfl, (hS.atL (k := 0) rfl), fun p7 hp7 => ?_⟩
    rw [Z.cut_map]
    have hS : Z.St K ((p7, .lst ((Z.cutL (x_script ++ [(0 : Int)]) none (some (Z.imax (1 : Int) (Z.imin ((x_script.length : Nat) : Int) (6 : Int))))).map V.int)) :: (p5, .lst ((x_script ++ [(0 : Int)]).map V.int)) :: (p1, .lst (([(0 : Int)]).map V.int)) :: O) ((x_script.map V.int, x_script.map PyData.int) :: (x_script.map V.int, x_script.map PyData.int) :: ([V.ref a3], [(PyData.list (x_script.map PyData.int))]) :: L) _ := hS.own hp7
    obtain ⟨res14, hl15, hk16⟩ := Z.bind_of h
    refine ⟨_, _, rfl, (hS.atL (k := 0) rfl), ?_⟩
    refine Z.for_loop (res := res14) (Z.walkE (n := (Z.cutL (x_script ++ [(0 : Int)]) none (some (Z.imax (1 : Int) (Z.imin ((x_script.length : Nat) : Int) (6 : Int))))).length)) (Z.enumZ (Z.cutL (x_script ++ [(0 : Int)]) none (some (Z.imax (1 : Int) (Z.imin ((x_script.length : Nat) : Int) (6 : Int)))))) (Z.enumZ_len _) (m_law_b2 x_script) (()) hl15 (fun (s : Unit) σ H => ∃ (y8 : Option V) (y9 : Option V) (y10 : Option V) (y11 : Option V) (y12 : Option V) (y13 : Option V), σ = [some (V.ref a3), y8, y9, y10, y11, y12, y13] ∧ Z.St K ((p7, .lst ((Z.cutL (x_script ++ [(0 : Int)]) none (some (Z.imax (1 : Int) (Z.imin ((x_script.length : Nat) : Int) (6 : Int))))).map V.int)) :: (p5, .lst ((x_script ++ [(0 : Int)]).map V.int)) :: (p1, .lst (([(0 : Int)]).map V.int)) :: O) ((x_script.map V.int, x_script.map PyData.int) :: (x_script.map V.int, x_script.map PyData.int) :: ([V.ref a3], [(PyData.list (x_script.map PyData.int))]) :: L) H) ⟨_, _, _, _, _, _, rfl, hS⟩ (fun s σ H iv => ?_) ?_ ?_
    · obtain ⟨y8, y9, y10, y11, y12, y13, rfl, hS⟩ := iv
      exact ⟨_, hS.atL (k := 0) rfl, by rw [List.length_map]⟩
    · rintro s69 σ H ⟨y70, y71, y72, y73, y74, y75, rfl, hS⟩ rfl
      have h := Z.after_of hk16
      obtain ⟨st76, hb77, h⟩ := Z.bind_of h
      first | with_reducible (show tAndV _ _ _ _ _) | (refine Z.ifsS ?_; with_reducible (show tAndV _ _ _ _ _)) | (refine Z.ifsI ?_; with_reducible (show tAndV _ _ _ _ _)) | (refine Z.gnS ?_; dsimp only; refine Z.ifsS ?_; show tAndV _ _ _ _ _) | (refine Z.gnS ?_; dsimp only; refine Z.ifsI ?_; show tAndV _ _ _ _ _) | show tAndV _ _ _ _ _ | (refine Z.ifsS ?_; show tAndV _ _ _ _ _) | (refine Z.ifsI ?_; show tAndV _ _ _ _ _) | (refine Z.gnS ?_; dsimp only; with_reducible (show tAndV _ _ _ _ _)) | (refine Z.gnS ?_; dsimp only; show tAndV _ _ _ _ _) | (dsimp only [gName]; show tAndV _ _ _ _ _) | (dsimp only [gName, tIfS, tRet, tSeq, tAsg, tPar, tNext]; show tAndV _ _ _ _ _) | (dsimp only [gName, tIfS, tRet, tSeq, tAsg, tPar, tNext, tCons, tOp, tNot, tB, tTest, tCall, Z.tCallP, tUn]; show tAndV _ _ _ _ _)
      refine Z.joinE' (fun vq H' => vq = (V.bl st76) ∧ Z.St K ((p7, .lst ((Z.cutL (x_script ++ [(0 : Int)]) none (some (Z.imax (1 : Int) (Z.imin ((x_script.length : Nat) : Int) (6 : Int))))).map V.int)) :: (p5, .lst ((x_script ++ [(0 : Int)]).map V.int)) :: (p1, .lst (([(0 : Int)]).map V.int)) :: O) ((x_script.map V.int, x_script.map PyData.int) :: (x_script.map V.int, x_script.map PyData.int) :: ([V.ref a3], [(PyData.list (x_script.map PyData.int))]) :: L) H') (fun go => ?_) ?_
      · refine ⟨by show 1 ≤ sizeLine; decide, fun p78 hp78 => ?_⟩
        have hS : Z.St K ((p78, .lst (([(300 : Int)]).map V.int)) :: (p7, .lst ((Z.cutL (x_script ++ [(0 : Int)]) none (some (Z.imax (1 : Int) (Z.imin ((x_script.length : Nat) : Int) (6 : Int))))).map V.int)) :: (p5, .lst ((x_script ++ [(0 : Int)]).map V.int)) :: (p1, .lst (([(0 : Int)]).map V.int)) :: O) ((x_script.map V.int, x_script.map PyData.int) :: (x_script.map V.int, x_script.map PyData.int) :: ([V.ref a3], [(PyData.list (x_script.map PyData.int))]) :: L) _ := hS.own hp78
        have hS : Z.St K ((p7, .lst ((Z.cutL (x_script ++ [(0 : Int)]) none (some (Z.imax (1 : Int) (Z.imin ((x_script.length : Nat) : Int) (6 : Int))))).map V.int)) :: (p5, .lst ((x_script ++ [(0 : Int)]).map V.int)) :: (p1, .lst (([(0 : Int)]).map V.int)) :: O) (([V.ref p78], [(PyData.list (([(300 : Int)]).map PyData.int))]) :: (x_script.map V.int, x_script.map PyData.int) :: (x_script.map V.int, x_script.map PyData.int) :: ([V.ref a3], [(PyData.list (x_script.map PyData.int))]) :: L) _ := hS.freeze (Its.ints _)
        obtain ⟨r79, e80, hb77⟩ := Z.bind_of hb77
        refine ⟨_, _, _, ([(300 : Int)]), rfl, hS, (.mem (.head _)), _, e80, fun _ hS => ?_⟩
        have hS : Z.St K ((p7, .lst ((Z.cutL (x_script ++ [(0 : Int)]) none (some (Z.imax (1 : Int) (Z.imin ((x_script.length : Nat) : Int) (6 : Int))))).map V.int)) :: (p5, .lst ((x_script ++ [(0 : Int)]).map V.int)) :: (p1, .lst (([(0 : Int)]).map V.int)) :: O) (([V.ref p78], [(PyData.list (([(300 : Int)]).map PyData.int))]) :: (x_script.map V.int, x_script.map PyData.int) :: (x_script.map V.int, x_script.map PyData.int) :: ([V.ref a3], [(PyData.list (x_script.map PyData.int))]) :: L) _ := hS
        refine ⟨_, _, rfl, rfl, ?_⟩
        refine ⟨_, rfl, ?_⟩
        refine Z.iteS (fun hc => ?_) (fun hc => ?_)
        · have hb77 := Z.if_t hc hb77
          obtain ⟨st81, hb82, hb77⟩ := Z.bind_of hb77
          first | with_reducible (show tAndV _ _ _ _ _) | (refine Z.ifsS ?_; with_reducible (show tAndV _ _ _ _ _)) | (refine Z.ifsI ?_; with_reducible (show tAndV _ _ _ _ _)) | (refine Z.gnS ?_; dsimp only; refine Z.ifsS ?_; show tAndV _ _ _ _ _) | (refine Z.gnS ?_; dsimp only; refine Z.ifsI ?_; show tAndV _ _ _ _ _) | show tAndV _ _ _ _ _ | (refine Z.ifsS ?_; show tAndV _ _ _ _ _) | (refine Z.ifsI ?_; show tAndV _ _ _ _ _) | (refine Z.gnS ?_; dsimp only; with_reducible (show tAndV _ _ _ _ _)) | (refine Z.gnS ?_; dsimp only; show tAndV _ _ _ _ _) | (dsimp only [gName]; show tAndV _ _ _ _ _) | (dsimp only [gName, tIfS, tRet, tSeq, tAsg, tPar, tNext]; show tAndV _ _ _ _ _) | (dsimp only [gName, tIfS, tRet, tSeq, tAsg, tPar, tNext, tCons, tOp, tNot, tB, tTest, tCall, Z.tCallP, tUn]; show tAndV _ _ _ _ _)
          refine Z.joinE' (fun vq H' => vq = (V.bl st81) ∧ Z.St K ((p7, .lst ((Z.cutL (x_script ++ [(0 : Int)]) none (some (Z.imax (1 : Int) (Z.imin ((x_script.length : Nat) : Int) (6 : Int))))).map V.int)) :: (p5, .lst ((x_script ++ [(0 : Int)]).map V.int)) :: (p1, .lst (([(0 : Int)]).map V.int)) :: O) (([V.ref p78], [(PyData.list (([(300 : Int)]).map PyData.int))]) :: (x_script.map V.int, x_script.map PyData.int) :: (x_script.map V.int, x_script.map PyData.int) :: ([V.ref a3], [(PyData.list (x_script.map PyData.int))]) :: L) H') (fun go => ?_) ?_
          · refine ⟨by show 1 ≤ sizeLine; decide, fun p83 hp83 => ?_⟩
            have hS : Z.St K ((p83, .lst (([(1 : Int)]).map V.int)) :: (p7, .lst ((Z.cutL (x_script ++ [(0 : Int)]) none (some (Z.imax (1 : Int) (Z.imin ((x_script.length : Nat) : Int) (6 : Int))))).map V.int)) :: (p5, .lst ((x_script ++ [(0 : Int)]).map V.int)) :: (p1, .lst (([(0 : Int)]).map V.int)) :: O) (([V.ref p78], [(PyData.list (([(300 : Int)]).map PyData.int))]) :: (x_script.map V.int, x_script.map PyData.int) :: (x_script.map V.int, x_script.map PyData.int) :: ([V.ref a3], [(PyData.list (x_script.map PyData.int))]) :: L) _ := hS.own hp83
            obtain ⟨c84, hb82⟩ := Z.chk_of hb82
            refine ⟨_, _, _, rfl, rfl, hS.at (k := 0) rfl, c84.1, c84.2.1, by rw [List.length_map]; exact c84.2.2, ?_⟩
            rw [Z.rep_map]; intro p85 hp85
            have hS : Z.St K ((p85, .lst ((Z.repL ([(1 : Int)]) (300 : Int)).map V.int)) :: (p83, .lst (([(1 : Int)]).map V.int)) :: (p7, .lst ((Z.cutL (x_script ++ [(0 : Int)]) none (some (Z.imax (1 : Int) (Z.imin ((x_script.length : Nat) : Int) (6 : Int))))).map V.int)) :: (p5, .lst ((x_script ++ [(0 : Int)]).map V.int)) :: (p1, .lst (([(0 : Int)]).map V.int)) :: O) (([V.ref p78], [(PyData.list (([(300 : Int)]).map PyData.int))]) :: (x_script.map V.int, x_script.map PyData.int) :: (x_script.map V.int, x_script.map PyData.int) :: ([V.ref a3], [(PyData.list (x_script.map PyData.int))]) :: L) _ := hS.own hp85
            have hS : Z.St K ((p83, .lst (([(1 : Int)]).map V.int)) :: (p7, .lst ((Z.cutL (x_script ++ [(0 : Int)]) none (some (Z.imax (1 : Int) (Z.imin ((x_script.length : Nat) : Int) (6 : Int))))).map V.int)) :: (p5, .lst ((x_script ++ [(0 : Int)]).map V.int)) :: (p1, .lst (([(0 : Int)]).map V.int)) :: O) (([V.ref p85], [(PyData.list ((Z.repL ([(1 : Int)]) (300 : Int)).map PyData.int))]) :: ([V.ref p78], [(PyData.list (([(300 : Int)]).map PyData.int))]) :: (x_script.map V.int, x_script.map PyData.int) :: (x_script.map V.int, x_script.map PyData.int) :: ([V.ref a3], [(PyData.list (x_script.map PyData.int))]) :: L) _ := hS.freeze (Its.ints _)
            obtain ⟨r86, e87, hb82⟩ := Z.bind_of hb82
            refine ⟨_, _, _, (Z.repL ([(1 : Int)]) (300 : Int)), rfl, hS, (.mem (.head _)), _, e87, fun _ hS => ?_⟩
            have hS : Z.St K ((p83, .lst (([(1 : Int)]).map V.int)) :: (p7, .lst ((Z.cutL (x_script ++ [(0 : Int)]) none (some (Z.imax (1 : Int) (Z.imin ((x_script.length : Nat) : Int) (6 : Int))))).map V.int)) :: (p5, .lst ((x_script ++ [(0 : Int)]).map V.int)) :: (p1, .lst (([(0 : Int)]).map V.int)) :: O) (([V.ref p85], [(PyData.list ((Z.repL ([(1 : Int)]) (300 : Int)).map PyData.int))]) :: ([V.ref p78], [(PyData.list (([(300 : Int)]).map PyData.int))]) :: (x_script.map V.int, x_script.map PyData.int) :: (x_script.map V.int, x_script.map PyData.int) :: ([V.ref a3], [(PyData.list (x_script.map PyData.int))]) :: L) _ := hS
            refine ⟨_, _, rfl, rfl, ?_⟩
            refine ⟨_, rfl, ?_⟩
            refine Z.iteS (fun hc => ?_) (fun hc => ?_)
            · have hb82 := Z.if_t hc hb82
              refine ⟨by show 2 ≤ sizeLine; decide, fun p88 hp88 => ?_⟩
              have hS : Z.St K ((p88, .lst (([(2 : Int), (1 : Int)]).map V.int)) :: (p83, .lst (([(1 : Int)]).map V.int)) :: (p7, .lst ((Z.cutL (x_script ++ [(0 : Int)]) none (some (Z.imax (1 : Int) (Z.imin ((x_script.length : Nat) : Int) (6 : Int))))).map V.int)) :: (p5, .lst ((x_script ++ [(0 : Int)]).map V.int)) :: (p1, .lst (([(0 : Int)]).map V.int)) :: O) (([V.ref p85], [(PyData.list ((Z.repL ([(1 : Int)]) (300 : Int)).map PyData.int))]) :: ([V.ref p78], [(PyData.list (([(300 : Int)]).map PyData.int))]) :: (x_script.map V.int, x_script.map PyData.int) :: (x_script.map V.int, x_script.map PyData.int) :: ([V.ref a3], [(PyData.list (x_script.map PyData.int))]) :: L) _ := hS.own hp88
              have hS : Z.St K ((p83, .lst (([(1 : Int)]).map V.int)) :: (p7, .lst ((Z.cutL (x_script ++ [(0 : Int)]) none (some (Z.imax (1 : Int) (Z.imin ((x_script.length : Nat) : Int) (6 : Int))))).map V.int)) :: (p5, .lst ((x_script ++ [(0 : Int)]).map V.int)) :: (p1, .lst (([(0 : Int)]).map V.int)) :: O) (([V.ref p88], [(PyData.list (([(2 : Int), (1 : Int)]).map PyData.int))]) :: ([V.ref p85], [(PyData.list ((Z.repL ([(1 : Int)]) (300 : Int)).map PyData.int))]) :: ([V.ref p78], [(PyData.list (([(300 : Int)]).map PyData.int))]) :: (x_script.map V.int, x_script.map PyData.int) :: (x_script.map V.int, x_script.map PyData.int) :: ([V.ref a3], [(PyData.list (x_script.map PyData.int))]) :: L) _ := hS.freeze (Its.ints _)
              obtain ⟨r89, e90, hb82⟩ := Z.bind_of hb82
              refine ⟨_, _, _, ([(2 : Int), (1 : Int)]), rfl, hS, (.mem (.head _)), _, e90, fun _ hS => ?_⟩
              have hS : Z.St K ((p83, .lst (([(1 : Int)]).map V.int)) :: (p7, .lst ((Z.cutL (x_script ++ [(0 : Int)]) none (some (Z.imax (1 : Int) (Z.imin ((x_script.length : Nat) : Int) (6 : Int))))).map V.int)) :: (p5, .lst ((x_script ++ [(0 : Int)]).map V.int)) :: (p1, .lst (([(0 : Int)]).map V.int)) :: O) (([V.ref p88], [(PyData.list (([(2 : Int), (1 : Int)]).map PyData.int))]) :: ([V.ref p85], [(PyData.list ((Z.repL ([(1 : Int)]) (300 : Int)).map PyData.int))]) :: ([V.ref p78], [(PyData.list (([(300 : Int)]).map PyData.int))]) :: (x_script.map V.int, x_script.map PyData.int) :: (x_script.map V.int, x_script.map PyData.int) :: ([V.ref a3], [(PyData.list (x_script.map PyData.int))]) :: L) _ := hS
              refine ⟨_, _, rfl, rfl, ?_⟩
              have hS : Z.St K ((p7, .lst ((Z.cutL (x_script ++ [(0 : Int)]) none (some (Z.imax (1 : Int) (Z.imin ((x_script.length : Nat) : Int) (6 : Int))))).map V.int)) :: (p5, .lst ((x_script ++ [(0 : Int)]).map V.int)) :: (p1, .lst (([(0 : Int)]).map V.int)) :: O) (([V.ref p88], [(PyData.list (([(2 : Int), (1 : Int)]).map PyData.int))]) :: ([V.ref p85], [(PyData.list ((Z.repL ([(1 : Int)]) (300 : Int)).map PyData.int))]) :: ([V.ref p78], [(PyData.list (([(300 : Int)]).map PyData.int))]) :: (x_script.map V.int, x_script.map PyData.int) :: (x_script.map V.int, x_script.map PyData.int) :: ([V.ref a3], [(PyData.list (x_script.map PyData.int))]) :: L) _ := hS.sel 4 [1, 2, 3]
              have hS : Z.St K ((p7, .lst ((Z.cutL (x_script ++ [(0 : Int)]) none (some (Z.imax (1 : Int) (Z.imin ((x_script.length : Nat) : Int) (6 : Int))))).map V.int)) :: (p5, .lst ((x_script ++ [(0 : Int)]).map V.int)) :: (p1, .lst (([(0 : Int)]).map V.int)) :: O) (([V.ref p78], [(PyData.list (([(300 : Int)]).map PyData.int))]) :: (x_script.map V.int, x_script.map PyData.int) :: (x_script.map V.int, x_script.map PyData.int) :: ([V.ref a3], [(PyData.list (x_script.map PyData.int))]) :: L) _ := hS.cut 0 2
              obtain rfl := Option.some.inj hb82
              exact go _ _ ⟨rfl, hS⟩
            · have hb82 := Z.if_f hc hb82
              have hS : Z.St K ((p7, .lst ((Z.cutL (x_script ++ [(0 : Int)]) none (some (Z.imax (1 : Int) (Z.imin ((x_script.length : Nat) : Int) (6 : Int))))).map V.int)) :: (p5, .lst ((x_script ++ [(0 : Int)]).map V.int)) :: (p1, .lst (([(0 : Int)]).map V.int)) :: O) (([V.ref p85], [(PyData.list ((Z.repL ([(1 : Int)]) (300 : Int)).map PyData.int))]) :: ([V.ref p78], [(PyData.list (([(300 : Int)]).map PyData.int))]) :: (x_script.map V.int, x_script.map PyData.int) :: (x_script.map V.int, x_script.map PyData.int) :: ([V.ref a3], [(PyData.list (x_script.map PyData.int))]) :: L) _ := hS.sel 4 [1, 2, 3]
              have hS : Z.St K ((p7, .lst ((Z.cutL (x_script ++ [(0 : Int)]) none (some (Z.imax (1 : Int) (Z.imin ((x_script.length : Nat) : Int) (6 : Int))))).map V.int)) :: (p5, .lst ((x_script ++ [(0 : Int)]).map V.int)) :: (p1, .lst (([(0 : Int)]).map V.int)) :: O) (([V.ref p78], [(PyData.list (([(300 : Int)]).map PyData.int))]) :: (x_script.map V.int, x_script.map PyData.int) :: (x_script.map V.int, x_script.map PyData.int) :: ([V.ref a3], [(PyData.list (x_script.map PyData.int))]) :: L) _ := hS.cut 0 1
              obtain rfl := Option.some.inj hb82
              exact go _ _ ⟨rfl, hS⟩
          rintro _ _ ⟨rfl, hS⟩
          have hS : Z.St K ((p7, .lst ((Z.cutL (x_script ++ [(0 : Int)]) none (some (Z.imax (1 : Int) (Z.imin ((x_script.length : Nat) : Int) (6 : Int))))).map V.int)) :: (p5, .lst ((x_script ++ [(0 : Int)]).map V.int)) :: (p1, .lst (([(0 : Int)]).map V.int)) :: O) ((x_script.map V.int, x_script.map PyData.int) :: (x_script.map V.int, x_script.map PyData.int) :: ([V.ref a3], [(PyData.list (x_script.map PyData.int))]) :: L) _ := hS.cut 0 1
          obtain rfl := Option.some.inj hb77
          exact go _ _ ⟨rfl, hS⟩
        · have hb77 := Z.if_f hc hb77
          have hS : Z.St K ((p7, .lst ((Z.cutL (x_script ++ [(0 : Int)]) none (some (Z.imax (1 : Int) (Z.imin ((x_script.length : Nat) : Int) (6 : Int))))).map V.int)) :: (p5, .lst ((x_script ++ [(0 : Int)]).map V.int)) :: (p1, .lst (([(0 : Int)]).map V.int)) :: O) ((x_script.map V.int, x_script.map PyData.int) :: (x_script.map V.int, x_script.map PyData.int) :: ([V.ref a3], [(PyData.list (x_script.map PyData.int))]) :: L) _ := hS.cut 0 1
          obtain rfl := Option.some.inj hb77
          exact go _ _ ⟨rfl, hS⟩
      rintro _ _ ⟨rfl, hS⟩
      obtain rfl := Option.some.inj h
      exact q _ ((hS.sel 3 []).gone 3)
    · intro aft i x v s flres14 σ H H' hx iv hy hb hrres14 hout
      obtain ⟨y8, y9, y10, y11, y12, y13, rfl, hS⟩ := iv
      unfold m_law_b2 at hb
      obtain ⟨h1, h2⟩ := Z.enumZ_get hx
      rw [← h1] at hy
      obtain ⟨tp, y, rfl, np, rfl, hv⟩ := hy
      obtain rfl := Z.same_at (hv _ (hS.atL (k := 0) rfl)) (Z.map_at (f := V.int) h2)
      have hS := hS.grow (Z.same_upd (o := .tup [V.int x.1, (V.int x.2)]) np)
      have hS : Z.St K ((p7, .lst ((Z.cutL (x_script ++ [(0 : Int)]) none (some (Z.imax (1 : Int) (Z.imin ((x_script.length : Nat) : Int) (6 : Int))))).map V.int)) :: (p5, .lst ((x_script ++ [(0 : Int)]).map V.int)) :: (p1, .lst (([(0 : Int)]).map V.int)) :: O) ((x_script.map V.int, x_script.map PyData.int) :: (x_script.map V.int, x_script.map PyData.int) :: ([V.ref a3], [(PyData.list (x_script.map PyData.int))]) :: L) _ := hS
      refine ⟨tp, [_, _], rfl, SqT.of upd_same, rfl, _, [_], rfl, ?_⟩
      refine ⟨_, [], rfl, ?_⟩
      refine ⟨rfl, ?_⟩
      refine ⟨_, rfl, ?_⟩
      refine ⟨_, rfl, ?_⟩
      obtain ⟨r17, e18, hb⟩ := Z.bind_of hb
      refine ⟨_, _, _, _, rfl, hS, _, e18, fun p19 _ hS => ?_⟩
      have hS : Z.St K ((p19, .lst (r17.map V.int)) :: (p7, .lst ((Z.cutL (x_script ++ [(0 : Int)]) none (some (Z.imax (1 : Int) (Z.imin ((x_script.length : Nat) : Int) (6 : Int))))).map V.int)) :: (p5, .lst ((x_script ++ [(0 : Int)]).map V.int)) :: (p1, .lst (([(0 : Int)]).map V.int)) :: O) ((x_script.map V.int, x_script.map PyData.int) :: (x_script.map V.int, x_script.map PyData.int) :: ([V.ref a3], [(PyData.list (x_script.map PyData.int))]) :: L) _ := hS
      obtain ⟨c20, hb⟩ := Z.chk_of hb
      obtain ⟨res24, hl25, hk26⟩ := Z.bind_of hb
      refine ⟨_, rfl, c20.1, c20.2, ?_⟩
      refine Z.for_loop (res := res24) (walk_range (lo := 0) (n := ((2 : Int)).toNat)) (Z.upto (0 : Int) (2 : Int)) (by rw [Z.upto_len]; simp) (m_law_b1 x_script x) (r17) hl25 (fun (sz : (List Int)) σ H => ∃ (y21 : Option V) (y22 : Option V) (y23 : Option V), σ = [some (V.ref a3), some (V.int x.1), some (V.int x.2), some (V.ref p19), y21, y22, y23] ∧ Z.St K ((p19, .lst (sz.map V.int)) :: (p7, .lst ((Z.cutL (x_script ++ [(0 : Int)]) none (some (Z.imax (1 : Int) (Z.imin ((x_script.length : Nat) : Int) (6 : Int))))).map V.int)) :: (p5, .lst ((x_script ++ [(0 : Int)]).map V.int)) :: (p1, .lst (([(0 : Int)]).map V.int)) :: O) ((x_script.map V.int, x_script.map PyData.int) :: (x_script.map V.int, x_script.map PyData.int) :: ([V.ref a3], [(PyData.list (x_script.map PyData.int))]) :: L) H) ⟨_, _, _, rfl, hS⟩ (fun s σ H iv => ?_) ?_ ?_
      · obtain ⟨y21, y22, y23, rfl, hS⟩ := iv
        trivial
      · rintro s65 σ H ⟨y66, y67, y68, rfl, hS⟩ rfl
        have hb := Z.afterS_of hk26
        have hS : Z.St K ((p7, .lst ((Z.cutL (x_script ++ [(0 : Int)]) none (some (Z.imax (1 : Int) (Z.imin ((x_script.length : Nat) : Int) (6 : Int))))).map V.int)) :: (p5, .lst ((x_script ++ [(0 : Int)]).map V.int)) :: (p1, .lst (([(0 : Int)]).map V.int)) :: O) ((x_script.map V.int, x_script.map PyData.int) :: (x_script.map V.int, x_script.map PyData.int) :: ([V.ref a3], [(PyData.list (x_script.map PyData.int))]) :: L) _ := hS.sel 4 [1, 2, 3]
        have ee := Option.some.inj hb
        exact ⟨_, ee.symm, ⟨_, _, _, _, _, _, rfl, hS⟩⟩
      · intro aft iz xz vz sz flres24 σ H H' hxz iv hyz hb hrres24 hout
        obtain ⟨y21, y22, y23, rfl, hS⟩ := iv
        unfold m_law_b1 at hb
        obtain ⟨rfl, hvz⟩ := hyz
        have hvz : vz = V.int xz := by first | (rw [hvz, Z.upto_get hxz]; done) | (rw [hvz, Z.upto_get hxz]; rfl)
        subst hvz
        refine ⟨_, rfl, ?_⟩
        refine ⟨by show 2 ≤ sizeLine; decide, fun p27 hp27 => ?_⟩
        have hS : Z.St K ((p27, .lst (([(5 : Int), (13 : Int)]).map V.int)) :: (p19, .lst (sz.map V.int)) :: (p7, .lst ((Z.cutL (x_script ++ [(0 : Int)]) none (some (Z.imax (1 : Int) (Z.imin ((x_script.length : Nat) : Int) (6 : Int))))).map V.int)) :: (p5, .lst ((x_script ++ [(0 : Int)]).map V.int)) :: (p1, .lst (([(0 : Int)]).map V.int)) :: O) ((x_script.map V.int, x_script.map PyData.int) :: (x_script.map V.int, x_script.map PyData.int) :: ([V.ref a3], [(PyData.list (x_script.map PyData.int))]) :: L) _ := hS.own hp27
        refine ⟨_, rfl, ?_⟩
        refine ⟨by show 0 ≤ sizeLine; decide, fun p28 hp28 => ?_⟩
        have hS : Z.St K ((p28, .lst (([] : List Int).map V.int)) :: (p27, .lst (([(5 : Int), (13 : Int)]).map V.int)) :: (p19, .lst (sz.map V.int)) :: (p7, .lst ((Z.cutL (x_script ++ [(0 : Int)]) none (some (Z.imax (1 : Int) (Z.imin ((x_script.length : Nat) : Int) (6 : Int))))).map V.int)) :: (p5, .lst ((x_script ++ [(0 : Int)]).map V.int)) :: (p1, .lst (([(0 : Int)]).map V.int)) :: O) ((x_script.map V.int, x_script.map PyData.int) :: (x_script.map V.int, x_script.map PyData.int) :: ([V.ref a3], [(PyData.list (x_script.map PyData.int))]) :: L) _ := hS.own hp28
        obtain ⟨c29, hb⟩ := Z.chk_of hb
        refine ⟨_, _, (hS.dp (.mem (.tail _ (.tail _ (.head _))))), (hS.dpO (k := 0) rfl (Its.ints _)), c29.1, c29.2, ?_⟩
        refine .inr ⟨_, rfl, ?_⟩
        obtain ⟨x30, e31, hb⟩ := Z.bind_of hb
        refine ⟨_, _, _, _, rfl, rfl, (hS.atL (k := 1) rfl), Z.atI_f e31, ?_⟩
        have hS : Z.St K ((p19, .lst (sz.map V.int)) :: (p28, .lst (([] : List Int).map V.int)) :: (p27, .lst (([(5 : Int), (13 : Int)]).map V.int)) :: (p7, .lst ((Z.cutL (x_script ++ [(0 : Int)]) none (some (Z.imax (1 : Int) (Z.imin ((x_script.length : Nat) : Int) (6 : Int))))).map V.int)) :: (p5, .lst ((x_script ++ [(0 : Int)]).map V.int)) :: (p1, .lst (([(0 : Int)]).map V.int)) :: O) ((x_script.map V.int, x_script.map PyData.int) :: (x_script.map V.int, x_script.map PyData.int) :: ([V.ref a3], [(PyData.list (x_script.map PyData.int))]) :: L) _ := hS.sel 6 [2, 0, 1, 3, 4, 5]
        obtain ⟨r32, e33, hb⟩ := Z.bind_of hb
        refine ⟨_, _, _, _, _, rfl, hS, _, e33, fun _ hS => ?_⟩
        have hS : Z.St K ((p19, .lst (r32.2.map V.int)) :: (p28, .lst (([] : List Int).map V.int)) :: (p27, .lst (([(5 : Int), (13 : Int)]).map V.int)) :: (p7, .lst ((Z.cutL (x_script ++ [(0 : Int)]) none (some (Z.imax (1 : Int) (Z.imin ((x_script.length : Nat) : Int) (6 : Int))))).map V.int)) :: (p5, .lst ((x_script ++ [(0 : Int)]).map V.int)) :: (p1, .lst (([(0 : Int)]).map V.int)) :: O) ((x_script.map V.int, x_script.map PyData.int) :: (x_script.map V.int, x_script.map PyData.int) :: ([V.ref a3], [(PyData.list (x_script.map PyData.int))]) :: L) _ := hS
        refine ⟨_, rfl, ?_⟩
        refine ⟨_, rfl, ?_⟩
        refine ⟨by show 3 ≤ sizeLine; decide, fun p34 hp34 => ?_⟩
        have hS : Z.St K ((p34, .lst (([(3 : Int), (9 : Int), (30 : Int)]).map V.int)) :: (p19, .lst (r32.2.map V.int)) :: (p28, .lst (([] : List Int).map V.int)) :: (p27, .lst (([(5 : Int), (13 : Int)]).map V.int)) :: (p7, .lst ((Z.cutL (x_script ++ [(0 : Int)]) none (some (Z.imax (1 : Int) (Z.imin ((x_script.length : Nat) : Int) (6 : Int))))).map V.int)) :: (p5, .lst ((x_script ++ [(0 : Int)]).map V.int)) :: (p1, .lst (([(0 : Int)]).map V.int)) :: O) ((x_script.map V.int, x_script.map PyData.int) :: (x_script.map V.int, x_script.map PyData.int) :: ([V.ref a3], [(PyData.list (x_script.map PyData.int))]) :: L) _ := hS.own hp34
        refine ⟨_, rfl, ?_⟩
        have hS : Z.St K ((p19, .lst (r32.2.map V.int)) :: (p34, .lst (([(3 : Int), (9 : Int), (30 : Int)]).map V.int)) :: (p28, .lst (([] : List Int).map V.int)) :: (p27, .lst (([(5 : Int), (13 : Int)]).map V.int)) :: (p7, .lst ((Z.cutL (x_script ++ [(0 : Int)]) none (some (Z.imax (1 : Int) (Z.imin ((x_script.length : Nat) : Int) (6 : Int))))).map V.int)) :: (p5, .lst ((x_script ++ [(0 : Int)]).map V.int)) :: (p1, .lst (([(0 : Int)]).map V.int)) :: O) ((x_script.map V.int, x_script.map PyData.int) :: (x_script.map V.int, x_script.map PyData.int) :: ([V.ref a3], [(PyData.list (x_script.map PyData.int))]) :: L) _ := hS.sel 7 [1, 0, 2, 3, 4, 5, 6]
        obtain ⟨r35, e36, hb⟩ := Z.bind_of hb
        refine ⟨_, _, _, _, _, rfl, hS, _, e36, fun _ hS => ?_⟩
        have hS : Z.St K ((p19, .lst (r35.2.map V.int)) :: (p34, .lst (([(3 : Int), (9 : Int), (30 : Int)]).map V.int)) :: (p28, .lst (([] : List Int).map V.int)) :: (p27, .lst (([(5 : Int), (13 : Int)]).map V.int)) :: (p7, .lst ((Z.cutL (x_script ++ [(0 : Int)]) none (some (Z.imax (1 : Int) (Z.imin ((x_script.length : Nat) : Int) (6 : Int))))).map V.int)) :: (p5, .lst ((x_script ++ [(0 : Int)]).map V.int)) :: (p1, .lst (([(0 : Int)]).map V.int)) :: O) ((x_script.map V.int, x_script.map PyData.int) :: (x_script.map V.int, x_script.map PyData.int) :: ([V.ref a3], [(PyData.list (x_script.map PyData.int))]) :: L) _ := hS
        obtain ⟨x37, e38, hb⟩ := Z.bind_of hb
        refine ⟨_, _, _, _, rfl, rfl, (hS.atL (k := 1) rfl), Z.atI_f e38, ?_⟩
        obtain ⟨r39, e40, hb⟩ := Z.bind_of hb
        refine ⟨_, _, _, _, _, _, rfl, hS, _, e40, fun p41 _ hS => ?_⟩
        have hS : Z.St K ((p41, .lst (r39.1.map V.int)) :: (p19, .lst (r39.2.map V.int)) :: (p34, .lst (([(3 : Int), (9 : Int), (30 : Int)]).map V.int)) :: (p28, .lst (([] : List Int).map V.int)) :: (p27, .lst (([(5 : Int), (13 : Int)]).map V.int)) :: (p7, .lst ((Z.cutL (x_script ++ [(0 : Int)]) none (some (Z.imax (1 : Int) (Z.imin ((x_script.length : Nat) : Int) (6 : Int))))).map V.int)) :: (p5, .lst ((x_script ++ [(0 : Int)]).map V.int)) :: (p1, .lst (([(0 : Int)]).map V.int)) :: O) ((x_script.map V.int, x_script.map PyData.int) :: (x_script.map V.int, x_script.map PyData.int) :: ([V.ref a3], [(PyData.list (x_script.map PyData.int))]) :: L) _ := hS
        have hS : Z.St K ((p19, .lst (r39.2.map V.int)) :: (p34, .lst (([(3 : Int), (9 : Int), (30 : Int)]).map V.int)) :: (p28, .lst (([] : List Int).map V.int)) :: (p27, .lst (([(5 : Int), (13 : Int)]).map V.int)) :: (p7, .lst ((Z.cutL (x_script ++ [(0 : Int)]) none (some (Z.imax (1 : Int) (Z.imin ((x_script.length : Nat) : Int) (6 : Int))))).map V.int)) :: (p5, .lst ((x_script ++ [(0 : Int)]).map V.int)) :: (p1, .lst (([(0 : Int)]).map V.int)) :: O) (([V.ref p41], [(PyData.list (r39.1.map PyData.int))]) :: (x_script.map V.int, x_script.map PyData.int) :: (x_script.map V.int, x_script.map PyData.int) :: ([V.ref a3], [(PyData.list (x_script.map PyData.int))]) :: L) _ := hS.freeze (Its.ints _)
        obtain ⟨r42, e43, hb⟩ := Z.bind_of hb
        refine ⟨_, _, _, r39.1, _, rfl, hS, (.mem (.head _)), _, e43, fun p44 _ hS => ?_⟩
        have hS : Z.St K ((p44, .lst (r42.map V.int)) :: (p19, .lst (r39.2.map V.int)) :: (p34, .lst (([(3 : Int), (9 : Int), (30 : Int)]).map V.int)) :: (p28, .lst (([] : List Int).map V.int)) :: (p27, .lst (([(5 : Int), (13 : Int)]).map V.int)) :: (p7, .lst ((Z.cutL (x_script ++ [(0 : Int)]) none (some (Z.imax (1 : Int) (Z.imin ((x_script.length : Nat) : Int) (6 : Int))))).map V.int)) :: (p5, .lst ((x_script ++ [(0 : Int)]).map V.int)) :: (p1, .lst (([(0 : Int)]).map V.int)) :: O) (([V.ref p41], [(PyData.list (r39.1.map PyData.int))]) :: (x_script.map V.int, x_script.map PyData.int) :: (x_script.map V.int, x_script.map PyData.int) :: ([V.ref a3], [(PyData.list (x_script.map PyData.int))]) :: L) _ := hS
        have hS : Z.St K ((p19, .lst (r39.2.map V.int)) :: (p34, .lst (([(3 : Int), (9 : Int), (30 : Int)]).map V.int)) :: (p28, .lst (([] : List Int).map V.int)) :: (p27, .lst (([(5 : Int), (13 : Int)]).map V.int)) :: (p7, .lst ((Z.cutL (x_script ++ [(0 : Int)]) none (some (Z.imax (1 : Int) (Z.imin ((x_script.length : Nat) : Int) (6 : Int))))).map V.int)) :: (p5, .lst ((x_script ++ [(0 : Int)]).map V.int)) :: (p1, .lst (([(0 : Int)]).map V.int)) :: O) (([V.ref p44], [(PyData.list (r42.map PyData.int))]) :: ([V.ref p41], [(PyData.list (r39.1.map PyData.int))]) :: (x_script.map V.int, x_script.map PyData.int) :: (x_script.map V.int, x_script.map PyData.int) :: ([V.ref a3], [(PyData.list (x_script.map PyData.int))]) :: L) _ := hS.freeze (Its.ints _)
        obtain ⟨st45, hb46, hb⟩ := Z.bind_of hb
        first | show tSeq (tIfS _ _ _) _ _ _ _ | (dsimp only; show tSeq (tIfS _ _ _) _ _ _ _) | (dsimp only [tNext]; show tSeq (tIfS _ _ _) _ _ _ _)
        refine Z.joinQ (t := tIfS _ _ _) (fun σ' H' => ∃ (v58 : V), σ' = [some (V.ref a3), some (V.int x.1), some (V.int x.2), some (V.ref p19), some (V.int xz), some (V.int r32.1), some v58] ∧ Z.St K ((p19, .lst (st45.2.map V.int)) :: (p34, .lst (([(3 : Int), (9 : Int), (30 : Int)]).map V.int)) :: (p28, .lst (([] : List Int).map V.int)) :: (p27, .lst (([(5 : Int), (13 : Int)]).map V.int)) :: (p7, .lst ((Z.cutL (x_script ++ [(0 : Int)]) none (some (Z.imax (1 : Int) (Z.imin ((x_script.length : Nat) : Int) (6 : Int))))).map V.int)) :: (p5, .lst ((x_script ++ [(0 : Int)]).map V.int)) :: (p1, .lst (([(0 : Int)]).map V.int)) :: O) (([v58], [(PyData.list (st45.1.map PyData.int))]) :: ([V.ref p44], [(PyData.list (r42.map PyData.int))]) :: ([V.ref p41], [(PyData.list (r39.1.map PyData.int))]) :: (x_script.map V.int, x_script.map PyData.int) :: (x_script.map V.int, x_script.map PyData.int) :: ([V.ref a3], [(PyData.list (x_script.map PyData.int))]) :: L) H') (fun go => ?_) ?_
        · obtain ⟨st47, hb48, hb46⟩ := Z.bind_of hb46
          first | with_reducible (show tAnd _ _ _ _ _) | (refine Z.ifsS ?_; with_reducible (show tAnd _ _ _ _ _)) | (refine Z.ifsI ?_; with_reducible (show tAnd _ _ _ _ _)) | (refine Z.gnS ?_; dsimp only; refine Z.ifsS ?_; show tAnd _ _ _ _ _) | (refine Z.gnS ?_; dsimp only; refine Z.ifsI ?_; show tAnd _ _ _ _ _) | show tAnd _ _ _ _ _ | (refine Z.ifsS ?_; show tAnd _ _ _ _ _) | (refine Z.ifsI ?_; show tAnd _ _ _ _ _) | (refine Z.gnS ?_; dsimp only; with_reducible (show tAnd _ _ _ _ _)) | (refine Z.gnS ?_; dsimp only; show tAnd _ _ _ _ _) | (dsimp only [gName]; show tAnd _ _ _ _ _) | (dsimp only [gName, tIfS, tRet, tSeq, tAsg, tPar, tNext]; show tAnd _ _ _ _ _) | (dsimp only [gName, tIfS, tRet, tSeq, tAsg, tPar, tNext, tCons, tOp, tNot, tB, tTest, tCall, Z.tCallP, tUn]; show tAnd _ _ _ _ _)
          refine Z.joinB' (fun vq H' => vq = (st47) ∧ Z.St K ((p19, .lst (r39.2.map V.int)) :: (p34, .lst (([(3 : Int), (9 : Int), (30 : Int)]).map V.int)) :: (p28, .lst (([] : List Int).map V.int)) :: (p27, .lst (([(5 : Int), (13 : Int)]).map V.int)) :: (p7, .lst ((Z.cutL (x_script ++ [(0 : Int)]) none (some (Z.imax (1 : Int) (Z.imin ((x_script.length : Nat) : Int) (6 : Int))))).map V.int)) :: (p5, .lst ((x_script ++ [(0 : Int)]).map V.int)) :: (p1, .lst (([(0 : Int)]).map V.int)) :: O) (([V.ref p44], [(PyData.list (r42.map PyData.int))]) :: ([V.ref p41], [(PyData.list (r39.1.map PyData.int))]) :: (x_script.map V.int, x_script.map PyData.int) :: (x_script.map V.int, x_script.map PyData.int) :: ([V.ref a3], [(PyData.list (x_script.map PyData.int))]) :: L) H') (fun go => ?_) ?_
          · refine ⟨_, rfl, ?_⟩
            refine ⟨_, rfl, ?_⟩
            refine ⟨_, _, rfl, rfl, ?_⟩
            refine ⟨_, _, rfl, rfl, ?_⟩
            refine ⟨_, rfl, ?_⟩
            refine Z.iteS (fun hc => ?_) (fun hc => ?_)
            · have hb48 := Z.if_t hc hb48
              refine ⟨_, rfl, ?_⟩
              refine ⟨by show 0 ≤ sizeLine; decide, fun p49 hp49 => ?_⟩
              have hS : Z.St K ((p49, .lst (([] : List Int).map V.int)) :: (p19, .lst (r39.2.map V.int)) :: (p34, .lst (([(3 : Int), (9 : Int), (30 : Int)]).map V.int)) :: (p28, .lst (([] : List Int).map V.int)) :: (p27, .lst (([(5 : Int), (13 : Int)]).map V.int)) :: (p7, .lst ((Z.cutL (x_script ++ [(0 : Int)]) none (some (Z.imax (1 : Int) (Z.imin ((x_script.length : Nat) : Int) (6 : Int))))).map V.int)) :: (p5, .lst ((x_script ++ [(0 : Int)]).map V.int)) :: (p1, .lst (([(0 : Int)]).map V.int)) :: O) (([V.ref p44], [(PyData.list (r42.map PyData.int))]) :: ([V.ref p41], [(PyData.list (r39.1.map PyData.int))]) :: (x_script.map V.int, x_script.map PyData.int) :: (x_script.map V.int, x_script.map PyData.int) :: ([V.ref a3], [(PyData.list (x_script.map PyData.int))]) :: L) _ := hS.own hp49
              obtain ⟨c50, hb48⟩ := Z.chk_of hb48
              refine ⟨_, _, (hS.dp (.mem (.tail _ (.tail _ (.tail _ (.tail _ (.head _))))))), (hS.dpO (k := 0) rfl (Its.ints _)), c50.1, c50.2, ?_⟩
              refine ⟨_, rfl, ?_⟩
              have hS : Z.St K ((p19, .lst (r39.2.map V.int)) :: (p34, .lst (([(3 : Int), (9 : Int), (30 : Int)]).map V.int)) :: (p28, .lst (([] : List Int).map V.int)) :: (p27, .lst (([(5 : Int), (13 : Int)]).map V.int)) :: (p7, .lst ((Z.cutL (x_script ++ [(0 : Int)]) none (some (Z.imax (1 : Int) (Z.imin ((x_script.length : Nat) : Int) (6 : Int))))).map V.int)) :: (p5, .lst ((x_script ++ [(0 : Int)]).map V.int)) :: (p1, .lst (([(0 : Int)]).map V.int)) :: O) (([V.ref p44], [(PyData.list (r42.map PyData.int))]) :: ([V.ref p41], [(PyData.list (r39.1.map PyData.int))]) :: (x_script.map V.int, x_script.map PyData.int) :: (x_script.map V.int, x_script.map PyData.int) :: ([V.ref a3], [(PyData.list (x_script.map PyData.int))]) :: L) _ := hS.sel 8 [1, 2, 3, 4, 5, 6, 7]
              obtain rfl := Option.some.inj hb48
              exact go _ _ ⟨rfl, hS⟩
            · have hb48 := Z.if_f hc hb48
              obtain rfl := Option.some.inj hb48
              exact go _ _ ⟨rfl, hS⟩
          rintro _ _ ⟨rfl, hS⟩
          refine Z.iteS (fun hc => ?_) (fun hc => ?_)
          · have hb46 := Z.if_t hc hb46
            refine ⟨_, rfl, ?_⟩
            obtain ⟨r52, e53, hb46⟩ := Z.bind_of hb46
            refine ⟨_, _, _, _, _, _, rfl, hS, _, e53, fun p54 _ hS => ?_⟩
            have hS : Z.St K ((p54, .lst (r52.1.map V.int)) :: (p19, .lst (r52.2.map V.int)) :: (p34, .lst (([(3 : Int), (9 : Int), (30 : Int)]).map V.int)) :: (p28, .lst (([] : List Int).map V.int)) :: (p27, .lst (([(5 : Int), (13 : Int)]).map V.int)) :: (p7, .lst ((Z.cutL (x_script ++ [(0 : Int)]) none (some (Z.imax (1 : Int) (Z.imin ((x_script.length : Nat) : Int) (6 : Int))))).map V.int)) :: (p5, .lst ((x_script ++ [(0 : Int)]).map V.int)) :: (p1, .lst (([(0 : Int)]).map V.int)) :: O) (([V.ref p44], [(PyData.list (r42.map PyData.int))]) :: ([V.ref p41], [(PyData.list (r39.1.map PyData.int))]) :: (x_script.map V.int, x_script.map PyData.int) :: (x_script.map V.int, x_script.map PyData.int) :: ([V.ref a3], [(PyData.list (x_script.map PyData.int))]) :: L) _ := hS
            have hS : Z.St K ((p19, .lst (r52.2.map V.int)) :: (p34, .lst (([(3 : Int), (9 : Int), (30 : Int)]).map V.int)) :: (p28, .lst (([] : List Int).map V.int)) :: (p27, .lst (([(5 : Int), (13 : Int)]).map V.int)) :: (p7, .lst ((Z.cutL (x_script ++ [(0 : Int)]) none (some (Z.imax (1 : Int) (Z.imin ((x_script.length : Nat) : Int) (6 : Int))))).map V.int)) :: (p5, .lst ((x_script ++ [(0 : Int)]).map V.int)) :: (p1, .lst (([(0 : Int)]).map V.int)) :: O) (([V.ref p54], [(PyData.list (r52.1.map PyData.int))]) :: ([V.ref p44], [(PyData.list (r42.map PyData.int))]) :: ([V.ref p41], [(PyData.list (r39.1.map PyData.int))]) :: (x_script.map V.int, x_script.map PyData.int) :: (x_script.map V.int, x_script.map PyData.int) :: ([V.ref a3], [(PyData.list (x_script.map PyData.int))]) :: L) _ := hS.freeze (Its.ints _)
            obtain ⟨r55, e56, hb46⟩ := Z.bind_of hb46
            refine ⟨_, _, _, r52.1, _, rfl, hS, (.mem (.head _)), _, e56, fun p57 _ hS => ?_⟩
            have hS : Z.St K ((p57, .lst (r55.map V.int)) :: (p19, .lst (r52.2.map V.int)) :: (p34, .lst (([(3 : Int), (9 : Int), (30 : Int)]).map V.int)) :: (p28, .lst (([] : List Int).map V.int)) :: (p27, .lst (([(5 : Int), (13 : Int)]).map V.int)) :: (p7, .lst ((Z.cutL (x_script ++ [(0 : Int)]) none (some (Z.imax (1 : Int) (Z.imin ((x_script.length : Nat) : Int) (6 : Int))))).map V.int)) :: (p5, .lst ((x_script ++ [(0 : Int)]).map V.int)) :: (p1, .lst (([(0 : Int)]).map V.int)) :: O) (([V.ref p54], [(PyData.list (r52.1.map PyData.int))]) :: ([V.ref p44], [(PyData.list (r42.map PyData.int))]) :: ([V.ref p41], [(PyData.list (r39.1.map PyData.int))]) :: (x_script.map V.int, x_script.map PyData.int) :: (x_script.map V.int, x_script.map PyData.int) :: ([V.ref a3], [(PyData.list (x_script.map PyData.int))]) :: L) _ := hS
            have hS : Z.St K ((p19, .lst (r52.2.map V.int)) :: (p34, .lst (([(3 : Int), (9 : Int), (30 : Int)]).map V.int)) :: (p28, .lst (([] : List Int).map V.int)) :: (p27, .lst (([(5 : Int), (13 : Int)]).map V.int)) :: (p7, .lst ((Z.cutL (x_script ++ [(0 : Int)]) none (some (Z.imax (1 : Int) (Z.imin ((x_script.length : Nat) : Int) (6 : Int))))).map V.int)) :: (p5, .lst ((x_script ++ [(0 : Int)]).map V.int)) :: (p1, .lst (([(0 : Int)]).map V.int)) :: O) (([V.ref p57], [(PyData.list (r55.map PyData.int))]) :: ([V.ref p54], [(PyData.list (r52.1.map PyData.int))]) :: ([V.ref p44], [(PyData.list (r42.map PyData.int))]) :: ([V.ref p41], [(PyData.list (r39.1.map PyData.int))]) :: (x_script.map V.int, x_script.map PyData.int) :: (x_script.map V.int, x_script.map PyData.int) :: ([V.ref a3], [(PyData.list (x_script.map PyData.int))]) :: L) _ := hS.freeze (Its.ints _)
            have hS : Z.St K ((p19, .lst (r52.2.map V.int)) :: (p34, .lst (([(3 : Int), (9 : Int), (30 : Int)]).map V.int)) :: (p28, .lst (([] : List Int).map V.int)) :: (p27, .lst (([(5 : Int), (13 : Int)]).map V.int)) :: (p7, .lst ((Z.cutL (x_script ++ [(0 : Int)]) none (some (Z.imax (1 : Int) (Z.imin ((x_script.length : Nat) : Int) (6 : Int))))).map V.int)) :: (p5, .lst ((x_script ++ [(0 : Int)]).map V.int)) :: (p1, .lst (([(0 : Int)]).map V.int)) :: O) (([V.ref p57], [(PyData.list (r55.map PyData.int))]) :: ([V.ref p57], [(PyData.list (r55.map PyData.int))]) :: ([V.ref p54], [(PyData.list (r52.1.map PyData.int))]) :: ([V.ref p44], [(PyData.list (r42.map PyData.int))]) :: ([V.ref p41], [(PyData.list (r39.1.map PyData.int))]) :: (x_script.map V.int, x_script.map PyData.int) :: (x_script.map V.int, x_script.map PyData.int) :: ([V.ref a3], [(PyData.list (x_script.map PyData.int))]) :: L) _ := hS.more (.mem (.head _))
            have hS : Z.St K ((p19, .lst (r52.2.map V.int)) :: (p34, .lst (([(3 : Int), (9 : Int), (30 : Int)]).map V.int)) :: (p28, .lst (([] : List Int).map V.int)) :: (p27, .lst (([(5 : Int), (13 : Int)]).map V.int)) :: (p7, .lst ((Z.cutL (x_script ++ [(0 : Int)]) none (some (Z.imax (1 : Int) (Z.imin ((x_script.length : Nat) : Int) (6 : Int))))).map V.int)) :: (p5, .lst ((x_script ++ [(0 : Int)]).map V.int)) :: (p1, .lst (([(0 : Int)]).map V.int)) :: O) (([V.ref p57], [(PyData.list (r55.map PyData.int))]) :: ([V.ref p44], [(PyData.list (r42.map PyData.int))]) :: ([V.ref p41], [(PyData.list (r39.1.map PyData.int))]) :: (x_script.map V.int, x_script.map PyData.int) :: (x_script.map V.int, x_script.map PyData.int) :: ([V.ref a3], [(PyData.list (x_script.map PyData.int))]) :: L) _ := hS.cut 1 3
            obtain rfl := Option.some.inj hb46
            exact go _ _ ⟨_, rfl, hS⟩
          · have hb46 := Z.if_f hc hb46
            have hS : Z.St K ((p19, .lst (r39.2.map V.int)) :: (p34, .lst (([(3 : Int), (9 : Int), (30 : Int)]).map V.int)) :: (p28, .lst (([] : List Int).map V.int)) :: (p27, .lst (([(5 : Int), (13 : Int)]).map V.int)) :: (p7, .lst ((Z.cutL (x_script ++ [(0 : Int)]) none (some (Z.imax (1 : Int) (Z.imin ((x_script.length : Nat) : Int) (6 : Int))))).map V.int)) :: (p5, .lst ((x_script ++ [(0 : Int)]).map V.int)) :: (p1, .lst (([(0 : Int)]).map V.int)) :: O) (([V.ref p44], [(PyData.list (r42.map PyData.int))]) :: ([V.ref p44], [(PyData.list (r42.map PyData.int))]) :: ([V.ref p41], [(PyData.list (r39.1.map PyData.int))]) :: (x_script.map V.int, x_script.map PyData.int) :: (x_script.map V.int, x_script.map PyData.int) :: ([V.ref a3], [(PyData.list (x_script.map PyData.int))]) :: L) _ := hS.more (.mem (.head _))
            obtain rfl := Option.some.inj hb46
            exact go _ _ ⟨_, rfl, hS⟩
        rintro _ _ ⟨v58, rfl, hS⟩
        refine ⟨_, rfl, ?_⟩
        obtain ⟨r59, e60, hb⟩ := Z.bind_of hb
        refine ⟨_, _, _, st45.1, rfl, hS, (.mem (.head _)), _, e60, fun _ hS => ?_⟩
        have hS : Z.St K ((p19, .lst (st45.2.map V.int)) :: (p34, .lst (([(3 : Int), (9 : Int), (30 : Int)]).map V.int)) :: (p28, .lst (([] : List Int).map V.int)) :: (p27, .lst (([(5 : Int), (13 : Int)]).map V.int)) :: (p7, .lst ((Z.cutL (x_script ++ [(0 : Int)]) none (some (Z.imax (1 : Int) (Z.imin ((x_script.length : Nat) : Int) (6 : Int))))).map V.int)) :: (p5, .lst ((x_script ++ [(0 : Int)]).map V.int)) :: (p1, .lst (([(0 : Int)]).map V.int)) :: O) (([v58], [(PyData.list (st45.1.map PyData.int))]) :: ([V.ref p44], [(PyData.list (r42.map PyData.int))]) :: ([V.ref p41], [(PyData.list (r39.1.map PyData.int))]) :: (x_script.map V.int, x_script.map PyData.int) :: (x_script.map V.int, x_script.map PyData.int) :: ([V.ref a3], [(PyData.list (x_script.map PyData.int))]) :: L) _ := hS
        obtain ⟨c61, hb⟩ := Z.chk_of hb
        refine ⟨_, rfl, c61, ?_⟩
        refine ⟨_, rfl, ?_⟩
        obtain ⟨r62, e63, hb⟩ := Z.bind_of hb
        refine ⟨_, _, _, st45.1, rfl, hS, (.mem (.head _)), _, e63, fun _ hS => ?_⟩
        have hS : Z.St K ((p19, .lst (st45.2.map V.int)) :: (p34, .lst (([(3 : Int), (9 : Int), (30 : Int)]).map V.int)) :: (p28, .lst (([] : List Int).map V.int)) :: (p27, .lst (([(5 : Int), (13 : Int)]).map V.int)) :: (p7, .lst ((Z.cutL (x_script ++ [(0 : Int)]) none (some (Z.imax (1 : Int) (Z.imin ((x_script.length : Nat) : Int) (6 : Int))))).map V.int)) :: (p5, .lst ((x_script ++ [(0 : Int)]).map V.int)) :: (p1, .lst (([(0 : Int)]).map V.int)) :: O) (([v58], [(PyData.list (st45.1.map PyData.int))]) :: ([V.ref p44], [(PyData.list (r42.map PyData.int))]) :: ([V.ref p41], [(PyData.list (r39.1.map PyData.int))]) :: (x_script.map V.int, x_script.map PyData.int) :: (x_script.map V.int, x_script.map PyData.int) :: ([V.ref a3], [(PyData.list (x_script.map PyData.int))]) :: L) _ := hS
        obtain ⟨c64, hb⟩ := Z.chk_of hb
        refine ⟨_, rfl, c64, ?_⟩
        refine ⟨rfl, ?_⟩
        refine ⟨_, rfl, ?_⟩
        refine Z.iteS (fun hc => ?_) (fun hc => ?_)
        · have hb := Z.if_t hc hb
          have ee := Option.some.inj hb
          have e2 := hrres24 _ ee.symm
          rw [e2] at hk26
          have ee := Option.some.inj hk26
          have e2 := hrres14 _ ee.symm
          rw [e2] at hk16
          obtain rfl := Option.some.inj hk16
          exact q _ ((hS.sel 7 []).gone 6)
        · have hb := Z.if_f hc hb
          have hS : Z.St K ((p19, .lst (st45.2.map V.int)) :: (p7, .lst ((Z.cutL (x_script ++ [(0 : Int)]) none (some (Z.imax (1 : Int) (Z.imin ((x_script.length : Nat) : Int) (6 : Int))))).map V.int)) :: (p5, .lst ((x_script ++ [(0 : Int)]).map V.int)) :: (p1, .lst (([(0 : Int)]).map V.int)) :: O) (([v58], [(PyData.list (st45.1.map PyData.int))]) :: ([V.ref p44], [(PyData.list (r42.map PyData.int))]) :: ([V.ref p41], [(PyData.list (r39.1.map PyData.int))]) :: (x_script.map V.int, x_script.map PyData.int) :: (x_script.map V.int, x_script.map PyData.int) :: ([V.ref a3], [(PyData.list (x_script.map PyData.int))]) :: L) _ := hS.sel 7 [0, 4, 5, 6]
          have hS : Z.St K ((p19, .lst (st45.2.map V.int)) :: (p7, .lst ((Z.cutL (x_script ++ [(0 : Int)]) none (some (Z.imax (1 : Int) (Z.imin ((x_script.length : Nat) : Int) (6 : Int))))).map V.int)) :: (p5, .lst ((x_script ++ [(0 : Int)]).map V.int)) :: (p1, .lst (([(0 : Int)]).map V.int)) :: O) ((x_script.map V.int, x_script.map PyData.int) :: (x_script.map V.int, x_script.map PyData.int) :: ([V.ref a3], [(PyData.list (x_script.map PyData.int))]) :: L) _ := hS.cut 0 3
          have ee := Option.some.inj hb
          exact ⟨_, ee.symm, ⟨_, _, _, rfl, hS⟩⟩
end
end Z18
/-! Loops of mirrors; what a draw gives. -/
namespace Zm
open PySem PySem.Spec PyProof.Rows L2 Z
theorem chk_bind {c : Prop} [Decidable c] {α : Type} (h : c) (k : Unit → Option α) : (Z.chk c >>= k) = k () := by
  show Option.bind (Z.chk c) k = _
  rw [chk_yes h]; rfl
theorem some_bind {α β : Type} (a : α) (k : α → Option β) : ((some a : Option α) >>= k) = k a := rfl
theorem to_bind {α β : Type} {m : Option α} {a : α} (h : m = some a) (k : α → Option β) : (m >>= k) = k a := by rw [h]; rfl
section
variable {S R T U : Type}
theorem loop_nil {f : T → S → Option (Step S R)} {s : S} : loopM f [] s = some (.go s) := rfl
theorem loop_cons {f : T → S → Option (Step S R)} {x : T} {r : List T} {s s' : S} (h : f x s = some (.go s')) : loopM f (x :: r) s = loopM f r s' := by
  show (match f x s with | none => none | some (.go s') => loopM f r s' | some (.out s') => some (.go s') | some (.ret v) => some (.ret v)) = _
  rw [h]
theorem loop_run {f : T → S → Option (Step S R)} (g : S → T → S) (I : S → Prop) : ∀ (items : List T) (s : S), I s → (∀ x ∈ items, ∀ s, I s → f x s = some (.go (g s x)) ∧ I (g s x)) → loopM f items s = some (.go (items.foldl g s)) ∧ I (items.foldl g s)
  | [], s, h, _ => ⟨rfl, h⟩
  | x :: r, s, h, hf => by
    obtain ⟨e, h'⟩ := hf x List.mem_cons_self s h
    rw [loop_cons e]
    exact loop_run g I r (g s x) h' fun y hy => hf y (List.mem_cons_of_mem _ hy)
/-- a walk whose state keeps I n, I (n + 1), .. -/
theorem loop_inv {f : T → S → Option (Step S R)} (I : Nat → S → Prop) : ∀ (items : List T) (n : Nat) (s : S), I n s → (∀ x ∈ items, ∀ k s, n ≤ k → k < n + items.length → I k s → ∃ s', f x s = some (.go s') ∧ I (k + 1) s') → ∃ s', loopM f items s = some (.go s') ∧ I (n + items.length) s'
  | [], n, s, h, _ => ⟨s, rfl, h⟩
  | x :: r, n, s, h, hf => by
    obtain ⟨s', e, h'⟩ := hf x List.mem_cons_self n s (Nat.le_refl n) (by simp) h
    obtain ⟨s2, e2, h2⟩ := loop_inv I r (n + 1) s' h' fun y hy k t h1 h3 h4 => hf y (List.mem_cons_of_mem _ hy) k t (by omega) (by rw [List.length_cons]; omega) h4
    refine ⟨s2, (loop_cons e).trans e2, ?_⟩
    rw [List.length_cons, show n + (r.length + 1) = n + 1 + r.length by omega]
    exact h2
theorem while_run {f : S → Option (Step S R)} (I : S → Prop) (μ : S → Nat) (P : S → Prop) (step : ∀ s, I s → (∃ s', f s = some (.go s') ∧ I s' ∧ μ s' < μ s) ∨ ∃ s', f s = some (.out s') ∧ P s') :
    ∀ (n : Nat) (s : S), I s → μ s < n → ∃ s', whileM f n s = some (.go s') ∧ P s'
  | 0, s, _, h => absurd h (Nat.not_lt_zero _)
  | n + 1, s, hI, h => by
    have e : whileM f (n + 1) s = (match f s with | none => none | some (.go s') => whileM f n s' | some (.out s') => some (.go s') | some (.ret v) => some (.ret v)) := rfl
    rcases step s hI with ⟨s', h1, h2, h3⟩ | ⟨s', h1, h2⟩
    · rw [e, h1]
      exact while_run I μ P step n s' h2 (by omega)
    · rw [e, h1]
      exact ⟨s', rfl, h2⟩
theorem comp_map {f : T → Unit → Option (Option U × Unit)} (g : T → U) : ∀ (items : List T), (∀ x ∈ items, f x () = some (some (g x), ())) → compM f items () = some (items.map g, ())
  | [], _ => rfl
  | x :: r, h => by
    have e := h x List.mem_cons_self
    have ih := comp_map g r fun y hy => h y (List.mem_cons_of_mem _ hy)
    unfold compM
    simp only [e, ih]
    rfl
end
/-! ### sources -/
/-- a source that has given at most n numbers of its own -/
def Src (n : Int) (s : List Int) : Prop := ∃ x y z : Int, s = [x, y, z] ∧ 0 ≤ y ∧ y < 10 ^ 45 ∧ 0 ≤ z ∧ z ≤ n
theorem Src.up {m n : Int} {s : List Int} (h : Src m s) (e : m ≤ n) : Src n s := by
  obtain ⟨x, y, z, a, b, c, d, f⟩ := h
  exact ⟨x, y, z, a, b, c, d, by omega⟩
theorem log_le {i : Int} {k : Nat} (h0 : 0 ≤ i) (h : i < 2 ^ k) : i.natAbs.log2 ≤ k := by
  have hb : i.natAbs < 2 ^ k := by
    have h2 : ((i.natAbs : Nat) : Int) < ((2 ^ k : Nat) : Int) := by
      rw [Int.natAbs_of_nonneg h0, Int.natCast_pow]; exact h
    exact Int.ofNat_lt.mp h2
  by_cases e : i.natAbs = 0
  · rw [e]; exact Nat.zero_le _
  · exact Nat.le_of_lt ((Nat.log2_lt e).mpr hb)
theorem bits_le {i : Int} {k : Nat} (h0 : 0 ≤ i) (h : i < 2 ^ k) : Builtin.Int.intBits i ≤ k + 1 := by
  have := log_le h0 h
  unfold Builtin.Int.intBits
  split <;> omega
theorem at0 (x y z : Int) : atI [x, y, z] (0 : Int) = some x := rfl
theorem at1 (x y z : Int) : atI [x, y, z] (1 : Int) = some y := rfl
theorem at2 (x y z : Int) : atI [x, y, z] (2 : Int) = some z := rfl
theorem set0 (x y z v : Int) : Z.setI [x, y, z] (0 : Int) v = some [v, y, z] := rfl
theorem set2 (x y z v : Int) : Z.setI [x, y, z] (2 : Int) v = some [x, y, v] := rfl
theorem draw_ok {n c : Int} {s : List Int} (h : Src n s) (hn : n ≤ 10 ^ 9) (c0 : 0 < c) (c1 : c ≤ 10 ^ 40) : ∃ r s', m__law_draw s c = some (r, s') ∧ 0 ≤ r ∧ r < c ∧ Src (n + 1) s' := by
  obtain ⟨x, y, z, rfl, y0, y1, z0, z1⟩ := h
  unfold m__law_draw
  rw [to_bind (at0 x y z)]
  by_cases hx : 0 < x
  · rw [if_pos (decide_eq_true hx), to_bind (at0 x y z), chk_bind c0, to_bind (at0 x y z)]
    rw [chk_bind (show CDivW x c from ⟨c0, Nat.lt_of_le_of_lt (log_le (k := 140) (Int.le_of_lt c0) (by omega)) (by decide)⟩)]
    rw [to_bind (set0 x y z _)]
    exact ⟨_, _, rfl, Int.emod_nonneg _ (by omega), Int.emod_lt_of_pos _ c0, _, _, _, rfl, y0, y1, z0, by omega⟩
  · rw [if_neg (by simpa using hx), to_bind (at2 x y z), to_bind (set2 x y z _), to_bind (at1 x y _), to_bind (at2 x y _)]
    have a0 : 0 ≤ y + 700001 * (z + 1) := by omega
    have a1 : y + 700001 * (z + 1) < 2 ^ 160 := by omega
    rw [chk_bind (show Z.CPowZ (y + 700001 * (z + 1)) 3 from ⟨by decide, by have := bits_le a0 a1; omega⟩), to_bind (at2 x y _)]
    generalize hm : (y + 700001 * (z + 1)) ^ (3 : Int).toNat % (10 ^ (37 : Int).toNat + 43) = m
    have m0 : 0 ≤ m := by rw [← hm]; exact Int.emod_nonneg _ (by decide)
    have m1 : m < 10 ^ 37 + 43 := by rw [← hm]; exact Int.emod_lt_of_pos _ (by decide)
    have zz : z + 1 < 2 ^ 40 := by omega
    rw [chk_bind (show CMulW m (z + 1) from by
      have e1 := log_le (k := 130) m0 (by omega)
      have e2 := log_le (k := 40) (i := z + 1) (by omega) zz
      show m.natAbs.log2 + (z + 1).natAbs.log2 < 1000000
      omega)]
    have p0 : 0 ≤ m * (z + 1) := Int.mul_nonneg m0 (by omega)
    have p1 : m * (z + 1) ≤ (10 ^ 37 + 43) * 2 ^ 40 := Int.mul_le_mul (by omega) (by omega) (by omega) (by decide)
    rw [chk_bind (show Z.CPowZ (m * (z + 1) + 90001) 3 from ⟨by decide, by have := bits_le (k := 200) (i := m * (z + 1) + 90001) (by omega) (by omega); omega⟩), chk_bind c0]
    exact ⟨_, _, rfl, Int.emod_nonneg _ (by omega), Int.emod_lt_of_pos _ c0, _, _, _, rfl, y0, y1, by omega, by omega⟩
theorem source_ok (cell k : Int) (k0 : 0 ≤ k) (k1 : k ≤ 1000) : ∃ s, m__law_source cell k = some s ∧ Src 0 s := by
  unfold m__law_source
  refine ⟨_, rfl, _, _, _, rfl, ?_, ?_, by decide, by decide⟩
  · have h := Int.emod_nonneg (iabs cell) (show (10 : Int) ^ (41 : Int).toNat + 37 ≠ 0 by decide)
    split <;> omega
  · have h := Int.emod_lt_of_pos (iabs cell) (show (0 : Int) < (10 : Int) ^ (41 : Int).toNat + 37 by decide)
    have e : (10 : Int) ^ (41 : Int).toNat = 10 ^ 41 := rfl
    rw [e] at h ⊢
    split <;> omega
end Zm
/-! Traces: texts of + and - as lists of Bool, their depths. -/
namespace Zm
open PySem PySem.Spec PyProof.Rows L2 Z
def dl (b : Bool) : Int := if b = true then 1 else -1
/-- the depth behind bs, from d on; all the depths behind each step -/
def dp : Int → List Bool → Int
  | d, [] => d
  | d, b :: r => dp (d + dl b) r
def hs : Int → List Bool → List Int
  | _, [] => []
  | d, b :: r => (d + dl b) :: hs (d + dl b) r
def ok : Int → List Bool → Prop
  | _, [] => True
  | d, b :: r => 0 ≤ d + dl b ∧ ok (d + dl b) r
theorem dp_app (a b : List Bool) : ∀ d, dp d (a ++ b) = dp (dp d a) b := by
  induction a with
  | nil => intro d; rfl
  | cons x r ih => intro d; exact ih _
theorem hs_app (a b : List Bool) : ∀ d, hs d (a ++ b) = hs d a ++ hs (dp d a) b := by
  induction a with
  | nil => intro d; rfl
  | cons x r ih => intro d; show _ :: hs _ (r ++ b) = _; rw [ih]; rfl
theorem ok_app (a b : List Bool) : ∀ d, ok d (a ++ b) ↔ ok d a ∧ ok (dp d a) b := by
  induction a with
  | nil => intro d; exact ⟨fun h => ⟨trivial, h⟩, fun h => h.2⟩
  | cons x r ih =>
    intro d
    show (0 ≤ d + dl x ∧ ok (d + dl x) (r ++ b)) ↔ (0 ≤ d + dl x ∧ ok (d + dl x) r) ∧ ok (dp (d + dl x) r) b
    rw [ih, and_assoc]
theorem hs_len (a : List Bool) : ∀ d, (hs d a).length = a.length := by
  induction a with
  | nil => intro d; rfl
  | cons x r ih => intro d; show (hs _ r).length + 1 = r.length + 1; rw [ih]
theorem ok_iff (a : List Bool) : ∀ d, ok d a ↔ ∀ h ∈ hs d a, 0 ≤ h := by
  induction a with
  | nil => intro d; exact ⟨fun _ h hh => (by cases hh), fun _ => trivial⟩
  | cons x r ih =>
    intro d
    show (0 ≤ d + dl x ∧ ok (d + dl x) r) ↔ ∀ h ∈ (d + dl x) :: hs (d + dl x) r, 0 ≤ h
    rw [ih, List.forall_mem_cons]
theorem dp_nn (a : List Bool) : ∀ d, 0 ≤ d → ok d a → 0 ≤ dp d a := by
  induction a with
  | nil => intro d h _; exact h
  | cons x r ih => intro d _ h2; exact ih _ h2.1 h2.2
theorem hs_le (a : List Bool) : ∀ d, ∀ h ∈ hs d a, h ≤ d + a.length := by
  induction a with
  | nil => intro d h hh; cases hh
  | cons x r ih =>
    intro d h hh
    have hd : dl x ≤ 1 := by cases x <;> decide
    rcases List.mem_cons.mp hh with e | e
    · rw [e, List.length_cons]; omega
    · have := ih _ h e
      rw [List.length_cons]; omega
theorem dp_ups (n : Nat) : ∀ d, dp d (List.replicate n true) = d + n := by
  induction n with
  | zero => intro d; simp [dp]
  | succ n ih => intro d; rw [List.replicate_succ]; show dp (d + dl true) _ = _; rw [ih]; show d + 1 + (n : Int) = d + ((n + 1 : Nat) : Int); omega
theorem dp_downs (n : Nat) : ∀ d, dp d (List.replicate n false) = d - n := by
  induction n with
  | zero => intro d; simp [dp]
  | succ n ih => intro d; rw [List.replicate_succ]; show dp (d + dl false) _ = _; rw [ih]; show d + -1 - (n : Int) = d - ((n + 1 : Nat) : Int); omega
theorem ok_ups (n : Nat) : ∀ d, 0 ≤ d → ok d (List.replicate n true) := by
  induction n with
  | zero => intro d _; trivial
  | succ n ih => intro d h; rw [List.replicate_succ]; exact ⟨by show 0 ≤ d + 1; omega, ih _ (by show 0 ≤ d + 1; omega)⟩
theorem ok_downs (n : Nat) : ∀ d, (n : Int) ≤ d → ok d (List.replicate n false) := by
  induction n with
  | zero => intro d _; trivial
  | succ n ih => intro d h; rw [List.replicate_succ]; exact ⟨by show 0 ≤ d + -1; omega, ih _ (by show (n : Int) ≤ d + -1; omega)⟩
/-! ### as texts -/
def cd (b : Bool) : Nat := if b = true then 43 else 45
def tx (bs : List Bool) : Str := ⟨(bs.map cd).toArray⟩
def sg (b : Bool) : Str := ⟨#[cd b]⟩
theorem tx_len (bs : List Bool) : (tx bs).length = bs.length := by unfold tx Str.length; simp
theorem signs_tx (bs : List Bool) : signsZ (tx bs) = bs.map sg := by
  unfold signsZ tx; simp only [List.map_map]; rfl
theorem plus_eq : ("+" : Str) = sg true := by decide +kernel
theorem minus_eq : ("-" : Str) = sg false := by decide +kernel
theorem empty_eq : ("" : Str) = tx [] := by decide +kernel
theorem is_plus (b : Bool) : decide (V.str (sg b) = V.str ("+" : Str)) = b := by
  rw [plus_eq]; cases b <;> decide +kernel
theorem is_minus (b : Bool) : decide (V.str (sg b) = V.str ("-" : Str)) = !b := by
  rw [minus_eq]; cases b <;> decide +kernel
theorem tx_app (a b : List Bool) : tx a ++ tx b = tx (a ++ b) := by
  show Str.append _ _ = _
  unfold Str.append tx
  simp
theorem tx_back (bs : List Bool) : backS (tx bs) = tx bs.reverse := by
  unfold backS tx; simp
theorem arr_rep (c : Nat) (n : Nat) : ∀ acc : Array Nat, (List.replicate n (#[c] : Array Nat)).foldl (· ++ ·) acc = acc ++ (List.replicate n c).toArray := by
  induction n with
  | zero => intro acc; simp
  | succ n ih =>
    intro acc
    rw [List.replicate_succ, List.foldl_cons, ih, List.replicate_succ]
    apply Array.ext'
    simp
theorem tx_mul (b : Bool) (n : Int) : Txt.mul (sg b) n = tx (List.replicate n.toNat b) := by
  have len : (sg b).length = 1 := rfl
  unfold Txt.mul
  by_cases h : n < 1
  · rw [if_pos h, show n.toNat = 0 by omega]; rfl
  · rw [if_neg h]
    by_cases h1 : n = 1
    · subst h1; cases b <;> rfl
    · rw [if_neg (by rw [len]; simp [h1])]
      show (⟨(List.replicate n.toNat (#[cd b] : Array Nat)).foldl (· ++ ·) #[]⟩ : Str) = _
      rw [arr_rep]
      unfold tx
      simp
theorem glue_fold (ys : List Bool) : ∀ acc : Array Nat, (ys.map sg).foldl (fun acc p => acc ++ (#[] : Array Nat) ++ p.cps) acc = acc ++ (ys.map cd).toArray := by
  induction ys with
  | nil => intro acc; simp
  | cons y r ih =>
    intro acc
    rw [List.map_cons, List.foldl_cons, ih]
    apply Array.ext'
    simp [sg]
theorem tx_join (ys : List Bool) : joinZ ("" : Str) (ys.map sg) = tx ys := by
  unfold joinZ Txt.join Builtin.Str.glued
  rw [show (("" : Str)).cps = (#[] : Array Nat) by decide +kernel]
  cases ys with
  | nil => rfl
  | cons y r =>
    show (⟨((y :: r).map sg).tail.foldl _ (sg y).cps⟩ : Str) = _
    rw [List.map_cons, List.tail_cons, glue_fold]
    unfold tx
    congr 1
    apply Array.ext'
    simp [sg]
end Zm
/-! What the program's and the laws' common functions give of traces. -/
namespace Zm
open PySem PySem.Spec PyProof.Rows L2 Z
theorem imax_of {a b : Int} (h : a ≤ b) : imax a b = b := by unfold imax; split <;> omega
theorem imax_of' {a b : Int} (h : b ≤ a) : imax a b = a := by unfold imax; split <;> omega
theorem imin_le (a b : Int) : imin a b ≤ a ∧ imin a b ≤ b := by unfold imin; split <;> omega
theorem imin_pos {a b : Int} (ha : 0 < a) (hb : 0 < b) : 0 < imin a b := by unfold imin; split <;> omega
theorem step_if (b : Bool) : (if decide (V.str (sg b) = V.str ("+" : Str)) = true then (1 : Int) else -(1 : Int)) = dl b := by rw [is_plus]; rfl
theorem after_go {S R : Type} (s : S) (k : S → Option R) : after (.go s) k = k s := rfl
theorem line_le {n : Nat} (h : n ≤ 16777215) : n ≤ sizeLine ∧ n < sizeLine := by
  have e : sizeLine = 16777216 := by decide
  omega
theorem along_loop (bs : List Bool) : ∀ (d : Int) (l : List Int), ok d bs → l.length + bs.length ≤ 2000000 → loopM m_depths_along_b1 (bs.map sg) (d, l) = some (.go (dp d bs, l ++ hs d bs)) := by
  induction bs with
  | nil => intro d l _ _; show some (Step.go (d, l)) = some (Step.go (d, l ++ [])); rw [List.append_nil]
  | cons b r ih =>
    intro d l o h
    rw [List.length_cons] at h
    refine (loop_cons (s' := (d + dl b, l ++ [d + dl b])) ?_).trans ((ih (d + dl b) (l ++ [d + dl b]) o.2 (by simp; omega)).trans ?_)
    · unfold m_depths_along_b1
      simp only [is_plus, is_minus]
      have hk : l.length < sizeLine := (line_le (by omega)).2
      cases b with
      | true => rw [if_pos rfl, chk_bind hk]; rfl
      | false =>
        have hd : 0 < d := by have := o.1; have e : dl false = -1 := rfl; omega
        rw [if_neg (by decide), if_pos (by simp [hd]), chk_bind hk]; rfl
    · rw [List.append_assoc]; rfl
theorem along_ok {bs : List Bool} (o : ok 0 bs) (hl : bs.length ≤ 100000) : m_depths_along (tx bs) 0 = some (0 :: hs 0 bs) := by
  unfold m_depths_along
  rw [signs_tx, to_bind (along_loop bs 0 [0] o (by simp; omega)), after_go]
  rfl
theorem checked_ok {bs : List Bool} (h : ok 0 bs) (hl : bs.length ≤ 1000) : m_checked_depths (tx bs) = some (0 :: hs 0 bs) := by
  have hk := (line_le (n := bs.length) (by omega)).1
  unfold m_checked_depths
  rw [if_neg (by decide), chk_bind (by rw [tx_len]; exact hk)]
  rw [to_bind (m := some (decide ((1000 : Int) < (((tx bs).length : Nat) : Int)))) (a := false) (by rw [tx_len, decide_eq_false (by omega)]), if_neg (by decide), to_bind (along_ok h (by omega)), chk_bind (by rw [tx_len]; exact hk)]
  rw [if_neg (by rw [tx_len, List.length_cons, hs_len]; simp; omega)]
theorem is_trace_ok {bs : List Bool} (h : ok 0 bs) (hl : bs.length ≤ 1000) : m_is_trace (tx bs) = some true := by
  unfold m_is_trace
  rw [to_bind (checked_ok h hl)]
theorem depths_ok {bs : List Bool} (h : ok 0 bs) (hl : bs.length ≤ 1000) : m_depths_of (tx bs) = some (0 :: hs 0 bs) := by
  unfold m_depths_of
  rw [to_bind (checked_ok h hl)]
theorem stages_loop (held : Int) (bs : List Bool) : ∀ (d : Int) (l : List Int), l.length + bs.length ≤ 2000000 → loopM (m__law_stages_b1 held) (bs.map sg) (d, l) = some (.go (dp d bs, l ++ (hs d bs).map fun h => imax 0 (h - held))) := by
  induction bs with
  | nil => intro d l _; show some (Step.go (d, l)) = some (Step.go (d, l ++ [])); rw [List.append_nil]
  | cons b r ih =>
    intro d l h
    rw [List.length_cons] at h
    refine (loop_cons (s' := (d + dl b, l ++ [imax 0 (d + dl b - held)])) ?_).trans ((ih (d + dl b) (l ++ [imax 0 (d + dl b - held)]) (by simp; omega)).trans ?_)
    · unfold m__law_stages_b1
      rw [chk_bind (line_le (by show l.length ≤ _; omega)).2, step_if]
    · rw [List.append_assoc]; rfl
theorem stages_eq (bs : List Bool) (held : Int) (hl : bs.length ≤ 1000000) : m__law_stages (tx bs) held = some (0 :: (hs 0 bs).map fun h => imax 0 (h - held)) := by
  unfold m__law_stages
  rw [signs_tx, to_bind (stages_loop held bs 0 [0] (by simp; omega)), after_go]
  rfl
theorem stages_zero {bs : List Bool} (h : ok 0 bs) (hl : bs.length ≤ 1000000) : m__law_stages (tx bs) 0 = some (0 :: hs 0 bs) := by
  rw [stages_eq bs 0 hl]
  have e : (hs 0 bs).map (fun h => imax 0 (h - 0)) = (hs 0 bs).map id := List.map_congr_left fun x hx => by
    have := (ok_iff bs 0).mp h x hx
    show imax 0 (x - 0) = x
    rw [Int.sub_zero, imax_of this]
  rw [e, List.map_id]
/-! ### paths -/
def PathSt (n0 many : Int) (st : Str × Int × List Int) : Prop := ∃ bs : List Bool, st.1 = tx bs ∧ st.2.1 = dp 0 bs ∧ ok 0 bs ∧ (bs.length : Int) ≤ many ∧ Src (n0 + 2 * bs.length) st.2.2
theorem path_ok {n many : Int} {s : List Int} (h : Src n s) (hn : n ≤ 10 ^ 8) (m0 : 0 ≤ many) (m1 : many ≤ 100000) :
    ∃ bs s', m__law_path s many = some (tx bs, s') ∧ (bs.length : Int) = many ∧ ok 0 bs ∧ Src (n + 2 * many + 1) s' := by
  obtain ⟨way, s1, e1, w0, w1, h1⟩ := draw_ok (c := 3) h (by omega) (by decide) (by decide)
  unfold m__law_path
  rw [to_bind e1]
  obtain ⟨st, e2, bs, a1, a2, a3, a4, a5⟩ := while_run (f := m__law_path_b1 many (way, s1)) (PathSt (n + 1) many) (fun st => many.toNat - st.1.length) (fun st => ∃ bs : List Bool, st.1 = tx bs ∧ st.2.1 = dp 0 bs ∧ ok 0 bs ∧ (bs.length : Int) = many ∧ Src (n + 1 + 2 * many) st.2.2)
    (fun st ⟨bs, b1, b2, b3, b4, b5⟩ => by
      obtain ⟨found, high, src⟩ := st
      simp only at b1 b2 b5
      subst b1 b2
      have hlen : bs.length ≤ 100000 := by omega
      have hk := (line_le (n := bs.length) (by omega)).1
      unfold m__law_path_b1
      rw [chk_bind (by show (tx bs).length ≤ _; rw [tx_len]; exact hk)]
      by_cases hlt : (bs.length : Int) < many
      · rw [if_pos (by show decide ((((tx bs).length : Nat) : Int) < many) = true; rw [tx_len]; exact decide_eq_true hlt)]
        rw [chk_bind (by show (tx bs).length ≤ _; rw [tx_len]; exact hk)]
        obtain ⟨c, e3, c0, c1⟩ : ∃ c : Int, atI [(1 : Int), 6, 30] way = some c ∧ 0 < c ∧ c ≤ 30 := by
          rcases (show way = 0 ∨ way = 1 ∨ way = 2 by omega) with e | e | e <;> subst e
          · exact ⟨1, rfl, by decide, by decide⟩
          · exact ⟨6, rfl, by decide, by decide⟩
          · exact ⟨30, rfl, by decide, by decide⟩
        rw [to_bind e3]
        obtain ⟨r, s2, e4, r0, r1, h2⟩ := draw_ok (c := c) b5 (by omega) c0 (by omega)
        rw [to_bind e4]
        have key : ∃ (st : Bool × List Int), (if decide ((0 : Int) < dp 0 bs) = true then m__law_draw s2 2 >>= fun r16 => some (decide (r16.1 = (0 : Int)), r16.2) else some (false, s2)) = some st ∧ (st.1 = true → 0 < dp 0 bs) ∧ Src (n + 1 + 2 * bs.length + 2) st.2 := by
          by_cases hd : 0 < dp 0 bs
          · obtain ⟨r5, s3, e5, _, _, h3⟩ := draw_ok (c := 2) h2 (by omega) (by decide) (by decide)
            exact ⟨(decide (r5 = (0 : Int)), s3), by rw [if_pos (decide_eq_true hd), to_bind e5], fun _ => hd, h3.up (by omega)⟩
          · exact ⟨(false, s2), by rw [if_neg (by simpa using hd)], (fun h => by cases h), h2.up (by omega)⟩
        obtain ⟨st, e6, g1, g2⟩ := key
        rw [to_bind e6]
        simp only [tx_len]
        have sz := imin_le (many - (bs.length : Int)) (1 + r)
        have sp := imin_pos (a := many - (bs.length : Int)) (b := 1 + r) (by omega) (by omega)
        generalize imin (many - (bs.length : Int)) (1 + r) = size at sz sp ⊢
        by_cases hs1 : st.1 = true
        · rw [if_pos hs1]
          have hp := g1 hs1
          have sz2 := imin_le size (dp 0 bs)
          have sp2 := imin_pos sp hp
          generalize imin size (dp 0 bs) = z at sz2 sp2 ⊢
          rw [minus_eq, tx_mul, chk_bind (show Z.CRep (sg false) z from ⟨by decide, by omega, by omega⟩), chk_bind (by rw [tx_len, List.length_replicate]; exact (line_le (by omega)).1), tx_app]
          refine .inl ⟨_, rfl, ⟨bs ++ List.replicate z.toNat false, rfl, ?_, ?_, ?_, ?_⟩, ?_⟩
          · show dp 0 bs - z = _
            rw [dp_app, dp_downs]; omega
          · exact (ok_app _ _ _).mpr ⟨b3, ok_downs _ _ (by omega)⟩
          · simp; omega
          · show Src _ st.2
            exact g2.up (by simp; omega)
          · show many.toNat - (tx (bs ++ List.replicate z.toNat false)).length < many.toNat - bs.length
            rw [tx_len]; simp; omega
        · rw [if_neg hs1, plus_eq, tx_mul, chk_bind (show Z.CRep (sg true) size from ⟨by decide, by omega, by omega⟩), chk_bind (by rw [tx_len, List.length_replicate]; exact (line_le (by omega)).1), tx_app]
          refine .inl ⟨_, rfl, ⟨bs ++ List.replicate size.toNat true, rfl, ?_, ?_, ?_, ?_⟩, ?_⟩
          · show dp 0 bs + size = _
            rw [dp_app, dp_ups]; omega
          · exact (ok_app _ _ _).mpr ⟨b3, ok_ups _ _ (dp_nn _ _ (by omega) b3)⟩
          · simp; omega
          · show Src _ st.2
            exact g2.up (by simp; omega)
          · show many.toNat - (tx (bs ++ List.replicate size.toNat true)).length < many.toNat - bs.length
            rw [tx_len]; simp; omega
      · rw [if_neg (by show ¬ decide ((((tx bs).length : Nat) : Int) < many) = true; rw [tx_len]; simpa using hlt)]
        exact .inr ⟨_, rfl, bs, rfl, rfl, b3, by omega, b5.up (by omega)⟩)
    FUEL (("" : Str), 0, s1) ⟨[], empty_eq, rfl, trivial, m0, h1.up (by simp)⟩ (by show many.toNat - _ < 1000000; omega)
  rw [to_bind e2, after_go]
  obtain ⟨f, hi, src⟩ := st
  simp only at a1 a2 a5
  subst a1
  exact ⟨bs, src, rfl, a4, a3, a5.up (by omega)⟩
end Zm
/-! Turned traces, closed traces; the laws' frame. -/
namespace Zm
open PySem PySem.Spec PyProof.Rows L2 Z
theorem last_dp (bs : List Bool) : ∀ d, ∃ l, d :: hs d bs = l ++ [dp d bs] := by
  induction bs with
  | nil => intro d; exact ⟨[], rfl⟩
  | cons b r ih =>
    intro d
    obtain ⟨l, e⟩ := ih (d + dl b)
    exact ⟨d :: l, by show d :: (d + dl b) :: hs (d + dl b) r = _; rw [e]; rfl⟩
theorem last_at (bs : List Bool) (d : Int) : atI (d :: hs d bs) (-(1 : Int)) = some (dp d bs) := by
  obtain ⟨l, e⟩ := last_dp bs d
  rw [e]; exact atI_last _ _
/-- the turned trace -/
def tr (bs : List Bool) : List Bool := bs.reverse.map (!·)
theorem tr_len (bs : List Bool) : (tr bs).length = bs.length := by unfold tr; simp
theorem tr_tr (bs : List Bool) : tr (tr bs) = bs := by
  unfold tr
  rw [← List.map_reverse, List.reverse_reverse, List.map_map]
  have e : ((fun b : Bool => !b) ∘ fun b : Bool => !b) = id := by funext b; cases b <;> rfl
  rw [e, List.map_id]
theorem tr_full (bs : List Bool) : ∀ d, dp d bs :: hs (dp d bs) (tr bs) = (d :: hs d bs).reverse ∧ dp (dp d bs) (tr bs) = d := by
  induction bs with
  | nil => intro d; exact ⟨rfl, rfl⟩
  | cons b r ih =>
    intro d
    obtain ⟨h1, h2⟩ := ih (d + dl b)
    have e : tr (b :: r) = tr r ++ [!b] := by unfold tr; rw [List.reverse_cons, List.map_append]; rfl
    have e2 : d + dl b + dl (!b) = d := by
      cases b
      · show d + -1 + 1 = d; omega
      · show d + 1 + -1 = d; omega
    show dp (d + dl b) r :: hs (dp (d + dl b) r) (tr (b :: r)) = _ ∧ dp (dp (d + dl b) r) (tr (b :: r)) = d
    rw [e, hs_app, dp_app, h2]
    refine ⟨?_, e2⟩
    show dp (d + dl b) r :: (hs (dp (d + dl b) r) (tr r) ++ [d + dl b + dl (!b)]) = (d :: (d + dl b) :: hs (d + dl b) r).reverse
    rw [e2, ← List.cons_append, h1, List.reverse_cons (a := d)]
theorem tr_hs {bs : List Bool} (h : dp 0 bs = 0) : 0 :: hs 0 (tr bs) = (0 :: hs 0 bs).reverse := by
  have := (tr_full bs 0).1
  rw [h] at this; exact this
theorem tr_dp {bs : List Bool} (h : dp 0 bs = 0) : dp 0 (tr bs) = 0 := by
  have := (tr_full bs 0).2
  rw [h] at this; exact this
theorem tr_ok {bs : List Bool} (h : dp 0 bs = 0) (o : ok 0 bs) : ok 0 (tr bs) := (ok_iff _ _).mpr fun x hx => by
  have hx' : x ∈ (0 :: hs 0 bs).reverse := by rw [← tr_hs h]; exact List.mem_cons_of_mem _ hx
  rcases List.mem_cons.mp (List.mem_reverse.mp hx') with e | e
  · rw [e]; exact Int.le_refl 0
  · exact (ok_iff _ _).mp o x e
theorem turned_ok {bs : List Bool} (o : ok 0 bs) (h : dp 0 bs = 0) (hl : bs.length ≤ 1000) : m_turned (tx bs) = some (tx (tr bs)) := by
  unfold m_turned
  rw [to_bind (checked_ok o hl), to_bind (last_at bs 0), h, if_neg (by decide), chk_bind (by rw [tx_len]; exact (line_le (by omega)).1)]
  rw [tx_back, signs_tx, chk_bind (by rw [List.length_map, List.length_reverse]; exact (line_le (by omega)).2)]
  rw [to_bind (comp_map (f := m_turned_c1) (fun x => if decide (V.str x = V.str ("+" : Str)) = true then ("-" : Str) else ("+" : Str)) (bs.reverse.map sg) fun x _ => rfl)]
  have e : (bs.reverse.map sg).map (fun x => if decide (V.str x = V.str ("+" : Str)) = true then ("-" : Str) else ("+" : Str)) = (tr bs).map sg := by
    unfold tr
    rw [List.map_map, List.map_map]
    refine List.map_congr_left fun b _ => ?_
    show (if decide (V.str (sg b) = V.str ("+" : Str)) = true then ("-" : Str) else ("+" : Str)) = sg (!b)
    rw [is_plus, plus_eq, minus_eq]
    cases b <;> rfl
  rw [e, tx_join]
  refine chk_bind ?_ _
  show (((tr bs).map sg).map (·.length)).sum + ((tr bs).map sg).length * (("" : Str)).length ≤ 16777216
  rw [show (("" : Str)).length = 0 by decide +kernel, List.map_map]
  have e2 : ((tr bs).map (Str.length ∘ sg)).sum = bs.length := by
    rw [show (Str.length ∘ sg) = fun _ => 1 from rfl, List.map_const', List.sum_replicate_nat, tr_len]; omega
  rw [e2]; omega
/-! ### closed traces -/
theorem snoc {α : Type} (l : List α) (h : l ≠ []) : ∃ r x, l = r ++ [x] := ⟨l.dropLast, l.getLast h, (List.dropLast_concat_getLast h).symm⟩
theorem cut_last (c : List Bool) (b : Bool) : cutS (tx (c ++ [b])) none (some (-(1 : Int))) = tx c := by
  unfold cutS
  have e : (tx (c ++ [b])).length = c.length + 1 := by rw [tx_len]; simp
  rw [HT.sIx_none, e]
  have e2 : HT.sIx (c.length + 1) (c.length + 1) (some (-(1 : Int))) = c.length := by
    show (if (-(1 : Int)) < 0 then (-(1 : Int) + ((c.length + 1 : Nat) : Int)).toNat else min (-(1 : Int)).toNat (c.length + 1)) = c.length
    rw [if_pos (by decide)]; omega
  rw [e2]
  unfold tx
  simp
theorem closed_ok {n many : Int} {s : List Int} (h : Src n s) (hn : n ≤ 10 ^ 7) (m0 : 0 ≤ many) (m1 : many ≤ 1000) :
    ∃ bs s', m__law_closed s many = some (tx bs, s') ∧ (bs.length : Int) ≤ many ∧ ok 0 bs ∧ dp 0 bs = 0 ∧ Src (n + 3000) s' := by
  obtain ⟨r, s1, e1, r0, r1, h1⟩ := draw_ok (c := many + 1) h (by omega) (by omega) (by omega)
  obtain ⟨bs, s2, e2, l2, o2, h2⟩ := path_ok h1 (by omega) r0 (by omega)
  unfold m__law_closed
  rw [to_bind e1, to_bind e2, to_bind (stages_zero o2 (by omega)), to_bind (last_at bs 0)]
  obtain ⟨st, e3, cs, a1, a2, a3, a4⟩ := while_run (f := m__law_closed_b1 many) (fun st => ∃ cs : List Bool, st.1 = tx cs ∧ st.2 = dp 0 cs ∧ ok 0 cs ∧ (cs.length : Int) ≤ many) (fun st => st.1.length) (fun st => ∃ cs : List Bool, st.1 = tx cs ∧ st.2 = dp 0 cs ∧ ok 0 cs ∧ (cs.length : Int) + dp 0 cs ≤ many)
    (fun st ⟨cs, b1, b2, b3, b4⟩ => by
      obtain ⟨p, hi⟩ := st
      simp only at b1 b2
      subst b1 b2
      have hk := (line_le (n := cs.length) (by omega)).1
      have hk' : (tx cs).length ≤ sizeLine := by rw [tx_len]; exact hk
      unfold m__law_closed_b1
      rw [chk_bind hk']
      by_cases hlt : many < (cs.length : Int) + dp 0 cs
      · rw [if_pos (by show decide (many < (((tx cs).length : Nat) : Int) + dp 0 cs) = true; rw [tx_len]; exact decide_eq_true hlt), chk_bind hk']
        obtain ⟨c, b, rfl⟩ := snoc cs (fun z => by subst z; have e : dp 0 [] = 0 := rfl; rw [e] at hlt; simp at hlt; omega)
        have ea : atI (tx (c ++ [b])).cps.toList (-(1 : Int)) = some (cd b) := by
          unfold tx
          rw [List.map_append]
          exact atI_last _ _
        rw [to_bind ea, chk_bind hk']
        refine .inl ⟨_, rfl, ⟨c, cut_last c b, ?_, ((ok_app _ _ _).mp b3).1, by simp at b4; omega⟩, ?_⟩
        · show dp 0 (c ++ [b]) - (if decide (V.str (sg b) = V.str ("+" : Str)) = true then (1 : Int) else -(1 : Int)) = dp 0 c
          rw [step_if, dp_app]
          show dp 0 c + dl b - dl b = _
          omega
        · show (cutS (tx (c ++ [b])) none (some (-(1 : Int)))).length < (tx (c ++ [b])).length
          rw [cut_last, tx_len, tx_len]; simp
      · rw [if_neg (by show ¬ decide (many < (((tx cs).length : Nat) : Int) + dp 0 cs) = true; rw [tx_len]; simpa using hlt)]
        exact .inr ⟨_, rfl, cs, rfl, rfl, b3, by omega⟩)
    FUEL (tx bs, dp 0 bs) ⟨bs, rfl, rfl, o2, by omega⟩ (by show (tx bs).length < 1000000; rw [tx_len]; omega)
  rw [to_bind e3, after_go]
  obtain ⟨p, hi⟩ := st
  simp only at a1 a2
  subst a1 a2
  have nn := dp_nn cs 0 (by omega) a3
  rw [minus_eq, tx_mul, chk_bind (show Z.CRep (sg false) (dp 0 cs) from ⟨by decide, by omega, by omega⟩)]
  rw [chk_bind (by show (tx cs).length + _ ≤ _; rw [tx_len, tx_len, List.length_replicate]; exact (line_le (by omega)).1)]
  refine ⟨cs ++ List.replicate (dp 0 cs).toNat false, s2, by rw [← tx_app], by simp; omega, (ok_app _ _ _).mpr ⟨a3, ok_downs _ _ (by omega)⟩, ?_, h2.up (by omega)⟩
  rw [dp_app, dp_downs]; omega
/-! ### the laws' frame -/
theorem cells_ok {α : Type} {l : List α} (h : l.length ≤ 100) : ∀ x ∈ Z.enumZ l, 0 ≤ x.1 ∧ x.1 ≤ 100 := fun x hx => by
  obtain ⟨i, hi⟩ := List.mem_iff_getElem?.mp hx
  obtain ⟨h1, h2⟩ := Z.enumZ_get hi
  have := (List.getElem?_eq_some_iff.mp h2).1
  omega
theorem cutL_len {α : Type} (l : List α) (lo hi : Option Int) : (Z.cutL l lo hi).length ≤ l.length := by
  unfold Z.cutL
  rw [List.length_take, List.length_drop]; omega
theorem frame_ok {script : List Int} {hi : Option Int} (h : script.length ≤ 63) : ∀ x ∈ Z.enumZ (Z.cutL (script ++ [(0 : Int)]) none hi), 0 ≤ x.1 ∧ x.1 ≤ 100 :=
  cells_ok (Nat.le_trans (cutL_len _ _ _) (by simp; omega))
theorem unit_loop {T R : Type} {f : T → Unit → Option (Step Unit R)} {items : List T} (h : ∀ x ∈ items, f x () = some (.go ())) : loopM f items () = some (.go ()) := by
  obtain ⟨e, _⟩ := loop_run (f := f) (fun s _ => s) (fun _ => True) items () trivial fun x hx s _ => ⟨h x hx, trivial⟩
  rw [e]
theorem afterS_go {S S' R : Type} (s : S) (k : S → Option (Step S' R)) : afterS (.go s) k = k s := rfl
theorem upto_mem {a b x : Int} (h : x ∈ Z.upto a b) : a ≤ x ∧ x < b := by
  unfold Z.upto at h
  obtain ⟨k, hk, rfl⟩ := List.mem_map.mp h
  have := List.mem_range.mp hk
  omega
end Zm
/-! Data that may be shown and compared: bounds of its text and depth. -/
namespace Zm
open PySem PySem.Spec PyProof.Rows L2 Z
theorem eq_ints (xs ys : List Int) : Z.CEq (PyData.list (xs.map PyData.int)) (PyData.list (ys.map PyData.int)) := ⟨PySem.W.ke_shaped_ints xs, PySem.W.ke_shaped_ints ys⟩
theorem eqv_self {d : PyData} (h : SeqAt.shaped d = true) : PyData.eqv d d = true := SeqAt.eqv_refl _ (SeqAt.canLay_of_shaped h)
/-- d is plain, of depth at most k, its text has at most n signs -/
def Sh (k n : Nat) (d : PyData) : Prop := d.showable = true ∧ d.canLay0 = true ∧ d.depth ≤ k ∧ d.shown.length ≤ n
theorem Sh.up {k n k' n' : Nat} {d : PyData} (h : Sh k n d) (e1 : k ≤ k') (e2 : n ≤ n') : Sh k' n' d := ⟨h.1, h.2.1, Nat.le_trans h.2.2.1 e1, Nat.le_trans h.2.2.2 e2⟩
theorem Sh.show {k n : Nat} {d : PyData} (h : Sh k n d) (hk : k ≤ 60) (hn : n ≤ 16777216) : Z.CShow d :=
  ⟨h.1, PyData.hasDict_of_canLay d h.2.1, Nat.le_trans h.2.2.1 hk, Nat.le_trans h.2.2.2 (Nat.le_trans hn (by decide))⟩
theorem Sh.shaped {k n : Nat} {d : PyData} (h : Sh k n d) (hk : k ≤ 60) : SeqAt.shaped d = true := by
  unfold SeqAt.shaped
  rw [h.2.1, decide_eq_true (show d.depth ≤ 64 from Nat.le_trans h.2.2.1 (by omega))]; rfl
theorem Sh.eq {k n k' n' : Nat} {d e : PyData} (h : Sh k n d) (h' : Sh k' n' e) (hk : k ≤ 60 := by decide) (hk' : k' ≤ 60 := by decide) : Z.CEq d e := ⟨h.shaped hk, h'.shaped hk'⟩
theorem Sh.int {i : Int} (h1 : -(10 ^ 18) ≤ i) (h2 : i ≤ 10 ^ 18) : Sh 0 20 (.int i) := by
  have hb : i.natAbs < 10 ^ 19 := by omega
  refine ⟨?_, by simp [PyData.canLay0], by simp [PyData.depth], ?_⟩
  · have hl : i.natAbs.log2 < 1920 := by
      by_cases e : i.natAbs = 0
      · rw [e]; decide
      · exact Nat.lt_trans ((Nat.log2_lt e).mpr (Nat.lt_of_lt_of_le hb (by decide : 10 ^ 19 ≤ 2 ^ 64))) (by decide)
    simp [PyData.showable, hl]
  · have := int_text_length_le10 (k := 19) (by decide) hb
    show (Str.ofString (toString i)).length ≤ 20
    rw [PySem.ofString_length]; omega
theorem Sh.none : Sh 0 20 .none := ⟨by simp [PyData.showable], by simp [PyData.canLay0], by simp [PyData.depth], by decide +kernel⟩
theorem Sh.bool (b : Bool) : Sh 0 20 (.bool b) := ⟨by simp [PyData.showable], by simp [PyData.canLay0], by simp [PyData.depth], by cases b <;> decide +kernel⟩
theorem text_len : ∀ (ts : List Str) (n k : Nat) (acc : Str), (∀ t ∈ ts, t.length ≤ n) → (textFrom k acc ts).length ≤ acc.length + ts.length * (n + 2)
  | [], n, k, acc, _ => by show acc.length ≤ acc.length + 0 * (n + 2); omega
  | t :: r, n, k, acc, h => by
    have ih := text_len r n (k + 1) (acc ++ (if k > 0 then ", " else "" : String) ++ t) fun x hx => h x (List.mem_cons_of_mem _ hx)
    have e : (acc ++ (if k > 0 then ", " else "" : String) ++ t).length = acc.length + (if k > 0 then 2 else 0) + t.length := by
      rw [strLen_append, strLen_append]
      split <;> rfl
    have ht := h t List.mem_cons_self
    show (textFrom (k + 1) (acc ++ (if k > 0 then ", " else "" : String) ++ t) r).length ≤ _
    rw [e] at ih
    have hif : (if k > 0 then 2 else 0) ≤ 2 := by split <;> omega
    rw [List.length_cons, Nat.succ_mul]
    omega
theorem all_sh {k n : Nat} : ∀ {ds : List PyData}, (∀ d ∈ ds, Sh k n d) → PyData.showableAll ds = true ∧ PyData.canLayAll0 ds = true ∧ PyData.depthAll ds ≤ k ∧ (PyData.shownAll ds).length = ds.length ∧ ∀ t ∈ PyData.shownAll ds, t.length ≤ n
  | [], _ => ⟨by simp [PyData.showableAll], by simp [PyData.canLayAll0], by simp [PyData.depthAll], by simp [PyData.shownAll], by simp [PyData.shownAll]⟩
  | d :: r, h => by
    obtain ⟨a, b, c, e⟩ := h d List.mem_cons_self
    obtain ⟨a2, b2, c2, l2, e2⟩ := all_sh (ds := r) fun x hx => h x (List.mem_cons_of_mem _ hx)
    refine ⟨by simp [PyData.showableAll, a, a2], by simp [PyData.canLayAll0, b, b2], by simp only [PyData.depthAll]; omega, by simp [PyData.shownAll, l2], ?_⟩
    intro t ht
    simp only [PyData.shownAll] at ht
    rcases List.mem_cons.mp ht with z | z
    · rw [z]; exact e
    · exact e2 t z
theorem Sh.list {k n m : Nat} {ds : List PyData} (h : ∀ d ∈ ds, Sh k n d) (hm : ds.length ≤ m) : Sh (k + 1) (2 + m * (n + 2)) (.list ds) := by
  obtain ⟨a, b, c, l, e⟩ := all_sh h
  refine ⟨by simp [PyData.showable, a], by simp [PyData.canLay0, b], by simp only [PyData.depth]; omega, ?_⟩
  have := text_len (PyData.shownAll ds) n 0 ("[" : String) e
  have e1 : (("[" : String) : Str).length = 1 := by decide +kernel
  have e2 : (("]" : String) : Str).length = 1 := by decide +kernel
  have e3 : ds.length * (n + 2) ≤ m * (n + 2) := Nat.mul_le_mul_right _ hm
  simp only [PyData.shown]
  unfold listText
  rw [strLen_append, e2]
  rw [e1, l] at this
  omega
theorem Sh.ints {m : Nat} {xs : List Int} (h : ∀ x ∈ xs, -(10 ^ 18) ≤ x ∧ x ≤ 10 ^ 18) (hm : xs.length ≤ m) : Sh 1 (2 + m * 22) (.list (xs.map PyData.int)) :=
  Sh.list (fun d hd => by
    obtain ⟨x, hx, rfl⟩ := List.mem_map.mp hd
    exact Sh.int (h x hx).1 (h x hx).2) (by simpa using hm)
end Zm
/-! Levels. -/
namespace Zm
open PySem PySem.Spec PyProof.Rows L2 Z
theorem top_ok {top most : Int} (h0 : 0 ≤ top) (h1 : top ≤ most) : m_check_top top most = some () := by
  unfold m_check_top m_is_integer
  rw [some_bind, decide_eq_true h0, decide_eq_true h1]
  rfl
theorem lev_if (d t : Int) : (if decide (t < d) = true then d - t else (0 : Int)) = imax 0 (d - t) := by
  unfold imax
  by_cases h : t < d
  · rw [if_pos (decide_eq_true h), if_pos (by omega)]
  · rw [if_neg (by simpa using h), if_neg (by omega)]
theorem above_ok (ds : List Int) (top : Int) (hl : ds.length ≤ 1000000) : m_levels_above ds top = some (ds.map fun d => imax 0 (d - top)) := by
  unfold m_levels_above
  rw [chk_bind (line_le (by omega)).2, to_bind (comp_map (f := m_levels_above_c1 top) (fun d => imax 0 (d - top)) ds fun x _ => by unfold m_levels_above_c1; rw [lev_if])]
/-- the levels of a trace above top -/
def lv (top : Int) (bs : List Bool) : List Int := 0 :: (hs 0 bs).map fun h => imax 0 (h - top)
theorem lv_len (top : Int) (bs : List Bool) : (lv top bs).length = bs.length + 1 := by unfold lv; rw [List.length_cons, List.length_map, hs_len]
theorem levels_ok {bs : List Bool} {top : Int} (h : ok 0 bs) (hl : bs.length ≤ 1000) (h0 : 0 ≤ top) (h1 : top ≤ 1000) : m_levels_of (tx bs) top = some (lv top bs) := by
  unfold m_levels_of
  rw [to_bind (checked_ok h hl), to_bind (top_ok h0 h1), to_bind (above_ok _ top (by rw [List.length_cons, hs_len]; omega)), List.map_cons, show imax 0 (0 - top) = 0 from imax_of' (by omega)]
  rfl
theorem lv_zero {bs : List Bool} (h : ok 0 bs) : lv 0 bs = 0 :: hs 0 bs := by
  have e : (hs 0 bs).map (fun h => imax 0 (h - 0)) = (hs 0 bs).map id := List.map_congr_left fun x hx => by
    have := (ok_iff bs 0).mp h x hx
    show imax 0 (x - 0) = x
    rw [Int.sub_zero, imax_of this]
  unfold lv
  rw [e, List.map_id]
theorem lv_bound {top : Int} (h0 : 0 ≤ top) {bs : List Bool} : ∀ x ∈ lv top bs, 0 ≤ x ∧ x ≤ bs.length := fun x hx => by
  rcases List.mem_cons.mp hx with e | e
  · subst e; omega
  · obtain ⟨y, hy, rfl⟩ := List.mem_map.mp e
    have := hs_le bs 0 y hy
    unfold imax
    split <;> omega
theorem lv_sh {top : Int} (h0 : 0 ≤ top) {bs : List Bool} (hl : bs.length ≤ 1000) : Sh 1 22100 (.list ((lv top bs).map PyData.int)) :=
  (Sh.ints (m := 1001) (fun x hx => by have := lv_bound h0 x hx; omega) (by rw [lv_len]; omega)).up (Nat.le_refl _) (by decide)
end Zm
/-! Calls: by the definition, and as the program finds them. -/
namespace Zm
open PySem PySem.Spec PyProof.Rows L2 Z
theorem upto_cons {i j : Int} (h : i < j) : Z.upto i j = i :: Z.upto (i + 1) j := by
  unfold Z.upto
  have e : (j - i).toNat = (j - (i + 1)).toNat + 1 := by omega
  rw [e, List.range_succ_eq_map, List.map_cons, List.map_map]
  refine congr (congrArg _ (by simp)) (List.map_congr_left fun k _ => ?_)
  show i + ((k + 1 : Nat) : Int) = i + 1 + (k : Int)
  omega
theorem upto_nil {i j : Int} (h : j ≤ i) : Z.upto i j = [] := by
  unfold Z.upto
  rw [show (j - i).toNat = 0 by omega]; rfl
/-- the first place, from e on, of a number below c -/
def fe (c : Int) : Int → List Int → Option Int
  | _, [] => none
  | e, x :: r => if x < c then some e else fe c (e + 1) r
/-- the greatest of b and the numbers ahead of that place -/
def mx (c : Int) : Int → List Int → Int
  | b, [] => b
  | b, x :: r => if x < c then b else mx c (Z.imax b x) r
abbrev Rec := Int × Option Int × Int × Int
def crec (i y : Int) (r : List Int) : Rec := (i, (fe y (i + 1) (y :: r)).map (· - 1), y, mx y y (y :: r) - y + 1)
def cls : Int → List Int → List Rec
  | i, x :: y :: r => if x < y then crec i y r :: cls (i + 1) (y :: r) else cls (i + 1) (y :: r)
  | _, _ => []
theorem fe_lt {c : Int} : ∀ {l : List Int} {e e' : Int}, fe c e l = some e' → e ≤ e' ∧ e' < e + l.length
  | [], _, _, h => by cases h
  | x :: r, e, e', h => by
    unfold fe at h
    rw [List.length_cons]
    split at h
    · cases h; omega
    · have := fe_lt h; omega
theorem fe_ge {c e : Int} {x : Int} {r : List Int} (h : c ≤ x) : fe c e (x :: r) = fe c (e + 1) r := by
  show (if x < c then _ else _) = _
  rw [if_neg (by omega)]
theorem fe_map {c d : Int} {f : Int → Int} : ∀ {l : List Int} {e : Int}, (∀ x ∈ l, (f x < d ↔ x < c)) → fe d e (l.map f) = fe c e l
  | [], _, _ => rfl
  | x :: r, e, h => by
    show (if f x < d then some e else fe d (e + 1) (r.map f)) = if x < c then some e else fe c (e + 1) r
    have hx := h x List.mem_cons_self
    rw [fe_map (c := c) (d := d) (l := r) (e := e + 1) fun y hy => h y (List.mem_cons_of_mem _ hy)]
    by_cases hc : x < c
    · rw [if_pos hc, if_pos (hx.mpr hc)]
    · rw [if_neg hc, if_neg fun z => hc (hx.mp z)]
theorem drop_at {α : Type} {l r : List α} {x : α} {i : Nat} (h : l.drop i = x :: r) : l[i]? = some x ∧ l.drop (i + 1) = r := by
  have hi : i < l.length := by
    rcases Nat.lt_or_ge i l.length with z | z
    · exact z
    · rw [List.drop_eq_nil_of_le z] at h; cases h
  rw [List.drop_eq_getElem_cons hi] at h
  injection h with h1 h2
  exact ⟨by rw [List.getElem?_eq_getElem hi, h1], h2⟩
theorem drop_atI {l r : List Int} {x : Int} {i : Nat} (h : l.drop i = x :: r) : atI l (i : Int) = some x := atI_nat (drop_at h).1
/-! ### by the definition: the law's own search -/
section
variable {S Hh : List Int} {held : Int}
theorem scan_ok (hS : S = Hh.map fun h => Z.imax 0 (h - held)) {i : Nat} {Y : Int} (hY : atI Hh ((i : Int) + 1) = some Y) (hp : held < Y) :
    ∀ (R : List Int) (e : Nat) (b : Int) (fuel : Nat), Hh.drop e = R → e ≤ Hh.length → R.length < fuel →
      whileM (m__law_calls_b1 S Hh i) fuel ((e : Int), b) = some (.go ((fe Y e R).getD Hh.length, mx (Y - held) b (R.map fun h => Z.imax 0 (h - held))))
  | [], e, b, fuel, hd, he, hf => by
    have el : e = Hh.length := by
      have := congrArg List.length hd
      rw [List.length_drop, List.length_nil] at this; omega
    subst el
    cases fuel with
    | zero => cases hf
    | succ fuel =>
      unfold whileM
      have e1 : m__law_calls_b1 S Hh i ((Hh.length : Int), b) = some (.out ((Hh.length : Int), b)) := by
        unfold m__law_calls_b1
        rw [if_neg (by simp)]
        rfl
      rw [e1]; rfl
  | x :: R, e, b, fuel, hd, he, hf => by
    obtain ⟨hx, hd'⟩ := drop_at hd
    have hlt : e < Hh.length := (List.getElem?_eq_some_iff.mp hx).1
    cases fuel with
    | zero => cases hf
    | succ fuel =>
      unfold whileM
      have a1 : atI Hh (e : Int) = some x := atI_nat hx
      have a2 : atI S (e : Int) = some (Z.imax 0 (x - held)) := atI_nat (by rw [hS, List.getElem?_map, hx]; rfl)
      have e0 : (if decide ((e : Int) < (Hh.length : Nat)) = true then atI Hh (e : Int) >>= fun x29 => atI Hh ((i : Int) + 1) >>= fun x31 => some (decide (x31 ≤ x29)) else some false) = some (decide (Y ≤ x)) := by
        rw [if_pos (decide_eq_true (by omega)), to_bind a1, to_bind hY]
      by_cases hc : Y ≤ x
      · have e1 : m__law_calls_b1 S Hh i ((e : Int), b) = some (.go ((e : Int) + 1, Z.imax b (Z.imax 0 (x - held)))) := by
          unfold m__law_calls_b1
          rw [to_bind e0, if_pos (decide_eq_true hc), to_bind a2]
        rw [e1]
        have ih := scan_ok hS hY hp R (e + 1) (Z.imax b (Z.imax 0 (x - held))) fuel hd' (by omega) (by rw [List.length_cons] at hf; omega)
        rw [show (e : Int) + 1 = ((e + 1 : Nat) : Int) by omega]
        show whileM (m__law_calls_b1 S Hh i) fuel (((e + 1 : Nat) : Int), _) = _
        rw [ih, fe_ge hc, show (e : Int) + 1 = ((e + 1 : Nat) : Int) by omega]
        have em : mx (Y - held) b ((x :: R).map fun h => Z.imax 0 (h - held)) = mx (Y - held) (Z.imax b (Z.imax 0 (x - held))) (R.map fun h => Z.imax 0 (h - held)) := by
          show (if Z.imax 0 (x - held) < Y - held then _ else _) = _
          rw [if_neg (by rw [imax_of (by omega)]; omega)]
        rw [em]
      · have e1 : m__law_calls_b1 S Hh i ((e : Int), b) = some (.out ((e : Int), b)) := by
          unfold m__law_calls_b1
          rw [to_bind e0, if_neg (by simpa using hc)]
        rw [e1]
        have e2 : fe Y e (x :: R) = some (e : Int) := by
          show (if x < Y then _ else _) = _
          rw [if_pos (by omega)]
        have e3 : mx (Y - held) b ((x :: R).map fun h => Z.imax 0 (h - held)) = b := by
          show (if Z.imax 0 (x - held) < Y - held then b else _) = b
          rw [if_pos (by unfold Z.imax; split <;> omega)]
        rw [e2, e3]; rfl
end
/-- the highs of a trace go up and down by 1 -/
def Good : List Int → Prop
  | x :: y :: r => (y = x + 1 ∨ y = x - 1) ∧ Good (y :: r)
  | _ => True
theorem good_drop : ∀ {l : List Int} (i : Nat), Good l → Good (l.drop i)
  | [], 0, h => h
  | [], _ + 1, _ => trivial
  | [_], 0, _ => trivial
  | [_], i + 1, _ => by show Good (List.drop i []); rw [List.drop_nil]; exact trivial
  | x :: y :: r, 0, h => h
  | x :: y :: r, i + 1, h => good_drop (l := y :: r) i h.2
theorem hs_good (bs : List Bool) : ∀ d, Good (d :: hs d bs) := by
  induction bs with
  | nil => intro d; exact trivial
  | cons b r ih =>
    intro d
    refine ⟨?_, ih _⟩
    cases b
    · exact .inr (by show d + -1 = d - 1; omega)
    · exact .inl (by show d + 1 = d + 1; rfl)
theorem calls_loop {S Hh : List Int} {held : Int} (hS : S = Hh.map fun h => Z.imax 0 (h - held)) (g : Good Hh) (hl : Hh.length ≤ 2000) :
    ∀ (k i : Nat) (s : List Rec), i + k + 1 = Hh.length → s.length + k ≤ 2000 → loopM (m__law_calls_b2 S Hh) (Z.upto i ((Hh.length - 1 : Nat) : Int)) s = some (.go (s ++ cls i (S.drop i)))
  | 0, i, s, hk, _ => by
    rw [upto_nil (by omega)]
    have hd : (S.drop i).length = 1 := by rw [hS, List.length_drop, List.length_map]; omega
    have e : cls i (S.drop i) = [] := by
      match hq : S.drop i, hd with
      | [a], _ => rfl
    rw [e, List.append_nil]; rfl
  | k + 1, i, s, hk, hs => by
    obtain ⟨X, Y, R, hd⟩ : ∃ X Y R, Hh.drop i = X :: Y :: R := by
      have : 2 ≤ (Hh.drop i).length := by rw [List.length_drop]; omega
      match hq : Hh.drop i, this with
      | a :: b :: r, _ => exact ⟨a, b, r, rfl⟩
    have h1 := drop_at hd
    have h2 := drop_at h1.2
    have gd : Good (X :: Y :: R) := hd ▸ good_drop i g
    have sd : S.drop i = Z.imax 0 (X - held) :: Z.imax 0 (Y - held) :: R.map fun h => Z.imax 0 (h - held) := by rw [hS, ← List.map_drop, hd]; rfl
    have sd1 := drop_at sd
    have sd2 := drop_at sd1.2
    have i1 : (i : Int) + 1 = ((i + 1 : Nat) : Int) := by omega
    have a1 : atI S ((i : Int) + 1) = some (Z.imax 0 (Y - held)) := by rw [i1]; exact atI_nat sd2.1
    have a2 : atI Hh ((i : Int) + 1) = some Y := by rw [i1]; exact atI_nat h2.1
    have a3 : atI Hh (i : Int) = some X := atI_nat h1.1
    rw [upto_cons (by omega), sd]
    have cond : (X < Y ∧ 0 < Z.imax 0 (Y - held)) ↔ Z.imax 0 (X - held) < Z.imax 0 (Y - held) := by
      have := gd.1
      unfold Z.imax
      split <;> split <;> omega
    by_cases hc : Z.imax 0 (X - held) < Z.imax 0 (Y - held)
    · obtain ⟨c1, c2⟩ := cond.mpr hc
      have hp : held < Y := by unfold Z.imax at c2; split at c2 <;> omega
      have ey : Z.imax 0 (Y - held) = Y - held := imax_of (by omega)
      have sc := scan_ok hS a2 hp (Y :: R) (i + 1) (Y - held) FUEL h1.2 (by omega) (by
        have e := congrArg List.length h1.2
        rw [List.length_drop] at e
        show _ < 1000000
        omega)
      have step : m__law_calls_b2 S Hh i s = some (.go (s ++ [crec i (Y - held) (R.map fun h => Z.imax 0 (h - held))])) := by
        unfold m__law_calls_b2
        rw [to_bind a1, to_bind a2, to_bind a3, if_pos (by rw [decide_eq_true c1, decide_eq_true c2]; rfl), ey, i1, to_bind sc, afterS_go, chk_bind (line_le (by omega)).2]
        have er : (if decide ((fe Y ((i + 1 : Nat) : Int) (Y :: R)).getD (Hh.length : Int) = (Hh.length : Nat)) = true then (none : Option Int) else some ((fe Y ((i + 1 : Nat) : Int) (Y :: R)).getD (Hh.length : Int) - 1)) = (fe Y ((i + 1 : Nat) : Int) (Y :: R)).map (· - 1) := by
          cases q : fe Y ((i + 1 : Nat) : Int) (Y :: R) with
          | none => simp
          | some e' =>
            have := fe_lt q
            have e := congrArg List.length h1.2
            rw [List.length_drop] at e
            rw [if_neg (by simp; omega)]
            rfl
        have ef : fe (Y - held) ((i : Int) + 1) ((Y :: R).map fun h => Z.imax 0 (h - held)) = fe Y ((i : Int) + 1) (Y :: R) := fe_map fun x _ => by
          unfold Z.imax; split <;> omega
        have em : (Y - held) :: R.map (fun h => Z.imax 0 (h - held)) = (Y :: R).map fun h => Z.imax 0 (h - held) := by rw [List.map_cons, ey]
        unfold crec
        rw [er, em, ef, i1]
      rw [loop_cons step, i1]
      have ih := calls_loop hS g hl k (i + 1) (s ++ [crec i (Y - held) (R.map fun h => Z.imax 0 (h - held))]) (by omega) (by simp; omega)
      rw [ih, sd1.2, List.append_assoc]
      have ec : cls i (Z.imax 0 (X - held) :: Z.imax 0 (Y - held) :: R.map fun h => Z.imax 0 (h - held)) = crec i (Z.imax 0 (Y - held)) (R.map fun h => Z.imax 0 (h - held)) :: cls ((i : Int) + 1) (Z.imax 0 (Y - held) :: R.map fun h => Z.imax 0 (h - held)) := if_pos hc
      rw [ec, ey, i1]; rfl
    · have step : m__law_calls_b2 S Hh i s = some (.go s) := by
        unfold m__law_calls_b2
        rw [to_bind a1, to_bind a2, to_bind a3, if_neg]
        intro z
        have z' := Bool.and_eq_true_iff.mp z
        exact hc (cond.mp ⟨of_decide_eq_true z'.1, of_decide_eq_true z'.2⟩)
      rw [loop_cons step, i1, calls_loop hS g hl k (i + 1) s (by omega) (by omega), sd1.2]
      have ec : cls i (Z.imax 0 (X - held) :: Z.imax 0 (Y - held) :: R.map fun h => Z.imax 0 (h - held)) = cls ((i : Int) + 1) (Z.imax 0 (Y - held) :: R.map fun h => Z.imax 0 (h - held)) := if_neg hc
      rw [ec, i1]
theorem law_calls_ok {bs : List Bool} {held : Int} (o : ok 0 bs) (hl : bs.length ≤ 1000) (h0 : 0 ≤ held) : m__law_calls (tx bs) held = some (cls 0 (lv held bs)) := by
  have hS : lv held bs = (0 :: hs 0 bs).map fun h => Z.imax 0 (h - held) := by
    rw [List.map_cons, show Z.imax 0 (0 - held) = 0 from imax_of' (by omega)]; rfl
  have hlen : (0 :: hs 0 bs).length = bs.length + 1 := by rw [List.length_cons, hs_len]
  have lp := calls_loop hS (hs_good bs 0) (by omega) bs.length 0 [] (by omega) (by simp; omega)
  unfold m__law_calls
  rw [to_bind (stages_eq bs held (by omega)), to_bind (stages_zero o (by omega)), tx_len, chk_bind (line_le (by omega)).1, chk_bind (show Z.CRng (bs.length : Int) from ⟨by omega, by omega⟩)]
  rw [hlen] at lp
  have lp' : loopM (m__law_calls_b2 (0 :: (hs 0 bs).map fun h => Z.imax 0 (h - held)) (0 :: hs 0 bs)) (Z.upto 0 (bs.length : Int)) [] = some (.go (cls 0 (lv held bs))) := lp
  rw [to_bind lp', after_go]
end Zm
/-! Calls as the program finds them: a stack for the pops, a dict for the heights. -/
namespace Zm
open PySem PySem.Spec PyProof.Rows L2 Z
/-! ### dicts -/
section
variable {α β : Type} [DecidableEq α]
theorem dget_nil (k : α) : Z.dget ([] : List (α × β)) k = none := rfl
theorem dget_cons (p : α × β) (r : List (α × β)) (k : α) : Z.dget (p :: r) k = if p.1 = k then some p.2 else Z.dget r k := by
  unfold Z.dget
  rw [List.find?_cons]
  by_cases h : p.1 = k
  · rw [decide_eq_true h, if_pos h]; rfl
  · rw [decide_eq_false h, if_neg h]
theorem dget_upd (k k' : α) (v : β) : ∀ m : List (α × β), Z.dget (m.map fun e => if e.1 = k then (e.1, v) else e) k' = if k' = k then (Z.dget m k').map (fun _ => v) else Z.dget m k'
  | [] => by rw [List.map_nil, dget_nil]; split <;> rfl
  | p :: r => by
    rw [List.map_cons, dget_cons, dget_cons, dget_upd k k' v r]
    by_cases h1 : p.1 = k
    · rw [if_pos h1]
      show (if p.1 = k' then some v else _) = _
      by_cases e : k' = k
      · rw [if_pos e, if_pos e, if_pos (h1.trans e.symm), if_pos (h1.trans e.symm)]; rfl
      · have n : ¬ p.1 = k' := fun z => e (z.symm.trans h1)
        rw [if_neg e, if_neg e, if_neg n, if_neg n]
    · rw [if_neg h1]
      by_cases e : k' = k
      · have n : ¬ p.1 = k' := fun z => h1 (z.trans e)
        rw [if_pos e, if_pos e, if_neg n, if_neg n]
      · rw [if_neg e, if_neg e]
theorem dget_app (k k' : α) (v : β) : ∀ m : List (α × β), Z.dget (m ++ [(k, v)]) k' = (Z.dget m k').or (if k = k' then some v else none)
  | [] => by rw [List.nil_append, dget_cons, dget_nil]; rfl
  | p :: r => by
    rw [List.cons_append, dget_cons, dget_cons, dget_app k k' v r]
    split <;> rfl
theorem any_get (k : α) : ∀ m : List (α × β), (m.any fun e => decide (e.1 = k)) = (Z.dget m k).isSome
  | [] => rfl
  | p :: r => by
    rw [List.any_cons, dget_cons, any_get k r]
    by_cases h : p.1 = k
    · rw [decide_eq_true h, if_pos h]; rfl
    · rw [decide_eq_false h, if_neg h]; rfl
theorem dget_dput (m : List (α × β)) (k k' : α) (v : β) : Z.dget (Z.dput m k v) k' = if k' = k then some v else Z.dget m k' := by
  unfold Z.dput
  rw [any_get]
  cases h : Z.dget m k with
  | none =>
    rw [if_neg (by simp), dget_app]
    by_cases e : k' = k
    · subst e; rw [h, if_pos rfl]; rfl
    · rw [if_neg e, if_neg (fun z => e z.symm)]; cases Z.dget m k' <;> rfl
  | some w =>
    rw [if_pos (by simp), dget_upd]
    by_cases e : k' = k
    · subst e; rw [if_pos rfl, if_pos rfl, h]; rfl
    · rw [if_neg e, if_neg e]
theorem dput_len (m : List (α × β)) (k : α) (v : β) : (Z.dput m k v).length ≤ m.length + 1 := by
  unfold Z.dput
  split
  · rw [List.length_map]; omega
  · simp
theorem ddrop_len (m : List (α × β)) (k : α) : (Z.ddrop m k).length ≤ m.length := List.length_filter_le _ _
theorem dget_ddrop (k k' : α) : ∀ m : List (α × β), Z.dget (Z.ddrop m k) k' = if k' = k then none else Z.dget m k'
  | [] => by show Z.dget ([] : List (α × β)) k' = _; rw [dget_nil]; split <;> rfl
  | p :: r => by
    have ih := dget_ddrop k k' r
    unfold Z.ddrop at ih ⊢
    rw [List.filter_cons]
    by_cases h : p.1 = k
    · rw [if_neg (by simp [h]), ih, dget_cons]
      by_cases e : k' = k
      · rw [if_pos e, if_pos e]
      · rw [if_neg e, if_neg e, if_neg (fun z => e (z.symm.trans h))]
    · rw [if_pos (by simp [h]), dget_cons, dget_cons, ih]
      by_cases e : k' = k
      · rw [if_pos e, if_pos e, if_neg (fun z => h (z.trans e))]
      · rw [if_neg e, if_neg e]
end
/-! ### levels -/
def Lev : List Int → Prop
  | x :: y :: r => (y = x + 1 ∨ y = x ∨ y = x - 1) ∧ 0 ≤ x ∧ Lev (y :: r)
  | [x] => 0 ≤ x
  | [] => True
theorem lev_head : ∀ {x : Int} {r : List Int}, Lev (x :: r) → 0 ≤ x
  | x, [], h => h
  | x, y :: r, h => h.2.1
theorem lev_drop : ∀ {l : List Int} (i : Nat), Lev l → Lev (l.drop i)
  | [], 0, h => h
  | [], _ + 1, _ => trivial
  | [_], 0, h => h
  | [_], i + 1, _ => by show Lev (List.drop i []); rw [List.drop_nil]; exact trivial
  | x :: y :: r, 0, h => h
  | x :: y :: r, i + 1, h => lev_drop (l := y :: r) i h.2.2
theorem lev_map {held : Int} : ∀ {l : List Int}, Good l → Lev (l.map fun h => Z.imax 0 (h - held))
  | [], _ => trivial
  | [x], _ => by show 0 ≤ Z.imax 0 (x - held); unfold Z.imax; split <;> omega
  | x :: y :: r, h => by
    refine ⟨?_, ?_, lev_map (l := y :: r) h.2⟩
    · have := h.1
      dsimp only
      unfold Z.imax; split <;> split <;> omega
    · dsimp only
      unfold Z.imax; split <;> omega
theorem lv_map (held : Int) (h0 : 0 ≤ held) (bs : List Bool) : lv held bs = (0 :: hs 0 bs).map fun h => Z.imax 0 (h - held) := by
  rw [List.map_cons, show Z.imax 0 (0 - held) = 0 from imax_of' (by omega)]; rfl
theorem lv_lev {held : Int} (h0 : 0 ≤ held) (bs : List Bool) : Lev (lv held bs) := by rw [lv_map held h0]; exact lev_map (hs_good bs 0)
/-! ### pops -/
theorem last_app {α : Type} (l : List α) (x : α) : Z.lastZ (l ++ [x]) = some x := by
  unfold Z.lastZ
  simp
theorem pops_loop {L : List Int} (g : Lev L) (hl : L.length ≤ 2000) : ∀ (k i : Nat) (st : List Int) (d : List (Int × Int)), i + k + 1 = L.length → st.length + k ≤ 2000 → d.length + k ≤ 2000 → st.Nodup → (∀ p ∈ st, p < (i : Int)) → (∀ x r, L.drop i = x :: r → (st.length : Int) = x) →
    ∃ st' D, loopM (m_pops_of_b1 L) (Z.upto i ((L.length - 1 : Nat) : Int)) (st, d) = some (.go (st', D)) ∧ (∀ p, p < (i : Int) → p ∉ st → Z.dget D p = Z.dget d p) ∧ (∀ (j : Nat) (p : Int), st[j]? = some p → Z.dget D p = ((fe ((j : Int) + 1) i (L.drop i)).map (· - 1)).or (Z.dget d p)) ∧
      (∀ (t : Nat) (a b : Int) (r : List Int), i ≤ t → L.drop t = a :: b :: r → a < b → Z.dget D (t : Int) = ((fe b ((t : Int) + 1) (b :: r)).map (· - 1)).or (Z.dget d (t : Int)))
  | 0, i, st, d, hk, _, _, _, _, hx => by
    have hd : (L.drop i).length = 1 := by rw [List.length_drop]; omega
    refine ⟨st, d, by rw [upto_nil (by omega)]; rfl, fun _ _ _ => rfl, fun j p hj => ?_, fun t a b r ht e _ => ?_⟩
    · match hq : L.drop i, hd with
      | [x], _ =>
        have := hx x [] hq
        have hj' := (List.getElem?_eq_some_iff.mp hj).1
        rw [fe_ge (by omega)]; rfl
    · have := congrArg List.length e
      rw [List.length_drop, List.length_cons, List.length_cons] at this
      omega
  | k + 1, i, st, d, hk, hs, hdl, nd, lt, hx => by
    obtain ⟨x, y, R, hd⟩ : ∃ x y R, L.drop i = x :: y :: R := by
      have : 2 ≤ (L.drop i).length := by rw [List.length_drop]; omega
      match hq : L.drop i, this with
      | a :: b :: r, _ => exact ⟨a, b, r, rfl⟩
    have h1 := drop_at hd
    have h2 := drop_at h1.2
    have gd : Lev (x :: y :: R) := hd ▸ lev_drop i g
    have i1 : (i : Int) + 1 = ((i + 1 : Nat) : Int) := by omega
    have a1 : atI L (i : Int) = some x := atI_nat h1.1
    have a2 : atI L ((i : Int) + 1) = some y := by rw [i1]; exact atI_nat h2.1
    have hxl := hx x _ hd
    rw [upto_cons (by omega)]
    have fei : ∀ j : Nat, (j : Int) < x → fe ((j : Int) + 1) i (L.drop i) = fe ((j : Int) + 1) ((i + 1 : Nat) : Int) (L.drop (i + 1)) := fun j hj => by rw [hd, h1.2, fe_ge (by omega), i1]
    have spec3 : ∀ {D d' : List (Int × Int)}, (∀ t : Nat, i < t → Z.dget d' (t : Int) = Z.dget d (t : Int)) → (∀ (t : Nat) (a b : Int) (r : List Int), i + 1 ≤ t → L.drop t = a :: b :: r → a < b → Z.dget D (t : Int) = ((fe b ((t : Int) + 1) (b :: r)).map (· - 1)).or (Z.dget d' (t : Int))) → (x < y → Z.dget D (i : Int) = ((fe y ((i : Int) + 1) (y :: R)).map (· - 1)).or (Z.dget d (i : Int))) →
        ∀ (t : Nat) (a b : Int) (r : List Int), i ≤ t → L.drop t = a :: b :: r → a < b → Z.dget D (t : Int) = ((fe b ((t : Int) + 1) (b :: r)).map (· - 1)).or (Z.dget d (t : Int)) := fun {D d'} e1 e2 e3 t a b r ht he hab => by
      rcases Nat.lt_or_ge i t with z | z
      · rw [e2 t a b r z he hab, e1 t z]
      · have : t = i := by omega
        subst this
        rw [hd] at he
        injection he with q1 q2
        injection q2 with q2 q3
        subst q1 q2 q3
        exact e3 hab
    by_cases hup : x < y
    · have step : m_pops_of_b1 L i (st, d) = some (.go (st ++ [(i : Int)], d)) := by
        unfold m_pops_of_b1
        rw [to_bind a1, to_bind a2, if_pos (decide_eq_true hup), chk_bind (line_le (by show st.length ≤ _; omega)).2]
      have hy : y = x + 1 := by have := gd.1; omega
      obtain ⟨st', D, e, s1, s2, s3⟩ := pops_loop g hl k (i + 1) (st ++ [(i : Int)]) d (by omega) (by simp; omega) (by omega)
        (by rw [List.nodup_append]; refine ⟨nd, by simp, fun a ha b hb => ?_⟩; rw [List.mem_singleton.mp hb]; have := lt a ha; omega)
        (fun p hp => by rcases List.mem_append.mp hp with q | q
                        · have := lt p q; omega
                        · rw [List.mem_singleton.mp q]; omega)
        (fun a r ha => by rw [h1.2] at ha; injection ha with q _; rw [← q, hy]; simp; omega)
      refine ⟨st', D, by rw [loop_cons step, i1]; exact e, fun p hp hn => s1 p (by omega) (by simp; exact ⟨hn, by omega⟩), fun j p hj => ?_, spec3 (fun _ _ => rfl) s3 fun _ => ?_⟩
      · have hj' := (List.getElem?_eq_some_iff.mp hj).1
        rw [s2 j p (by rw [List.getElem?_append_left hj']; exact hj), fei j (by omega)]
      · have := s2 st.length (i : Int) (by simp)
        rw [this, h1.2, hxl, ← hy, i1]
    · by_cases hdn : y < x
      · have hpos : st ≠ [] := fun z => by
          rw [z] at hxl
          have h0 := lev_head gd.2.2
          simp at hxl; omega
        obtain ⟨st0, q, rfl⟩ := snoc st hpos
        have hlen : (st0.length : Int) + 1 = x := by rw [← hxl]; simp
        have hy : y = x - 1 := by have := gd.1; omega
        have step : m_pops_of_b1 L i (st0 ++ [q], d) = some (.go (st0, Z.dput d q i)) := by
          unfold m_pops_of_b1
          rw [to_bind a1, to_bind a2, if_neg (by simpa using hup), to_bind a1, to_bind a2, if_pos (decide_eq_true hdn), to_bind (last_app st0 q), chk_bind (line_le (by show d.length ≤ _; omega)).2]
          show some (Step.go ((st0 ++ [q]).dropLast, _)) = _
          rw [List.dropLast_concat]
        have nd' := List.nodup_append.mp nd
        have hq0 : q ∉ st0 := fun z => nd'.2.2 q z q (by simp) rfl
        have hqi : q < (i : Int) := lt q (by simp)
        obtain ⟨st', D, e, s1, s2, s3⟩ := pops_loop g hl k (i + 1) st0 (Z.dput d q i) (by omega) (by simp at hs; omega) (by have := dput_len d q (i : Int); omega) nd'.1
          (fun p hp => by have := lt p (List.mem_append_left _ hp); omega)
          (fun a r ha => by rw [h1.2] at ha; injection ha with q' _; rw [← q', hy]; omega)
        refine ⟨st', D, by rw [loop_cons step, i1]; exact e, fun p hp hn => ?_, fun j p hj => ?_, spec3 (fun t ht => ?_) s3 fun z => absurd z hup⟩
        · simp at hn
          rw [s1 p (by omega) hn.1, dget_dput, if_neg hn.2]
        · have hj' := (List.getElem?_eq_some_iff.mp hj).1
          rw [List.length_append, List.length_singleton] at hj'
          rcases Nat.lt_or_ge j st0.length with z | z
          · have hj0 : st0[j]? = some p := by rw [List.getElem?_append_left z] at hj; exact hj
            have hpq : p ≠ q := fun w => hq0 (w ▸ List.mem_of_getElem? hj0)
            rw [s2 j p hj0, fei j (by omega), dget_dput, if_neg hpq]
          · have ej : j = st0.length := by omega
            subst ej
            rw [List.getElem?_concat_length] at hj
            have ep : q = p := Option.some.inj hj
            subst ep
            rw [s1 q (by omega) hq0, dget_dput, if_pos rfl, hd, fe_ge (by omega)]
            have e2 : fe ((st0.length : Int) + 1) ((i : Int) + 1) (y :: R) = some ((i : Int) + 1) := by
              show (if y < _ then _ else _) = _
              rw [if_pos (by omega)]
            rw [e2]
            show some (i : Int) = some ((i : Int) + 1 - 1)
            congr 1; omega
        · rw [dget_dput, if_neg (by omega)]
      · have step : m_pops_of_b1 L i (st, d) = some (.go (st, d)) := by
          unfold m_pops_of_b1
          rw [to_bind a1, to_bind a2, if_neg (by simpa using hup), to_bind a1, to_bind a2, if_neg (by simpa using hdn)]
        obtain ⟨st', D, e, s1, s2, s3⟩ := pops_loop g hl k (i + 1) st d (by omega) (by omega) (by omega) nd (fun p hp => by have := lt p hp; omega)
          (fun a r ha => by rw [h1.2] at ha; injection ha with q' _; rw [← q']; omega)
        refine ⟨st', D, by rw [loop_cons step, i1]; exact e, fun p hp hn => s1 p (by omega) hn, fun j p hj => ?_, spec3 (fun _ _ => rfl) s3 fun z => absurd z hup⟩
        have hj' := (List.getElem?_eq_some_iff.mp hj).1
        rw [s2 j p hj, fei j (by omega)]
theorem pops_ok {L : List Int} (g : Lev L) (h0 : ∃ r, L = 0 :: r) (hl : L.length ≤ 2000) : ∃ D, m_pops_of L = some D ∧ ∀ (t : Nat) (a b : Int) (r : List Int), L.drop t = a :: b :: r → a < b → Z.dget D (t : Int) = (fe b ((t : Int) + 1) (b :: r)).map (· - 1) := by
  obtain ⟨r0, rfl⟩ := h0
  obtain ⟨st', D, e, _, _, s3⟩ := pops_loop g hl r0.length 0 [] [] (by simp) (by simp at hl ⊢ <;> omega) (by simp at hl ⊢ <;> omega) List.nodup_nil (fun p hp => by cases hp) (fun x r hx => by injection hx with q _)
  refine ⟨D, ?_, fun t a b r he hab => ?_⟩
  · unfold m_pops_of
    rw [chk_bind (show Z.CRng ((((0 : Int) :: r0).length : Int) - 1) from ⟨by simp <;> omega, by simp at hl ⊢ <;> omega⟩)]
    have e1 : ((((0 : Int) :: r0).length : Nat) : Int) - 1 = ((((0 : Int) :: r0).length - 1 : Nat) : Int) := by simp
    rw [e1]
    have e' : loopM (m_pops_of_b1 (0 :: r0)) (Z.upto 0 ((((0 : Int) :: r0).length - 1 : Nat) : Int)) (([] : List Int), ([] : List (Int × Int))) = some (.go (st', D)) := e
    rw [to_bind e', after_go]
  · rw [s3 t a b r (Nat.zero_le _) he hab, dget_nil]
    cases (fe b ((t : Int) + 1) (b :: r)).map (· - 1) <;> rfl
end Zm
/-! Heights of calls, and calls_of whole. -/
namespace Zm
open PySem PySem.Spec PyProof.Rows L2 Z
/-- how far the calls of these levels go above c, until one that is not above c -/
def Hs (c : Int) : List Int → Int
  | [] => 0
  | y :: r => if c < y then Z.imax (y - c) (Hs c r) else 0
def hts : List Int → List Int
  | [] => []
  | x :: r => (Hs x r + 1) :: hts r
/-- the greatest height of those of level c + 1 -/
def Hc (c : Int) : List Int → Int
  | [] => 0
  | y :: r => if c < y then (if y = c + 1 then Z.imax (Hc c r) (Hs y r + 1) else Hc c r) else 0
theorem imax_def (a b : Int) : Z.imax a b = if a < b then b else a := rfl
theorem Hs_nn (c : Int) : ∀ r, 0 ≤ Hs c r
  | [] => Int.le_refl 0
  | y :: r => by
    have := Hs_nn c r
    show 0 ≤ if c < y then Z.imax (y - c) (Hs c r) else 0
    rw [imax_def]; split <;> (try split) <;> omega
theorem Hc_nn (c : Int) : ∀ r, 0 ≤ Hc c r
  | [] => Int.le_refl 0
  | y :: r => by
    have h1 := Hc_nn c r
    have h2 := Hs_nn y r
    show 0 ≤ if c < y then (if y = c + 1 then Z.imax (Hc c r) (Hs y r + 1) else Hc c r) else 0
    rw [imax_def]; split <;> (try split) <;> (try split) <;> omega
theorem Hc_Hs (c : Int) : ∀ r, Z.imax (Hs (c + 1) r + 1) (Hc c r) = Z.imax 1 (Hs c r)
  | [] => rfl
  | z :: s => by
    have ih := Hc_Hs c s
    have n1 := Hs_nn (c + 1) s
    have n2 := Hs_nn c s
    have n3 := Hc_nn c s
    show Z.imax ((if c + 1 < z then Z.imax (z - (c + 1)) (Hs (c + 1) s) else 0) + 1) (if c < z then (if z = c + 1 then Z.imax (Hc c s) (Hs z s + 1) else Hc c s) else 0) = Z.imax 1 (if c < z then Z.imax (z - c) (Hs c s) else 0)
    by_cases h1 : c < z
    · by_cases h2 : z = c + 1
      · subst h2
        rw [if_neg (by omega), if_pos h1, if_pos rfl, if_pos h1]
        simp only [imax_def] at ih ⊢
        split at ih <;> split at ih <;> (repeat' split) <;> omega
      · rw [if_pos (by omega), if_pos h1, if_neg h2, if_pos h1]
        simp only [imax_def] at ih ⊢
        split at ih <;> split at ih <;> (repeat' split) <;> omega
    · rw [if_neg (by omega), if_neg h1, if_neg h1]
      rfl
/-- each next level is at most one more -/
def Chain : List Int → Prop
  | x :: y :: r => y ≤ x + 1 ∧ Chain (y :: r)
  | _ => True
theorem Hc_eq {x : Int} : ∀ {r : List Int}, Chain (x :: r) → Hc x r = Hs x r
  | [], _ => rfl
  | z :: s, h => by
    have := Hc_Hs x s
    have n1 := Hs_nn (x + 1) s
    have n2 := Hs_nn x s
    have n3 := Hc_nn x s
    have hz := h.1
    show (if x < z then (if z = x + 1 then Z.imax (Hc x s) (Hs z s + 1) else Hc x s) else 0) = if x < z then Z.imax (z - x) (Hs x s) else 0
    by_cases h1 : x < z
    · have e : z = x + 1 := by omega
      subst e
      rw [if_pos h1, if_pos rfl, if_pos h1]
      simp only [imax_def] at this ⊢
      split at this <;> split at this <;> (repeat' split) <;> omega
    · rw [if_neg h1, if_neg h1]
/-- a walk all of whose turns go on -/
def Runs {S R T : Type} (f : T → S → Option (Step S R)) : List T → S → S → Prop
  | [], s, s' => s = s'
  | x :: r, s, s' => ∃ t, f x s = some (.go t) ∧ Runs f r t s'
theorem Runs.loop {S R T : Type} {f : T → S → Option (Step S R)} : ∀ {l : List T} {s s' : S}, Runs f l s s' → loopM f l s = some (.go s')
  | [], s, s', h => by cases h; rfl
  | x :: r, s, s', ⟨t, h1, h2⟩ => by rw [loop_cons h1]; exact Runs.loop h2
theorem Runs.app {S R T : Type} {f : T → S → Option (Step S R)} : ∀ {a b : List T} {s t u : S}, Runs f a s t → Runs f b t u → Runs f (a ++ b) s u
  | [], _, _, _, _, h, h' => by cases h; exact h'
  | x :: r, _, _, _, _, ⟨t, h1, h2⟩, h' => ⟨t, h1, Runs.app h2 h'⟩
theorem setI_nat {α : Type} {l : List α} {i : Nat} (h : i < l.length) (v : α) : Z.setI l (i : Int) v = some (l.set i v) := by
  unfold Z.setI ixN
  rw [if_pos (by omega), if_pos (by omega)]
  rfl
theorem heights_loop (N : Nat) : ∀ cl : List Int, Chain cl → cl.length ≤ 2000 → (∀ y ∈ cl, 1 ≤ y ∧ y + 1 < (N : Int)) →
    ∃ inner, Runs m_heights_of_b1 cl.reverse (List.replicate N (0 : Int), ([] : List Int)) (inner, (hts cl).reverse) ∧ inner.length = N ∧ (∀ k : Nat, 1 ≤ k → k < N → inner[k]? = some (Hc ((k : Int) - 1) cl)) ∧ (hts cl).length = cl.length
  | [], _, _, _ => ⟨_, rfl, List.length_replicate, fun k _ hk => by rw [List.getElem?_replicate_of_lt hk]; rfl, rfl⟩
  | x :: r, h, hl, hb => by
    have hr : Chain r := by
      cases r with
      | nil => exact trivial
      | cons y s => exact h.2
    rw [List.length_cons] at hl
    obtain ⟨inner, e, s1, s2, s3⟩ := heights_loop N r hr (by omega) fun y hy => hb y (List.mem_cons_of_mem _ hy)
    obtain ⟨b1, b2⟩ := hb x List.mem_cons_self
    obtain ⟨j, rfl⟩ : ∃ j : Nat, x = (j : Int) := ⟨x.toNat, by omega⟩
    rw [List.reverse_cons]
    have jx : (j : Int) + 1 = ((j + 1 : Nat) : Int) := by omega
    have c1 : atI inner ((j : Int) + 1) = some (Hc (j : Int) r) := by
      rw [jx]
      refine atI_nat ?_
      rw [s2 (j + 1) (by omega) (by omega)]
      rw [show ((j + 1 : Nat) : Int) - 1 = (j : Int) by omega]
    have c2 : Z.setI inner ((j : Int) + 1) (0 : Int) = some (inner.set (j + 1) 0) := by rw [jx]; exact setI_nat (by omega) 0
    have c3 : atI (inner.set (j + 1) 0) (j : Int) = some (Hc ((j : Int) - 1) r) := by
      refine atI_nat ?_
      rw [List.getElem?_set_ne (by omega), s2 j (by omega) (by omega)]
    have c4 : ∀ v : Int, Z.setI (inner.set (j + 1) 0) (j : Int) v = some ((inner.set (j + 1) 0).set j v) := fun v => setI_nat (by rw [List.length_set]; omega) v
    have hx := Hc_eq h
    refine ⟨if decide (Hc ((j : Int) - 1) r < Hc (j : Int) r + 1) = true then (inner.set (j + 1) 0).set j (Hc (j : Int) r + 1) else inner.set (j + 1) 0, e.app ⟨_, ?_, rfl⟩, ?_, ?_, ?_⟩
    · unfold m_heights_of_b1
      rw [to_bind c1, to_bind c2]
      have c5 : ((atI (inner.set (j + 1) 0) (j : Int) >>= fun x21 => if decide (x21 < Hc (j : Int) r + 1) = true then Z.setI (inner.set (j + 1) 0) (j : Int) (Hc (j : Int) r + 1) >>= fun y23 => some y23 else some (inner.set (j + 1) 0)) : Option (List Int)) =
          some (if decide (Hc ((j : Int) - 1) r < Hc (j : Int) r + 1) = true then (inner.set (j + 1) 0).set j (Hc (j : Int) r + 1) else inner.set (j + 1) 0) := by
        rw [to_bind c3]
        by_cases q : decide (Hc ((j : Int) - 1) r < Hc (j : Int) r + 1) = true
        · rw [if_pos q, if_pos q, to_bind (c4 _)]
        · rw [if_neg q, if_neg q]
      rw [to_bind c5, chk_bind (line_le (by show (hts r).reverse.length ≤ _; rw [List.length_reverse]; omega)).2]
      rw [show hts ((j : Int) :: r) = (Hs (j : Int) r + 1) :: hts r from rfl, List.reverse_cons, hx]
    · split <;> simp [s1]
    · intro k k1 k2
      show _ = some (if (k : Int) - 1 < (j : Int) then (if (j : Int) = (k : Int) - 1 + 1 then Z.imax (Hc ((k : Int) - 1) r) (Hs (j : Int) r + 1) else Hc ((k : Int) - 1) r) else 0)
      by_cases kj : k = j
      · subst kj
        have t1 : (k : Int) - 1 < (k : Int) := by omega
        have t2 : (k : Int) = (k : Int) - 1 + 1 := by omega
        by_cases q : Hc ((k : Int) - 1) r < Hc (k : Int) r + 1
        · rw [if_pos (decide_eq_true q), List.getElem?_set_self (by rw [List.length_set]; omega), if_pos t1, if_pos t2, imax_def, ← hx, if_pos q]
        · rw [if_neg (by simpa using q), List.getElem?_set_ne (by omega), s2 k k1 k2, if_pos t1, if_pos t2, imax_def, ← hx, if_neg q]
      · have e0 : (if decide (Hc ((j : Int) - 1) r < Hc (j : Int) r + 1) = true then (inner.set (j + 1) 0).set j (Hc (j : Int) r + 1) else inner.set (j + 1) 0)[k]? = (inner.set (j + 1) 0)[k]? := by
          split
          · rw [List.getElem?_set_ne (by omega)]
          · rfl
        rw [e0]
        by_cases k3 : k = j + 1
        · subst k3
          rw [List.getElem?_set_self (by omega), if_neg (by omega)]
        · rw [List.getElem?_set_ne (by omega), s2 k k1 k2]
          by_cases k4 : (k : Int) - 1 < (j : Int)
          · rw [if_pos k4, if_neg (by omega)]
          · rw [if_neg k4]
            cases r with
            | nil => rfl
            | cons y s =>
              have := h.1
              show some (if (k : Int) - 1 < y then _ else (0 : Int)) = some 0
              rw [if_neg (by omega)]
    · show (hts r).length + 1 = r.length + 1
      rw [s3]
theorem lmaxD_ge {l : List Int} {d : Int} : ∀ y ∈ l, y ≤ Z.lmaxD l d := fun y hy => by
  unfold Z.lmaxD
  cases l with
  | nil => cases hy
  | cons x r =>
    rw [if_neg (by simp)]
    obtain ⟨⟨a, b⟩, c⟩ := foldmax r x
    rcases List.mem_cons.mp hy with e | e
    · rw [e]; exact a
    · exact b y e
theorem lmaxD_mem {l : List Int} {d : Int} : Z.lmaxD l d = d ∨ Z.lmaxD l d ∈ l := by
  unfold Z.lmaxD
  cases l with
  | nil => exact .inl rfl
  | cons x r =>
    rw [if_neg (by simp)]
    obtain ⟨_, c⟩ := foldmax r x
    rcases c with e | e
    · exact .inr (by show r.foldl _ x ∈ _; rw [e]; exact List.mem_cons_self)
    · exact .inr (List.mem_cons_of_mem _ e)
theorem repL_one (k : Int) (v : Int) : Z.repL [v] k = List.replicate k.toNat v := by
  unfold Z.repL
  induction k.toNat with
  | zero => rfl
  | succ n ih => rw [List.replicate_succ, List.replicate_succ, List.flatten_cons, ih]; rfl
theorem heights_ok {cl : List Int} (h : Chain cl) (hl : cl.length ≤ 2000) (hb : ∀ y ∈ cl, 1 ≤ y ∧ y ≤ 2000) : m_heights_of cl = some (hts cl) := by
  have m2 : Z.lmaxD cl 0 ≤ 2000 ∧ 0 ≤ Z.lmaxD cl 0 := by
    rcases lmaxD_mem (l := cl) (d := 0) with e | e
    · rw [e]; decide
    · have := hb _ e; omega
  obtain ⟨inner, e, _⟩ := heights_loop (Z.lmaxD cl 0 + 2).toNat cl h hl fun y hy => by
    have := hb y hy
    have := lmaxD_ge (d := 0) y hy
    omega
  have sl : sizeLine = 16777216 := by decide
  unfold m_heights_of
  rw [chk_bind (show Z.CRepL ([(0 : Int)]).length (Z.lmaxD cl 0 + 2) from ⟨by omega, by omega, by rw [List.length_singleton, sl]; omega⟩), repL_one, to_bind e.loop, after_go, List.reverse_reverse]
theorem cut_tail (l : List Int) : Z.cutL l (some (1 : Int)) none = l.tail := by
  unfold Z.cutL
  rw [HT.sIx_none]
  have e : HT.sIx l.length 0 (some (1 : Int)) = min 1 l.length := HT.sIx_nat l.length 0 1
  rw [e]
  cases l with
  | nil => rfl
  | cons x r =>
    rw [show min 1 (x :: r).length = 1 by rw [List.length_cons]; omega]
    show List.take ((r.length + 1) - 1) r = r
    rw [Nat.add_sub_cancel, List.take_length]
/-! ### pushes and their levels -/
def psh : Int → List Int → List Int
  | i, x :: y :: r => if x < y then i :: psh (i + 1) (y :: r) else psh (i + 1) (y :: r)
  | _, _ => []
def plv : List Int → List Int
  | x :: y :: r => if x < y then y :: plv (y :: r) else plv (y :: r)
  | _ => []
theorem plv_head : ∀ {x : Int} {r : List Int}, Lev (x :: r) → ∀ {z s}, plv (x :: r) = z :: s → z ≤ x + 1
  | x, [], _, z, s, h => by cases h
  | x, y :: r, g, z, s, h => by
    have gx := g.1
    by_cases hc : x < y
    · rw [show plv (x :: y :: r) = y :: plv (y :: r) from if_pos hc] at h
      injection h with h1 _; omega
    · rw [show plv (x :: y :: r) = plv (y :: r) from if_neg hc] at h
      have := plv_head g.2.2 h; omega
theorem plv_chain : ∀ {l : List Int}, Lev l → Chain (plv l)
  | [], _ => trivial
  | [_], _ => trivial
  | x :: y :: r, g => by
    have ih := plv_chain (l := y :: r) g.2.2
    by_cases hc : x < y
    · rw [show plv (x :: y :: r) = y :: plv (y :: r) from if_pos hc]
      cases e : plv (y :: r) with
      | nil => exact trivial
      | cons z s => rw [e] at ih; exact ⟨plv_head g.2.2 e, ih⟩
    · rw [show plv (x :: y :: r) = plv (y :: r) from if_neg hc]; exact ih
theorem plv_len : ∀ l : List Int, (plv l).length ≤ l.length
  | [] => Nat.le_refl _
  | [_] => Nat.zero_le _
  | x :: y :: r => by
    have ih := plv_len (y :: r)
    by_cases hc : x < y
    · rw [show plv (x :: y :: r) = y :: plv (y :: r) from if_pos hc]; simp only [List.length_cons] at ih ⊢; omega
    · rw [show plv (x :: y :: r) = plv (y :: r) from if_neg hc]; simp only [List.length_cons] at ih ⊢; omega
theorem psh_len : ∀ (l : List Int) (i : Int), (psh i l).length = (plv l).length
  | [], _ => rfl
  | [_], _ => rfl
  | x :: y :: r, i => by
    have ih := psh_len (y :: r) (i + 1)
    by_cases hc : x < y
    · rw [show plv (x :: y :: r) = y :: plv (y :: r) from if_pos hc, show psh i (x :: y :: r) = i :: psh (i + 1) (y :: r) from if_pos hc, List.length_cons, List.length_cons, ih]
    · rw [show plv (x :: y :: r) = plv (y :: r) from if_neg hc, show psh i (x :: y :: r) = psh (i + 1) (y :: r) from if_neg hc, ih]
theorem Hs_low {c : Int} {x : Int} {r : List Int} (g : Lev (x :: r)) (h : x < c) : Hs c (plv (x :: r)) = 0 := by
  cases e : plv (x :: r) with
  | nil => rfl
  | cons z s =>
    have := plv_head g e
    show (if c < z then _ else (0 : Int)) = 0
    rw [if_neg (by omega)]
theorem mx_Hs {c : Int} : ∀ {s : List Int} {z b : Int}, Lev (z :: s) → c ≤ z → z ≤ b → mx c b (z :: s) = Z.imax b (Hs c (plv (z :: s)) + c)
  | [], z, b, g, h1, h2 => by
    show (if z < c then b else Z.imax b z) = Z.imax b (0 + c)
    rw [if_neg (by omega), imax_of' h2, imax_of' (by omega)]
  | w :: s, z, b, g, h1, h2 => by
    have e0 : mx c b (z :: w :: s) = mx c b (w :: s) := by
      show (if z < c then b else mx c (Z.imax b z) (w :: s)) = _
      rw [if_neg (by omega), imax_of' h2]
    rw [e0]
    have gz := g.1
    by_cases hw : w < c
    · rw [show plv (z :: w :: s) = plv (w :: s) from if_neg (by omega), Hs_low g.2.2 hw]
      show (if w < c then b else _) = _
      rw [if_pos hw, imax_of' (by omega)]
    · by_cases hz : z < w
      · have e1 : mx c b (w :: s) = mx c (Z.imax b w) (w :: s) := by
          show (if w < c then b else mx c (Z.imax b w) s) = if w < c then Z.imax b w else mx c (Z.imax (Z.imax b w) w) s
          rw [if_neg hw, if_neg hw, imax_of' (a := Z.imax b w) (b := w) (by rw [imax_def]; split <;> omega)]
        rw [e1, mx_Hs g.2.2 (by omega) (by rw [imax_def]; split <;> omega), show plv (z :: w :: s) = w :: plv (w :: s) from if_pos hz]
        have n := Hs_nn c (plv (w :: s))
        show _ = Z.imax b ((if c < w then Z.imax (w - c) (Hs c (plv (w :: s))) else 0) + c)
        rw [if_pos (by omega)]
        simp only [imax_def]
        (repeat' split) <;> omega
      · rw [show plv (z :: w :: s) = plv (w :: s) from if_neg hz, mx_Hs g.2.2 (by omega) (by omega)]
theorem height_eq {y : Int} {r : List Int} (g : Lev (y :: r)) : mx y y (y :: r) - y + 1 = Hs y (plv (y :: r)) + 1 := by
  rw [mx_Hs g (Int.le_refl y) (Int.le_refl y), imax_of (by have := Hs_nn y (plv (y :: r)); omega)]
  omega
/-! ### the comprehensions -/
theorem comp_cons {T U : Type} {f : T → Unit → Option (Option U × Unit)} {x : T} {r : List T} {o : Option U} {us : List U} (h : f x () = some (o, ())) (hr : compM f r () = some (us, ())) : compM f (x :: r) () = some (o.toList ++ us, ()) := by
  unfold compM
  cases o with
  | none => simp only [h]; exact hr
  | some u => simp only [h, hr]; rfl
theorem pushes_loop (L : List Int) : ∀ (k i : Nat), i + k + 1 = L.length → compM (m_calls_of_c1 L) (Z.upto i ((L.length - 1 : Nat) : Int)) () = some (psh i (L.drop i), ())
  | 0, i, hk => by
    have hd : (L.drop i).length = 1 := by rw [List.length_drop]; omega
    rw [upto_nil (by omega)]
    match hq : L.drop i, hd with
    | [x], _ => rfl
  | k + 1, i, hk => by
    obtain ⟨x, y, R, hd⟩ : ∃ x y R, L.drop i = x :: y :: R := by
      have : 2 ≤ (L.drop i).length := by rw [List.length_drop]; omega
      match hq : L.drop i, this with
      | a :: b :: r, _ => exact ⟨a, b, r, rfl⟩
    have h1 := drop_at hd
    have h2 := drop_at h1.2
    have i1 : (i : Int) + 1 = ((i + 1 : Nat) : Int) := by omega
    have a1 : atI L (i : Int) = some x := atI_nat h1.1
    have a2 : atI L ((i : Int) + 1) = some y := by rw [i1]; exact atI_nat h2.1
    have p1 := pushes_loop L k (i + 1) (by omega)
    rw [h1.2, ← i1] at p1
    rw [upto_cons (by omega), hd]
    by_cases hc : x < y
    · have e1 : m_calls_of_c1 L i () = some (some (i : Int), ()) := by
        unfold m_calls_of_c1
        rw [to_bind a1, to_bind a2, if_pos (decide_eq_true hc)]
      rw [show psh i (x :: y :: R) = (i : Int) :: psh ((i : Int) + 1) (y :: R) from if_pos hc]
      exact comp_cons e1 p1
    · have e1 : m_calls_of_c1 L i () = some (none, ()) := by
        unfold m_calls_of_c1
        rw [to_bind a1, to_bind a2, if_neg (by simpa using hc)]
      rw [show psh i (x :: y :: R) = psh ((i : Int) + 1) (y :: R) from if_neg hc]
      exact comp_cons e1 p1
theorem call_levels_comp : ∀ l : List Int, compM m_call_levels_of_c1 (List.zip l l.tail) () = some (plv l, ())
  | [] => rfl
  | [x] => rfl
  | x :: y :: r => by
    have ih := call_levels_comp (y :: r)
    show compM m_call_levels_of_c1 ((x, y) :: List.zip (y :: r) r) () = _
    by_cases hc : x < y
    · have e1 : m_call_levels_of_c1 (x, y) () = some (some y, ()) := by
        unfold m_call_levels_of_c1
        rw [if_pos (decide_eq_true hc)]
      rw [show plv (x :: y :: r) = y :: plv (y :: r) from if_pos hc]
      exact comp_cons e1 ih
    · have e1 : m_call_levels_of_c1 (x, y) () = some (none, ()) := by
        unfold m_call_levels_of_c1
        rw [if_neg (by simpa using hc)]
      rw [show plv (x :: y :: r) = plv (y :: r) from if_neg hc]
      exact comp_cons e1 ih
theorem call_levels_ok {l : List Int} (h : l.length ≤ 100000) : m_call_levels_of l = some (plv l) := by
  unfold m_call_levels_of
  rw [cut_tail, chk_bind (by rw [List.length_zip]; exact (line_le (by omega)).2), to_bind (call_levels_comp l)]
theorem plv_bound : ∀ {l : List Int}, Lev l → ∀ y ∈ plv l, 1 ≤ y ∧ y ∈ l
  | [], _, _, h => by cases h
  | [_], _, _, h => by cases h
  | x :: y :: r, g, z, hz => by
    have ih := plv_bound (l := y :: r) g.2.2
    by_cases hc : x < y
    · rw [show plv (x :: y :: r) = y :: plv (y :: r) from if_pos hc] at hz
      rcases List.mem_cons.mp hz with e | e
      · have := g.2.1; rw [e]; exact ⟨by omega, by simp⟩
      · exact ⟨(ih z e).1, List.mem_cons_of_mem _ (ih z e).2⟩
    · rw [show plv (x :: y :: r) = plv (y :: r) from if_neg hc] at hz
      exact ⟨(ih z hz).1, List.mem_cons_of_mem _ (ih z hz).2⟩
/-- the heights of the calls of a trace -/
theorem lv_heights {bs : List Bool} {top : Int} (hl : bs.length ≤ 1000) (h0 : 0 ≤ top) : m_call_levels_of (lv top bs) = some (plv (lv top bs)) ∧ m_heights_of (plv (lv top bs)) = some (hts (plv (lv top bs))) := by
  have ll := lv_len top bs
  have pl := plv_len (lv top bs)
  have g := lv_lev h0 bs
  refine ⟨call_levels_ok (by omega), heights_ok (plv_chain g) (by omega) fun y hy => ?_⟩
  obtain ⟨a, b⟩ := plv_bound g y hy
  have := lv_bound h0 y b
  omega
theorem zip_cls {L : List Int} {D : List (Int × Int)} (g : Lev L) (hD : ∀ (t : Nat) (a b : Int) (r : List Int), L.drop t = a :: b :: r → a < b → Z.dget D (t : Int) = (fe b ((t : Int) + 1) (b :: r)).map (· - 1)) :
    ∀ (k i : Nat), i + k + 1 = L.length → (List.zip (psh i (L.drop i)) (List.zip (plv (L.drop i)) (hts (plv (L.drop i))))).map (fun x => (x.1, Z.dget D x.1, x.2.1, x.2.2)) = cls i (L.drop i)
  | 0, i, hk => by
    have hd : (L.drop i).length = 1 := by rw [List.length_drop]; omega
    match hq : L.drop i, hd with
    | [x], _ => rfl
  | k + 1, i, hk => by
    obtain ⟨x, y, R, hd⟩ : ∃ x y R, L.drop i = x :: y :: R := by
      have : 2 ≤ (L.drop i).length := by rw [List.length_drop]; omega
      match hq : L.drop i, this with
      | a :: b :: r, _ => exact ⟨a, b, r, rfl⟩
    have h1 := drop_at hd
    have i1 : (i : Int) + 1 = ((i + 1 : Nat) : Int) := by omega
    have gd : Lev (x :: y :: R) := hd ▸ lev_drop i g
    have ih := zip_cls g hD k (i + 1) (by omega)
    rw [h1.2, ← i1] at ih
    have hp := hD i x y R hd
    rw [hd]
    by_cases hc : x < y
    · rw [show psh i (x :: y :: R) = (i : Int) :: psh ((i : Int) + 1) (y :: R) from if_pos hc, show plv (x :: y :: R) = y :: plv (y :: R) from if_pos hc,
        show cls i (x :: y :: R) = crec i y R :: cls ((i : Int) + 1) (y :: R) from if_pos hc, show hts (y :: plv (y :: R)) = (Hs y (plv (y :: R)) + 1) :: hts (plv (y :: R)) from rfl,
        List.zip_cons_cons, List.zip_cons_cons, List.map_cons, ih]
      congr 1
      show ((i : Int), Z.dget D (i : Int), y, Hs y (plv (y :: R)) + 1) = crec i y R
      unfold crec
      rw [hp hc, height_eq gd.2.2]
    · rw [show psh i (x :: y :: R) = psh ((i : Int) + 1) (y :: R) from if_neg hc, show plv (x :: y :: R) = plv (y :: R) from if_neg hc, show cls i (x :: y :: R) = cls ((i : Int) + 1) (y :: R) from if_neg hc, ih]
theorem hts_len : ∀ l : List Int, (hts l).length = l.length
  | [] => rfl
  | x :: r => by show (hts r).length + 1 = r.length + 1; rw [hts_len r]
theorem calls_ok {bs : List Bool} {top : Int} (o : ok 0 bs) (hl : bs.length ≤ 1000) (h0 : 0 ≤ top) (h1 : top ≤ 1000) : m_calls_of (tx bs) top = some (cls 0 (lv top bs)) := by
  have g := lv_lev h0 bs
  have ll := lv_len top bs
  obtain ⟨D, e1, hD⟩ := pops_ok g ⟨_, rfl⟩ (by omega)
  have p1 := pushes_loop (lv top bs) bs.length 0 (by omega)
  have hm : ((((lv top bs).length - 1 : Nat)) : Int) = (bs.length : Int) := by omega
  rw [hm] at p1
  have pl := plv_len (lv top bs)
  obtain ⟨hc, hh⟩ := lv_heights (top := top) hl h0
  have zz := zip_cls g hD bs.length 0 (by omega)
  unfold m_calls_of
  rw [to_bind (levels_ok o hl h0 h1), to_bind e1, tx_len, chk_bind (line_le (by omega)).1, chk_bind (show Z.CRng (bs.length : Int) from ⟨by omega, by omega⟩), chk_bind (by rw [upto_len]; exact (line_le (by omega)).2)]
  have p1' : compM (m_calls_of_c1 (lv top bs)) (Z.upto 0 (bs.length : Int)) () = some (psh 0 (lv top bs), ()) := p1
  rw [to_bind p1', to_bind hc, to_bind hh]
  rw [chk_bind (by rw [List.length_zip, psh_len]; exact (line_le (by omega)).2), to_bind (comp_map (f := m_calls_of_c2 D) (fun x => (x.1, Z.dget D x.1, x.2.1, x.2.2)) _ fun x _ => rfl)]
  exact congrArg some zz
end Zm
/-! Tuples that are shown; the bounds of calls; the laws' frame once more. -/
namespace Zm
open PySem PySem.Spec PyProof.Rows L2 Z
theorem sum_le {n : Nat} : ∀ {ts : List Str}, (∀ t ∈ ts, t.length ≤ n) → (ts.map (·.length)).sum ≤ ts.length * n
  | [], _ => by simp
  | t :: r, h => by
    have ih := sum_le (ts := r) fun x hx => h x (List.mem_cons_of_mem _ hx)
    have := h t List.mem_cons_self
    rw [List.map_cons, List.sum_cons, List.length_cons, Nat.succ_mul]; omega
theorem Sh.tuple {k n m : Nat} {ds : List PyData} (h : ∀ d ∈ ds, Sh k n d) (hm : ds.length ≤ m) : Sh (k + 1) (3 + m * (n + 2)) (.tuple ds) := by
  obtain ⟨a, b, c, l, e⟩ := all_sh h
  refine ⟨by simp [PyData.showable, a], by simp [PyData.canLay0, b], by simp only [PyData.depth]; omega, ?_⟩
  have j := StrLaws.join_length_le (", " : String) (PyData.shownAll ds)
  have s := sum_le e
  have e1 : (("(" : String) : Str).length = 1 := by decide +kernel
  have e2 : ((", " : String) : Str).length = 2 := by decide +kernel
  have e3 : (((if (PyData.shownAll ds).length == 1 then ",)" else ")") : String) : Str).length ≤ 2 := by
    split
    · decide +kernel
    · decide +kernel
  have e4 : ds.length * (n + 2) ≤ m * (n + 2) := Nat.mul_le_mul_right _ hm
  have e5 : ds.length * (n + 2) = ds.length * n + ds.length * 2 := Nat.mul_add _ _ _
  simp only [PyData.shown]
  unfold tupleText
  rw [strLen_append, strLen_append, e1]
  rw [e2, l] at j
  rw [l] at s
  omega
theorem Sh.optInt {o : Option Int} (h : ∀ i, o = some i → -(10 ^ 18) ≤ i ∧ i ≤ 10 ^ 18) : Sh 0 20 (Z.dO o) := by
  cases o with
  | none => exact Sh.none
  | some i => exact Sh.int (h i rfl).1 (h i rfl).2
theorem mx_bound {c B : Int} : ∀ {l : List Int} {b : Int}, b ≤ B → (∀ x ∈ l, x ≤ B) → b ≤ mx c b l ∧ mx c b l ≤ B
  | [], b, h, _ => ⟨Int.le_refl b, h⟩
  | x :: r, b, h, hl => by
    show b ≤ (if x < c then b else mx c (Z.imax b x) r) ∧ (if x < c then b else mx c (Z.imax b x) r) ≤ B
    have hx := hl x List.mem_cons_self
    by_cases e : x < c
    · rw [if_pos e]; exact ⟨Int.le_refl b, h⟩
    · rw [if_neg e]
      have h1 : b ≤ Z.imax b x ∧ Z.imax b x ≤ B := by rw [imax_def]; split <;> omega
      have := mx_bound (c := c) h1.2 fun y hy => hl y (List.mem_cons_of_mem _ hy)
      omega
def RecB (i n B : Int) (r : Rec) : Prop := i ≤ r.1 ∧ r.1 < i + n ∧ (∀ q, r.2.1 = some q → i ≤ q ∧ q < i + n) ∧ 0 ≤ r.2.2.1 ∧ r.2.2.1 ≤ B ∧ 0 ≤ r.2.2.2 ∧ r.2.2.2 ≤ B + 1
theorem cls_bound {B : Int} : ∀ {ls : List Int} {i : Int}, (∀ x ∈ ls, 0 ≤ x ∧ x ≤ B) → (cls i ls).length ≤ ls.length ∧ ∀ r ∈ cls i ls, RecB i ls.length B r
  | [], i, _ => ⟨Nat.le_refl _, fun r hr => by cases hr⟩
  | [x], i, _ => ⟨Nat.zero_le _, fun r hr => by cases hr⟩
  | x :: y :: R, i, h => by
    obtain ⟨l, ih⟩ := cls_bound (ls := y :: R) (i := i + 1) fun z hz => h z (List.mem_cons_of_mem _ hz)
    have wk : ∀ r, RecB (i + 1) ((y :: R).length : Nat) B r → RecB i ((x :: y :: R).length : Nat) B r := fun r ⟨a, b, c, d⟩ => by
      rw [List.length_cons (a := x)]
      exact ⟨by omega, by omega, fun q hq => by have := c q hq; omega, d⟩
    by_cases hc : x < y
    · rw [show cls i (x :: y :: R) = crec i y R :: cls (i + 1) (y :: R) from if_pos hc]
      refine ⟨by rw [List.length_cons, List.length_cons (a := x)]; omega, fun r hr => ?_⟩
      rcases List.mem_cons.mp hr with e | e
      · subst e
        have hy := h y (by simp)
        have hm := mx_bound (c := y) (l := y :: R) hy.2 fun z hz => (h z (List.mem_cons_of_mem _ hz)).2
        refine ⟨by show i ≤ i; omega, by show i < i + _; rw [List.length_cons]; omega, fun q hq => ?_, hy.1, hy.2, by show 0 ≤ mx y y (y :: R) - y + 1; omega, by show mx y y (y :: R) - y + 1 ≤ B + 1; omega⟩
        have hq' : (fe y (i + 1) (y :: R)).map (· - 1) = some q := hq
        cases z : fe y (i + 1) (y :: R) with
        | none => rw [z] at hq'; cases hq'
        | some w =>
          rw [z] at hq'
          have hw : w - 1 = q := Option.some.inj hq'
          have := fe_lt z
          simp only [List.length_cons] at this ⊢
          omega
      · exact wk r (ih r e)
    · rw [show cls i (x :: y :: R) = cls (i + 1) (y :: R) from if_neg hc]
      exact ⟨by rw [List.length_cons (a := x)]; omega, fun r hr => wk r (ih r hr)⟩
/-- a call as data -/
def recD (y : Rec) : PyData := .tuple [.int y.1, Z.dO y.2.1, .int y.2.2.1, .int y.2.2.2]
theorem recs_sh {rs : List Rec} {n B : Int} (hn : n ≤ 10 ^ 9) (hB : B ≤ 10 ^ 9) (h : ∀ r ∈ rs, RecB 0 n B r) (hl : rs.length ≤ 1001) : Sh 2 93095 (.list (rs.map recD)) := by
  refine (Sh.list (k := 1) (n := 91) (m := 1001) (fun d hd => ?_) (by simpa using hl)).up (Nat.le_refl _) (by decide)
  obtain ⟨r, hr, rfl⟩ := List.mem_map.mp hd
  obtain ⟨a, b, c, d1, d2, e1, e2⟩ := h r hr
  refine (Sh.tuple (k := 0) (n := 20) (m := 4) (fun d hd => ?_) (by simp)).up (Nat.le_refl _) (by decide)
  simp only [List.mem_cons, List.not_mem_nil, or_false] at hd
  rcases hd with e | e | e | e <;> subst e
  · exact Sh.int (by omega) (by omega)
  · exact Sh.optInt fun q hq => by have := c q hq; omega
  · exact Sh.int (by omega) (by omega)
  · exact Sh.int (by omega) (by omega)
theorem calls_sh {bs : List Bool} {top : Int} (h0 : 0 ≤ top) (hl : bs.length ≤ 1000) : Sh 2 93095 (.list ((cls 0 (lv top bs)).map recD)) ∧ (cls 0 (lv top bs)).length ≤ 1001 := by
  have ll := lv_len top bs
  obtain ⟨a, b⟩ := cls_bound (B := bs.length) (ls := lv top bs) (i := 0) fun x hx => lv_bound h0 x hx
  exact ⟨recs_sh (n := (lv top bs).length) (B := bs.length) (by omega) (by omega) b (by omega), by omega⟩
/-! ### the laws' frame: how many steps, cells -/
theorem many_ok {script : List Int} {c : Bool} {m1 m2 : Int} {n : Int} {s : List Int} (h : Src n s) (hn : n ≤ 10 ^ 8) (p1 : 0 < m1 ∧ m1 ≤ 1000) (p2 : 0 < m2 ∧ m2 ≤ 1000) : ∃ (st : Int × List Int), (((if c = true then Z.chk (Z.CEq (PyData.list (script.map PyData.int)) (PyData.list (([] : List Int).map PyData.int))) >>= fun _ => some (!PyData.eqv (PyData.list (script.map PyData.int)) (PyData.list (([] : List Int).map PyData.int))) else some false) : Option Bool) >>= fun st27 => (if st27 = true then some ((1000 : Int), s) else
      Z.chk (Z.CEq (PyData.list (script.map PyData.int)) (PyData.list (([] : List Int).map PyData.int))) >>= fun _ => atI ([m1, m2]) (if (!PyData.eqv (PyData.list (script.map PyData.int)) (PyData.list (([] : List Int).map PyData.int))) = true then (1 : Int) else 0) >>= fun x35 => m__law_draw s x35 >>= fun r37 => some (r37.1, r37.2))) = some st ∧ 0 ≤ st.1 ∧ st.1 ≤ 1000 ∧ Src (n + 1) st.2 := by
  rw [chk_bind (eq_ints _ _), chk_bind (eq_ints _ _)]
  generalize PyData.eqv (PyData.list (script.map PyData.int)) (PyData.list (([] : List Int).map PyData.int)) = e
  have fin : ∀ e : Bool, ∃ st : Int × List Int, (atI ([m1, m2]) (if (!e) = true then (1 : Int) else 0) >>= fun x35 => m__law_draw s x35 >>= fun r37 => some (r37.1, r37.2)) = some st ∧ 0 ≤ st.1 ∧ st.1 ≤ 1000 ∧ Src (n + 1) st.2 := fun e => by
    obtain ⟨c, ec, c0, c1⟩ : ∃ c : Int, atI ([m1, m2]) (if (!e) = true then (1 : Int) else 0) = some c ∧ 0 < c ∧ c ≤ 1000 := by
      cases e
      · exact ⟨m2, rfl, p2⟩
      · exact ⟨m1, rfl, p1⟩
    obtain ⟨r, s', e1, r0, r1, h1⟩ := draw_ok (c := c) h (by omega) c0 (by omega)
    exact ⟨(r, s'), by rw [to_bind ec, to_bind e1], r0, by show r ≤ 1000; omega, h1⟩
  by_cases hx : c = true
  · rw [if_pos hx, some_bind]
    by_cases he : (!e) = true
    · rw [if_pos he]; exact ⟨(1000, s), rfl, by show (0 : Int) ≤ 1000; decide, by show (1000 : Int) ≤ 1000; decide, h.up (by omega)⟩
    · rw [if_neg he]; exact fin e
  · rw [if_neg hx, some_bind, if_neg (by decide)]; exact fin e
end Zm
/-! The heights of the open calls. -/
namespace Zm
open PySem PySem.Spec PyProof.Rows L2 Z
def mn : List Int → Int
  | [] => 0
  | [x] => x
  | x :: y :: r => Z.imin x (mn (y :: r))
def mxa : List Int → Int
  | [] => 0
  | [x] => x
  | x :: y :: r => Z.imax (mxa (y :: r)) x
def og : List Int → List Int
  | x :: y :: r => if x < mn (y :: r) then (mxa (y :: r) - mn (y :: r) + 1) :: og (y :: r) else og (y :: r)
  | _ => []
theorem imin_def (a b : Int) : Z.imin a b = if b < a then b else a := rfl
theorem mn_le : ∀ (x : Int) (r : List Int), mn (x :: r) ≤ x ∧ x ≤ mxa (x :: r)
  | x, [] => ⟨Int.le_refl x, Int.le_refl x⟩
  | x, y :: r => by
    show Z.imin x (mn (y :: r)) ≤ x ∧ x ≤ Z.imax (mxa (y :: r)) x
    rw [imin_def, imax_def]; constructor <;> split <;> omega
theorem mn_nn : ∀ {l : List Int}, Lev l → 0 ≤ mn l
  | [], _ => Int.le_refl 0
  | [x], h => h
  | x :: y :: r, h => by
    have := mn_nn (l := y :: r) h.2.2
    have hx := h.2.1
    show 0 ≤ Z.imin x (mn (y :: r))
    rw [imin_def]; split <;> omega
theorem fe_none {c : Int} : ∀ {r : List Int} {x e : Int}, fe c e (x :: r) = none ↔ c ≤ mn (x :: r)
  | [], x, e => by
    show (if x < c then some e else none) = none ↔ c ≤ x
    by_cases h : x < c
    · rw [if_pos h]; exact ⟨fun z => (by cases z), fun z => absurd h (by omega)⟩
    · rw [if_neg h]; exact ⟨fun _ => by omega, fun _ => rfl⟩
  | y :: r, x, e => by
    have ih := fe_none (c := c) (r := r) (x := y) (e := e + 1)
    show (if x < c then some e else fe c (e + 1) (y :: r)) = none ↔ c ≤ Z.imin x (mn (y :: r))
    rw [imin_def]
    by_cases h : x < c
    · rw [if_pos h]
      refine ⟨fun z => (by cases z), fun z => ?_⟩
      split at z <;> omega
    · rw [if_neg h, ih]
      split <;> omega
theorem mx_all {c : Int} : ∀ {r : List Int} {x b : Int}, c ≤ mn (x :: r) → mx c b (x :: r) = Z.imax b (mxa (x :: r))
  | [], x, b, h => by
    have h' : c ≤ x := h
    show (if x < c then b else Z.imax b x) = _
    rw [if_neg (by omega)]; rfl
  | y :: r, x, b, h => by
    have h' : c ≤ Z.imin x (mn (y :: r)) := h
    have hh : c ≤ x ∧ c ≤ mn (y :: r) := by rw [imin_def] at h'; split at h' <;> omega
    show (if x < c then b else mx c (Z.imax b x) (y :: r)) = Z.imax b (Z.imax (mxa (y :: r)) x)
    rw [if_neg (by omega), mx_all hh.2]
    simp only [imax_def]
    (repeat' split) <;> omega
/-- the heights of the calls that have no pop -/
def opn (r : Rec) : Option Int := if r.2.1 = none then some r.2.2.2 else none
theorem opn_cls : ∀ {l : List Int} {i : Int}, Lev l → (cls i l).filterMap opn = og l
  | [], _, _ => rfl
  | [_], _, _ => rfl
  | x :: y :: R, i, g => by
    have ih := opn_cls (l := y :: R) (i := i + 1) g.2.2
    have hm := mn_le y R
    have gx := g.1
    show List.filterMap opn (if x < y then crec i y R :: cls (i + 1) (y :: R) else cls (i + 1) (y :: R)) = if x < mn (y :: R) then (mxa (y :: R) - mn (y :: R) + 1) :: og (y :: R) else og (y :: R)
    by_cases hc : x < y
    · rw [if_pos hc, List.filterMap_cons]
      by_cases hn : y ≤ mn (y :: R)
      · have e1 : fe y (i + 1) (y :: R) = none := fe_none.mpr hn
        have e2 : opn (crec i y R) = some (mxa (y :: R) - mn (y :: R) + 1) := by
          unfold opn crec
          rw [e1, mx_all hn, imax_of hm.2, show mn (y :: R) = y by omega]
          rfl
        rw [e2, ih, if_pos (by omega)]
      · have e2 : opn (crec i y R) = none := by
          unfold opn crec
          cases q : fe y (i + 1) (y :: R) with
          | none => exact absurd (fe_none.mp q) hn
          | some w => rfl
        rw [e2, ih, if_neg (by omega)]
    · rw [if_neg hc, ih, if_neg (by omega)]
theorem comp_filter {T U : Type} {f : T → Unit → Option (Option U × Unit)} (g : T → Option U) : ∀ l : List T, (∀ x ∈ l, f x () = some (g x, ())) → compM f l () = some (l.filterMap g, ())
  | [], _ => rfl
  | x :: r, h => by
    have ih := comp_filter g r fun y hy => h y (List.mem_cons_of_mem _ hy)
    rw [comp_cons (h x List.mem_cons_self) ih, List.filterMap_cons]
    cases g x <;> rfl
theorem oh_run : ∀ (r : List Int) (x : Int), Lev (x :: r) → r.length ≤ 2000 → ∃ z, (∃ pre, x :: r = pre ++ [z]) ∧ Runs m_open_heights_of_b1 (x :: r).reverse (z, z, []) (mn (x :: r), mxa (x :: r), (og (x :: r)).reverse) ∧ (og (x :: r)).length ≤ r.length
  | [], x, _, _ => by
    refine ⟨x, ⟨[], rfl⟩, ⟨_, ?_, rfl⟩, Nat.zero_le _⟩
    unfold m_open_heights_of_b1
    rw [if_neg (by simp), if_neg (by simp)]
    rfl
  | y :: R, x, g, hl => by
    obtain ⟨z, ⟨pre, e⟩, hr, ho⟩ := oh_run R y g.2.2 (by simp at hl; omega)
    have hm := mn_le y R
    have m0 := mn_nn g.2.2
    have gx := g.1
    have gx0 := g.2.1
    have i1 : mn (x :: y :: R) = Z.imin x (mn (y :: R)) := rfl
    have i2 : mxa (x :: y :: R) = Z.imax (mxa (y :: R)) x := rfl
    rw [imin_def] at i1
    rw [imax_def] at i2
    simp only [List.length_cons] at hl
    refine ⟨z, ⟨x :: pre, by rw [e]; rfl⟩, ?_, ?_⟩
    · rw [List.reverse_cons]
      refine hr.app ⟨_, ?_, rfl⟩
      unfold m_open_heights_of_b1
      by_cases hc : x < mn (y :: R)
      · rw [if_pos (decide_eq_true hc), chk_bind (line_le (by show (og (y :: R)).reverse.length ≤ _; rw [List.length_reverse]; omega)).2]
        rw [show og (x :: y :: R) = (mxa (y :: R) - mn (y :: R) + 1) :: og (y :: R) from if_pos hc, List.reverse_cons, i1, i2]
        rw [show (if mn (y :: R) < x then mn (y :: R) else x) = x by split <;> omega, show (if mxa (y :: R) < x then x else mxa (y :: R)) = mxa (y :: R) by split <;> omega]
        show some (Step.go (x, mxa (y :: R), (og (y :: R)).reverse ++ [mxa (y :: R) - x])) = some (Step.go (x, mxa (y :: R), (og (y :: R)).reverse ++ [mxa (y :: R) - mn (y :: R) + 1]))
        rw [show mxa (y :: R) - mn (y :: R) + 1 = mxa (y :: R) - x by omega]
      · rw [if_neg (by simpa using hc), show og (x :: y :: R) = og (y :: R) from if_neg hc, i1, i2]
        rw [show (if mn (y :: R) < x then mn (y :: R) else x) = mn (y :: R) by split <;> omega]
        by_cases h2 : mxa (y :: R) < x
        · rw [if_pos (decide_eq_true h2), if_pos h2]
        · rw [if_neg (by simpa using h2), if_neg h2]
    · by_cases hc : x < mn (y :: R)
      · rw [show og (x :: y :: R) = (mxa (y :: R) - mn (y :: R) + 1) :: og (y :: R) from if_pos hc, List.length_cons, List.length_cons]; omega
      · rw [show og (x :: y :: R) = og (y :: R) from if_neg hc, List.length_cons]; omega
/-- the heights of the open calls, for levels that are told -/
theorem open_of_ok {l : List Int} (g : Lev l) (hn : l ≠ []) (hl : l.length ≤ 2000) : m_open_heights_of l = some (og l) := by
  match l, g, hn, hl with
  | x :: r, g, _, hl =>
    obtain ⟨z, ⟨pre, e⟩, hr, _⟩ := oh_run r x g (by simp at hl; omega)
    unfold m_open_heights_of
    rw [to_bind (show atI (x :: r) (-(1 : Int)) = some z by rw [e]; exact atI_last _ _), to_bind hr.loop, after_go, List.reverse_reverse]
theorem open_ok {bs : List Bool} {top : Int} (o : ok 0 bs) (hl : bs.length ≤ 1000) (h0 : 0 ≤ top) (h1 : top ≤ 1000) : m_open_heights (tx bs) top = some (og (lv top bs)) := by
  unfold m_open_heights
  have ll := lv_len top bs
  rw [to_bind (levels_ok o hl h0 h1), to_bind (open_of_ok (lv_lev h0 bs) (by unfold lv; simp) (by omega))]
theorem law_open_loop {S : List Int} (g : Lev S) (hl : S.length ≤ 2000) : ∀ (k i : Nat), i + k + 1 = S.length → ∀ (z : Int), atI S (-(1 : Int)) = some z →
    ∃ b, Runs (m__law_open_b1 S) (Z.upto i ((S.length - 1 : Nat) : Int)).reverse (z, z, []) (b, mn (S.drop i), (og (S.drop i)).reverse) ∧ (∀ x r, S.drop i = x :: r → Z.imax b x = mxa (S.drop i)) ∧ (og (S.drop i)).length ≤ k
  | 0, i, hk, z, hz => by
    have hd : (S.drop i).length = 1 := by rw [List.length_drop]; omega
    match hq : S.drop i, hd with
    | [x], _ =>
      have hx := (drop_at hq).1
      have ex : x = z := by
        have e1 : atI S (-(1 : Int)) = S[i]? := by
          unfold atI ixN
          rw [if_neg (by decide), if_pos (by omega)]
          show S[((-1 : Int) + S.length).toNat]? = S[i]?
          congr 1; omega
        rw [e1, hx] at hz
        exact Option.some.inj hz
      subst ex
      rw [upto_nil (by omega)]
      refine ⟨x, rfl, fun a r h => ?_, Nat.le_refl _⟩
      injection h with h _
      subst h
      exact imax_of (Int.le_refl _)
  | k + 1, i, hk, z, hz => by
    obtain ⟨x, y, R, hd⟩ : ∃ x y R, S.drop i = x :: y :: R := by
      have : 2 ≤ (S.drop i).length := by rw [List.length_drop]; omega
      match hq : S.drop i, this with
      | a :: b :: r, _ => exact ⟨a, b, r, rfl⟩
    have h1 := drop_at hd
    have h2 := drop_at h1.2
    have gd : Lev (x :: y :: R) := hd ▸ lev_drop i g
    have i1 : (i : Int) + 1 = ((i + 1 : Nat) : Int) := by omega
    have a1 : atI S (i : Int) = some x := atI_nat h1.1
    have a2 : atI S ((i : Int) + 1) = some y := by rw [i1]; exact atI_nat h2.1
    obtain ⟨b, e, hb, hn⟩ := law_open_loop g hl k (i + 1) (by omega) z hz
    have hb' := hb y R h1.2
    rw [h1.2] at e hn hb'
    have m0 := mn_nn gd.2.2
    have hm := mn_le y R
    have gx := gd.1
    have gx0 := gd.2.1
    rw [upto_cons (by omega), i1, List.reverse_cons, hd]
    by_cases hc : x < mn (y :: R)
    · refine ⟨mxa (y :: R), e.app ⟨_, ?_, rfl⟩, fun a r h => ?_, ?_⟩
      · unfold m__law_open_b1
        rw [to_bind a2]
        show ((if decide ((0 : Int) < mn (y :: R)) = true then atI S (i : Int) >>= fun x21 => some (decide (x21 < mn (y :: R))) else some false) >>= fun st19 => _) = _
        rw [if_pos (decide_eq_true (by omega)), to_bind a1, some_bind, if_pos (decide_eq_true hc), chk_bind (line_le (by show (og (y :: R)).reverse.length ≤ _; rw [List.length_reverse]; omega)).2]
        show some (Step.go (Z.imax b y, mn (y :: R) - 1, (og (y :: R)).reverse ++ [Z.imax b y - mn (y :: R) + 1])) = some (Step.go (mxa (y :: R), mn (x :: y :: R), (og (x :: y :: R)).reverse))
        rw [hb', show mn (x :: y :: R) = mn (y :: R) - 1 from by
          show Z.imin x (mn (y :: R)) = _
          rw [imin_def, if_neg (by omega)]; omega, show og (x :: y :: R) = (mxa (y :: R) - mn (y :: R) + 1) :: og (y :: R) from if_pos hc, List.reverse_cons]
      · injection h with h _; subst h; rfl
      · rw [show og (x :: y :: R) = (mxa (y :: R) - mn (y :: R) + 1) :: og (y :: R) from if_pos hc, List.length_cons]; omega
    · refine ⟨mxa (y :: R), e.app ⟨_, ?_, rfl⟩, fun a r h => ?_, ?_⟩
      · unfold m__law_open_b1
        rw [to_bind a2]
        have e0 : (if decide ((0 : Int) < mn (y :: R)) = true then atI S (i : Int) >>= fun x21 => some (decide (x21 < mn (y :: R))) else some false) = some false := by
          by_cases hp : 0 < mn (y :: R)
          · rw [if_pos (decide_eq_true hp), to_bind a1, decide_eq_false hc]
          · rw [if_neg (by simpa using hp)]
        refine (to_bind e0 _).trans ?_
        rw [if_neg (by decide)]
        show some (Step.go (Z.imax b y, mn (y :: R), (og (y :: R)).reverse)) = some (Step.go (mxa (y :: R), mn (x :: y :: R), (og (x :: y :: R)).reverse))
        rw [hb', show mn (x :: y :: R) = mn (y :: R) from by
          show Z.imin x (mn (y :: R)) = _
          rw [imin_def]; split <;> omega, show og (x :: y :: R) = og (y :: R) from if_neg hc]
      · injection h with h _; subst h; rfl
      · rw [show og (x :: y :: R) = og (y :: R) from if_neg hc]; omega
theorem law_open_ok {bs : List Bool} {held : Int} (hl : bs.length ≤ 1000) (h0 : 0 ≤ held) : m__law_open (tx bs) held = some (og (lv held bs)) := by
  have ll := lv_len held bs
  obtain ⟨z, hz⟩ : ∃ z, atI (lv held bs) (-(1 : Int)) = some z := by
    obtain ⟨r, x, e⟩ := snoc (lv held bs) (by unfold lv; simp)
    exact ⟨x, by rw [e]; exact atI_last _ _⟩
  obtain ⟨b, e, _, _⟩ := law_open_loop (lv_lev h0 bs) (by omega) bs.length 0 (by omega) z hz
  have hm : ((((lv held bs).length - 1 : Nat)) : Int) = (bs.length : Int) := by omega
  rw [hm] at e
  have e' : loopM (m__law_open_b1 (lv held bs)) (Z.upto 0 (bs.length : Int)).reverse (z, z, []) = some (.go (b, mn (lv held bs), (og (lv held bs)).reverse)) := e.loop
  have st : m__law_stages (tx bs) held = some (lv held bs) := stages_eq bs held (by omega)
  unfold m__law_open
  rw [to_bind st, to_bind hz, to_bind hz, tx_len, chk_bind (line_le (by omega)).1, chk_bind (RgOk.of_le (by decide) (by omega) (by decide) (by omega)), to_bind e', after_go, List.reverse_reverse]
/-! they fall -/
theorem og_le : ∀ {l : List Int}, ∀ h ∈ og l, 1 ≤ h ∧ h ≤ mxa l - mn l
  | [], h, hh => by cases hh
  | [_], h, hh => by cases hh
  | x :: y :: R, h, hh => by
    have hm := mn_le y R
    have e1 : mn (x :: y :: R) = Z.imin x (mn (y :: R)) := rfl
    have e2 : mxa (x :: y :: R) = Z.imax (mxa (y :: R)) x := rfl
    have w : mn (x :: y :: R) ≤ mn (y :: R) ∧ mn (x :: y :: R) ≤ x ∧ mxa (y :: R) ≤ mxa (x :: y :: R) := by
      rw [e1, e2, imin_def, imax_def]; refine ⟨?_, ?_, ?_⟩ <;> split <;> omega
    by_cases hc : x < mn (y :: R)
    · rw [show og (x :: y :: R) = (mxa (y :: R) - mn (y :: R) + 1) :: og (y :: R) from if_pos hc] at hh
      rcases List.mem_cons.mp hh with e | e
      · rw [e]; omega
      · have := og_le h e; omega
    · rw [show og (x :: y :: R) = og (y :: R) from if_neg hc] at hh
      have := og_le h hh; omega
def Falls : List Int → Prop
  | x :: y :: r => y < x ∧ Falls (y :: r)
  | _ => True
theorem og_falls : ∀ l : List Int, Falls (og l)
  | [] => trivial
  | [_] => trivial
  | x :: y :: R => by
    have ih := og_falls (y :: R)
    by_cases hc : x < mn (y :: R)
    · rw [show og (x :: y :: R) = (mxa (y :: R) - mn (y :: R) + 1) :: og (y :: R) from if_pos hc]
      cases q : og (y :: R) with
      | nil => exact trivial
      | cons h r =>
        have := og_le h (by rw [q]; exact List.mem_cons_self)
        rw [q] at ih
        exact ⟨by omega, ih⟩
    · rw [show og (x :: y :: R) = og (y :: R) from if_neg hc]; exact ih
theorem og_len : ∀ l : List Int, (og l).length ≤ l.length
  | [] => Nat.le_refl _
  | [_] => Nat.zero_le _
  | x :: y :: R => by
    have ih := og_len (y :: R)
    by_cases hc : x < mn (y :: R)
    · rw [show og (x :: y :: R) = (mxa (y :: R) - mn (y :: R) + 1) :: og (y :: R) from if_pos hc, List.length_cons, List.length_cons (a := x)]; omega
    · rw [show og (x :: y :: R) = og (y :: R) from if_neg hc, List.length_cons (a := x)]; omega
theorem mxa_le {B : Int} : ∀ {l : List Int}, 0 ≤ B → (∀ x ∈ l, x ≤ B) → mxa l ≤ B
  | [], hB, _ => hB
  | [x], _, h => h x (by simp)
  | x :: y :: r, hB, h => by
    have := mxa_le (l := y :: r) hB fun z hz => h z (List.mem_cons_of_mem _ hz)
    have hx := h x (by simp)
    show Z.imax (mxa (y :: r)) x ≤ B
    rw [imax_def]; split <;> omega
theorem falls_zip : ∀ {l : List Int}, Falls l → ∀ p ∈ l.zip l.tail, p.2 < p.1
  | [], _, p, hp => by cases hp
  | [_], _, p, hp => by cases hp
  | x :: y :: r, h, p, hp => by
    rcases List.mem_cons.mp hp with e | e
    · rw [e]; exact h.1
    · exact falls_zip (l := y :: r) h.2 p e
theorem og_sh {bs : List Bool} {top : Int} (h0 : 0 ≤ top) (hl : bs.length ≤ 1000) : Sh 1 22100 (.list ((og (lv top bs)).map PyData.int)) := by
  have ll := lv_len top bs
  have bd := fun x hx => lv_bound h0 (bs := bs) x hx
  have mm := mxa_le (B := bs.length) (l := lv top bs) (by omega) fun x hx => (bd x hx).2
  have m0 := mn_nn (lv_lev h0 bs)
  have ol := og_len (lv top bs)
  exact (Sh.ints (m := 1001) (fun x hx => by have := og_le x hx; omega) (by omega)).up (Nat.le_refl _) (by decide)
end Zm
/-! Plans: ends, drawn plans, counts, the lazy plan. -/
namespace Zm
open PySem PySem.Spec PyProof.Rows L2 Z
theorem imin_of {a b : Int} (h : a ≤ b) : imin a b = a := by unfold imin; split <;> omega
theorem imin_of' {a b : Int} (h : b ≤ a) : imin a b = b := by unfold imin; split <;> omega
/-- what a machine may be -/
def Mach (reg top : Int) : Prop := 1 ≤ reg ∧ reg ≤ 10 ^ 30 - 1 ∧ 0 ≤ top ∧ top ≤ reg
theorem mach_ok {reg top : Int} (h : Mach reg top) : m_check_machine reg top = some () := by
  obtain ⟨a, b, c, d⟩ := h
  unfold m_check_machine m_check_registers m_is_integer
  rw [some_bind, decide_eq_true (show (1 : Int) ≤ reg from a), decide_eq_true (show reg ≤ (999999999999999999999999999999 : Int) by omega)]
  show (if (!true || !(true && true)) = true then none else some ()) >>= _ = _
  rw [if_neg (by decide), some_bind, to_bind (top_ok c d)]
theorem machine_ok {n : Int} {s : List Int} (h : Src n s) (hn : n ≤ 10 ^ 8) : ∃ seats held s', m__law_machine s = some ((seats, held), s') ∧ 1 ≤ seats ∧ seats ≤ 60 ∧ 0 ≤ held ∧ held ≤ seats ∧ Src (n + 6) s' := by
  obtain ⟨a, s1, e1, a0, a1, h1⟩ := draw_ok (c := 9) h (by omega) (by decide) (by decide)
  obtain ⟨b, s2, e2, b0, b1, h2⟩ := draw_ok (c := 40) h1 (by omega) (by decide) (by decide)
  obtain ⟨c, s3, e3, c0, c1, h3⟩ := draw_ok (c := 6) h2 (by omega) (by decide) (by decide)
  obtain ⟨d, s4, e4, d0, d1, h4⟩ := draw_ok (c := 4) h3 (by omega) (by decide) (by decide)
  obtain ⟨e, s5, e5, f0, f1, h5⟩ := draw_ok (c := 12) h4 (by omega) (by decide) (by decide)
  obtain ⟨f, s6, e6, g0, g1, h6⟩ := draw_ok (c := 5) h5 (by omega) (by decide) (by decide)
  obtain ⟨room, er, r0, r1⟩ : ∃ r, atI [(0 : Int), 1, 2, 3, a, b] c = some r ∧ 0 ≤ r ∧ r ≤ 39 := by
    rcases (show c = 0 ∨ c = 1 ∨ c = 2 ∨ c = 3 ∨ c = 4 ∨ c = 5 by omega) with z | z | z | z | z | z <;> subst z
    · exact ⟨0, rfl, by decide, by decide⟩
    · exact ⟨1, rfl, by decide, by decide⟩
    · exact ⟨2, rfl, by decide, by decide⟩
    · exact ⟨3, rfl, by decide, by decide⟩
    · exact ⟨a, rfl, a0, by omega⟩
    · exact ⟨b, rfl, b0, by omega⟩
  obtain ⟨held, eh, k0, k1⟩ : ∃ r, atI [(0 : Int), 0, 1, d, e] f = some r ∧ 0 ≤ r ∧ r ≤ 11 := by
    rcases (show f = 0 ∨ f = 1 ∨ f = 2 ∨ f = 3 ∨ f = 4 by omega) with z | z | z | z | z <;> subst z
    · exact ⟨0, rfl, by decide, by decide⟩
    · exact ⟨0, rfl, by decide, by decide⟩
    · exact ⟨1, rfl, by decide, by decide⟩
    · exact ⟨d, rfl, d0, by omega⟩
    · exact ⟨e, rfl, f0, by omega⟩
  unfold m__law_machine
  rw [to_bind e1, to_bind e2, to_bind e3, to_bind er, to_bind e4, to_bind e5, to_bind e6, to_bind eh]
  have hm : imax 1 (room + held) = 1 ∧ room + held ≤ 1 ∨ imax 1 (room + held) = room + held ∧ 1 ≤ room + held := by unfold imax; split <;> omega
  exact ⟨_, _, _, rfl, by omega, by omega, k0, by omega, h6.up (by omega)⟩
/-! ### ends, and lists of numbers between them -/
theorem ends_eq (S : List Int) (room : Int) (hl : S.length ≤ 1000000) : m__law_ends S room = some (S.map fun x => (imax 0 (x - room), x)) := by
  unfold m__law_ends
  rw [chk_bind (line_le (by omega)).2, to_bind (comp_map (f := m__law_ends_c1 room) (fun x => (imax 0 (x - room), x)) S fun x _ => rfl)]
def In2 : List (Int × Int) → List Int → Prop
  | [], [] => True
  | p :: ps, x :: xs => (p.1 ≤ x ∧ x ≤ p.2) ∧ In2 ps xs
  | _, _ => False
theorem In2.len : ∀ {ps : List (Int × Int)} {xs : List Int}, In2 ps xs → xs.length = ps.length
  | [], [], _ => rfl
  | _ :: ps, _ :: xs, h => by rw [List.length_cons, List.length_cons, In2.len h.2]
  | [], _ :: _, h => h.elim
  | _ :: _, [], h => h.elim
theorem drawn_loop : ∀ (ps : List (Int × Int)) (n : Int) (num : Int) (fd s : List Int), Src n s → n + 3 * ps.length ≤ 10 ^ 9 → fd.length + ps.length ≤ 2000000 → (∀ p ∈ ps, p.1 ≤ p.2 ∧ p.2 - p.1 < 10 ^ 9) →
    ∃ ns num' s', loopM m__law_drawn_b1 ps (num, fd, s) = some (.go (num', fd ++ ns, s')) ∧ Src (n + 3 * ps.length) s' ∧ In2 ps ns
  | [], n, num, fd, s, h, _, _, _ => ⟨[], num, s, by rw [List.append_nil]; rfl, h.up (by simp), trivial⟩
  | p :: ps, n, num, fd, s, h, hn, hl, hp => by
    rw [List.length_cons] at hn hl
    obtain ⟨p0, p1⟩ := hp p List.mem_cons_self
    obtain ⟨a, s1, e1, a0, a1, h1⟩ := draw_ok (c := 3) h (by omega) (by decide) (by decide)
    have key : ∃ st : Int × List Int, ((m__law_draw s (3 : Int) >>= fun (r18 : Int × (List Int)) =>
        (if ((decide (r18.1 = (0 : Int))) || (!((decide (p.1 ≤ num)) && (decide (num ≤ p.2))))) = true then
        (m__law_draw r18.2 ((p.2 - p.1) + (1 : Int))) >>= fun (r20 : Int × (List Int)) =>
        (m__law_draw r20.2 (3 : Int)) >>= fun (r23 : Int × (List Int)) =>
        (atI ([p.1, p.2, (p.1 + r20.1)]) r23.1) >>= fun (x25 : Int) =>
        some (x25, r23.2)
        else
        some (num, r18.2)) : Option (Int × (List Int)))) = some st ∧ p.1 ≤ st.1 ∧ st.1 ≤ p.2 ∧ Src (n + 3) st.2 := by
      rw [to_bind e1]
      by_cases hc : ((decide (a = (0 : Int))) || (!((decide (p.1 ≤ num)) && (decide (num ≤ p.2))))) = true
      · obtain ⟨b, s2, e2, b0, b1, h2⟩ := draw_ok (c := p.2 - p.1 + 1) h1 (by omega) (by omega) (by omega)
        obtain ⟨c, s3, e3, c0, c1, h3⟩ := draw_ok (c := 3) h2 (by omega) (by decide) (by decide)
        rw [if_pos hc, to_bind e2, to_bind e3]
        have h4 : Src (n + 3) s3 := h3.up (by omega)
        rcases (show c = 0 ∨ c = 1 ∨ c = 2 by omega) with z | z | z <;> subst z
        · exact ⟨(p.1, s3), rfl, Int.le_refl _, p0, h4⟩
        · exact ⟨(p.2, s3), rfl, p0, Int.le_refl _, h4⟩
        · exact ⟨(p.1 + b, s3), rfl, by show p.1 ≤ p.1 + b; omega, by show p.1 + b ≤ p.2; omega, h4⟩
      · rw [if_neg hc]
        simp only [Bool.or_eq_true, decide_eq_true_eq, Bool.not_eq_true', Bool.and_eq_false_iff, decide_eq_false_iff_not, not_or, Decidable.not_not] at hc
        exact ⟨(num, s1), rfl, hc.2.1, hc.2.2, h1.up (by omega)⟩
    obtain ⟨st, e2, t0, t1, h2⟩ := key
    obtain ⟨ns, num', s', e3, h3, i3⟩ := drawn_loop ps (n + 3) st.1 (fd ++ [st.1]) st.2 h2 (by omega) (by simp; omega) fun q hq => hp q (List.mem_cons_of_mem _ hq)
    refine ⟨st.1 :: ns, num', s', (loop_cons (s' := (st.1, fd ++ [st.1], st.2)) ?_).trans ?_, h3.up (by rw [List.length_cons]; omega), ⟨t0, t1⟩, i3⟩
    · unfold m__law_drawn_b1
      refine (to_bind e2 _).trans ?_
      exact chk_bind (line_le (by show fd.length ≤ _; omega)).2 _
    · rw [e3, List.append_assoc]; rfl
theorem drawn_ok {ps : List (Int × Int)} {n : Int} {s : List Int} (h : Src n s) (hn : n ≤ 10 ^ 8) (hl : ps.length ≤ 1000000) (hp : ∀ p ∈ ps, p.1 ≤ p.2 ∧ p.2 - p.1 < 10 ^ 9) :
    ∃ ns s', m__law_drawn s ps = some (ns, s') ∧ In2 ps ns ∧ Src (n + 3 * ps.length) s' := by
  obtain ⟨ns, num', s', e, h2, i⟩ := drawn_loop ps n 0 [] s h (by omega) (by simp; omega) hp
  unfold m__law_drawn
  rw [to_bind e, after_go]
  exact ⟨ns, s', rfl, i, h2⟩
/-- n words in memory at a depth d -/
def Pl (reg top d n : Int) : Prop := d - n ≤ reg ∧ (0 < n → top ≤ d - n) ∧ 0 ≤ n
def Pl2 (reg top : Int) : List Int → List Int → Prop
  | [], [] => True
  | d :: ds, n :: ns => Pl reg top d n ∧ Pl2 reg top ds ns
  | _, _ => False
theorem Pl2.len {reg top : Int} : ∀ {ds ns : List Int}, Pl2 reg top ds ns → ns.length = ds.length
  | [], [], _ => rfl
  | _ :: ps, _ :: xs, h => by rw [List.length_cons, List.length_cons, Pl2.len h.2]
  | [], _ :: _, h => h.elim
  | _ :: _, [], h => h.elim
theorem pl_iff {reg top d n : Int} (ht : top ≤ reg) : Pl reg top d n ↔ imax 0 (imax 0 (d - top) - (reg - top)) ≤ n ∧ n ≤ imax 0 (d - top) := by
  unfold Pl
  simp only [imax_def]
  constructor
  · rintro ⟨a, b, c⟩
    (repeat' split) <;> first | omega | (constructor <;> (by_cases h : 0 < n <;> (try have := b h) <;> omega))
  · rintro ⟨a, b⟩
    split at a <;> split at b <;> (try split at a) <;> refine ⟨?_, fun h => ?_, ?_⟩ <;> omega
theorem In2.pl {reg top : Int} (ht : top ≤ reg) : ∀ {ds ns : List Int}, In2 ((ds.map fun d => imax 0 (d - top)).map fun x => (imax 0 (x - (reg - top)), x)) ns → Pl2 reg top ds ns
  | [], [], _ => trivial
  | d :: ds, n :: ns, h => ⟨(pl_iff ht).mpr h.1, In2.pl ht h.2⟩
  | [], _ :: _, h => h.elim
  | _ :: _, [], h => h.elim
theorem Pl2.in {reg top : Int} (ht : top ≤ reg) : ∀ {ds ns : List Int}, Pl2 reg top ds ns → In2 ((ds.map fun d => imax 0 (d - top)).map fun x => (imax 0 (x - (reg - top)), x)) ns
  | [], [], _ => trivial
  | d :: ds, n :: ns, h => ⟨(pl_iff ht).mp h.1, Pl2.in ht h.2⟩
  | [], _ :: _, h => h.elim
  | _ :: _, [], h => h.elim
theorem Pl2.bound {reg top B : Int} (h0 : 0 ≤ top) : ∀ {ds ns : List Int}, Pl2 reg top ds ns → (∀ d ∈ ds, 0 ≤ d ∧ d ≤ B) → ∀ n ∈ ns, 0 ≤ n ∧ n ≤ B
  | [], [], _, _, n, hn => by cases hn
  | d :: ds, x :: ns, h, hb, n, hn => by
    rcases List.mem_cons.mp hn with e | e
    · subst e
      obtain ⟨a, b, c⟩ := h.1
      have := hb d List.mem_cons_self
      refine ⟨c, ?_⟩
      by_cases h2 : 0 < n
      · have := b h2; omega
      · omega
    · exact Pl2.bound h0 h.2 (fun d hd => hb d (List.mem_cons_of_mem _ hd)) n e
  | [], _ :: _, h, _, _, _ => h.elim
  | _ :: _, [], h, _, _, _ => h.elim
/-! ### the program's check of a plan -/
theorem ints_comp : ∀ l : List Int, compM m_is_list_of_integers_c1 l () = some ([], ())
  | [] => rfl
  | x :: r => by
    have e : m_is_list_of_integers_c1 x () = some (none, ()) := rfl
    exact comp_cons e (ints_comp r)
theorem ints_ok {l : List Int} (h : l.length ≤ 1000000) : m_is_list_of_integers l = some true := by
  unfold m_is_list_of_integers
  rw [if_neg (by decide), chk_bind (line_le (by omega)).2, to_bind (ints_comp l)]
  rfl
theorem check_plan_loop {reg top : Int} (ds : List Int) : ∀ (D ns : List Int) (i : Nat), ds.drop i = D → Pl2 reg top D ns → loopM (m_check_plan_b1 ds reg top) (enumFrom (i : Int) ns) () = some (.go ())
  | [], [], i, _, _ => rfl
  | d :: D, n :: ns, i, hd, h => by
    obtain ⟨h1, h2⟩ := drop_at hd
    obtain ⟨a, b, c⟩ := h.1
    have e : m_check_plan_b1 ds reg top ((i : Int), n) () = some (.go ()) := by
      unfold m_check_plan_b1
      rw [to_bind (atI_nat h1)]
      refine if_neg fun z => ?_
      simp only [Bool.or_eq_true, Bool.and_eq_true, decide_eq_true_eq] at z
      rcases z with z | ⟨z, y⟩ | z
      · omega
      · have := b y; omega
      · omega
    refine (loop_cons e).trans ?_
    rw [show (i : Int) + 1 = ((i + 1 : Nat) : Int) by omega]
    exact check_plan_loop ds D ns (i + 1) h2 h.2
  | [], _ :: _, _, _, h => h.elim
  | _ :: _, [], _, _, h => h.elim
theorem check_plan_ok {reg top : Int} {ds ns : List Int} (h : Pl2 reg top ds ns) (hl : ds.length ≤ 100000) : m_check_plan ds reg top ns = some () := by
  have len := h.len
  unfold m_check_plan
  rw [to_bind (ints_ok (by omega)), if_neg (by decide), some_bind, if_neg (by rw [len]; simp)]
  have e : loopM (m_check_plan_b1 ds reg top) (enumFrom (0 : Int) ns) () = some (.go ()) := check_plan_loop ds ds ns 0 rfl h
  unfold Z.enumZ
  rw [to_bind e, after_go]
/-! ### counts -/
def wr : Int → List Int → Int
  | _, [] => 0
  | a, x :: r => imax 0 (x - a) + wr x r
def rd : Int → List Int → Int
  | _, [] => 0
  | a, x :: r => imax 0 (-(x - a)) + rd x r
def tp : Int → List Int → Int
  | _, [] => 0
  | a, x :: r => (if (!decide (x - a = (0 : Int))) = true then (1 : Int) else 0) + tp x r
def lst : Int → List Int → Int
  | a, [] => a
  | _, x :: r => lst x r
theorem wr_rd : ∀ (l : List Int) (a : Int), wr a l - rd a l = lst a l - a
  | [], a => by show (0 : Int) - 0 = a - a; omega
  | x :: r, a => by
    have ih := wr_rd r x
    show imax 0 (x - a) + wr x r - (imax 0 (-(x - a)) + rd x r) = lst x r - a
    simp only [imax_def]
    split <;> split <;> omega
theorem lst_at : ∀ (l : List Int) (a : Int), l ≠ [] → atI l (-(1 : Int)) = some (lst a l)
  | [], _, h => absurd rfl h
  | x :: r, a, _ => by
    have e : ∀ (r : List Int) (x : Int), ∃ l, x :: r = l ++ [lst x r] := fun r => by
      induction r with
      | nil => intro x; exact ⟨[], rfl⟩
      | cons y s ih => intro x; obtain ⟨l, e⟩ := ih y; exact ⟨x :: l, congrArg (x :: ·) e⟩
    obtain ⟨l, e⟩ := e r x
    show atI (x :: r) _ = some (lst x r)
    rw [e]
    exact atI_last _ _
theorem lst_mem : ∀ (l : List Int) (a : Int), lst a l ∈ a :: l
  | [], a => by simp [lst]
  | x :: r, a => by
    have := lst_mem r x
    exact List.mem_cons_of_mem _ this
theorem counts_loop : ∀ (l : List Int) (w t a : Int), loopM m_counts_along_b1 l (w, t, a) = some (.go (w + wr a l, t + tp a l, lst a l))
  | [], w, t, a => by show some (Step.go (w, t, a)) = some (Step.go (w + 0, t + 0, a)); rw [Int.add_zero, Int.add_zero]
  | x :: r, w, t, a => by
    refine (loop_cons (s' := (w + imax 0 (x - a), t + (if (!decide (x - a = (0 : Int))) = true then (1 : Int) else 0), x)) ?_).trans ?_
    · unfold m_counts_along_b1
      by_cases h : x = a
      · subst h
        rw [if_neg (by simp), if_neg (by simp), imax_of' (by omega)]
        show some (Step.go (w, t, x)) = some (Step.go (w + 0, t + 0, x))
        rw [Int.add_zero, Int.add_zero]
      · have t1 : (!decide (x - a = (0 : Int))) = true := by simp; omega
        refine (if_pos (by simpa using h)).trans ?_
        rw [if_pos t1]
        by_cases h2 : a < x
        · rw [if_pos (show decide ((w, t, a).2.2 < x) = true from decide_eq_true h2), some_bind, imax_of (by omega)]
        · rw [if_neg (show ¬ decide ((w, t, a).2.2 < x) = true by simpa using h2), some_bind, imax_of' (by omega), Int.add_zero]
    · rw [counts_loop r]
      show some (Step.go (w + imax 0 (x - a) + wr x r, _, _)) = some (Step.go (w + (imax 0 (x - a) + wr x r), t + ((if (!decide (x - a = (0 : Int))) = true then (1 : Int) else 0) + tp x r), lst x r))
      rw [Int.add_assoc, Int.add_assoc]
theorem counts_along_ok (ns : List Int) : m_counts_along ns = some (wr 0 ns, rd 0 ns, tp 0 ns) := by
  unfold m_counts_along
  rw [to_bind (counts_loop ns 0 0 0), after_go]
  have := wr_rd ns 0
  simp only [Int.zero_add]
  rw [show wr 0 ns - lst 0 ns = rd 0 ns by omega]
theorem counts_ok {bs : List Bool} {reg top : Int} {ns : List Int} (o : ok 0 bs) (hl : bs.length ≤ 1000) (m : Mach reg top) (h : Pl2 reg top (0 :: hs 0 bs) ns) : m_counts_of (tx bs) reg top ns = some (wr 0 ns, rd 0 ns, tp 0 ns) := by
  unfold m_counts_of
  rw [to_bind (checked_ok o hl), to_bind (mach_ok m), to_bind (check_plan_ok h (by rw [List.length_cons, hs_len]; omega)), to_bind (counts_along_ok ns)]
theorem counted_loop (full : List Int) : ∀ (r : List Int) (i : Nat) (x s b t : Int), full.drop i = x :: r → loopM (m__law_counted_b1 full) (Z.upto ((i : Int) + 1) (full.length : Int)) (s, b, t) = some (.go (s + wr x r, b + rd x r, t + tp x r))
  | [], i, x, s, b, t, hd => by
    have e := congrArg List.length hd
    rw [List.length_drop, List.length_singleton] at e
    rw [upto_nil (by omega)]
    show some (Step.go (s, b, t)) = some (Step.go (s + 0, b + 0, t + 0))
    rw [Int.add_zero, Int.add_zero, Int.add_zero]
  | y :: r, i, x, s, b, t, hd => by
    have e := congrArg List.length hd
    rw [List.length_drop, List.length_cons, List.length_cons] at e
    obtain ⟨h1, h2⟩ := drop_at hd
    obtain ⟨h3, h4⟩ := drop_at h2
    have i1 : (i : Int) + 1 = ((i + 1 : Nat) : Int) := by omega
    rw [upto_cons (by omega)]
    refine (loop_cons (s' := (s + imax 0 (y - x), b + imax 0 (-(y - x)), t + (if (!decide (y - x = (0 : Int))) = true then (1 : Int) else 0))) ?_).trans ?_
    · unfold m__law_counted_b1
      rw [show (i : Int) + 1 - 1 = (i : Int) by omega, i1, to_bind (atI_nat h3), to_bind (atI_nat h1)]
    · rw [i1, counted_loop full r (i + 1) y _ _ _ h2]
      show some (Step.go (s + imax 0 (y - x) + wr y r, b + imax 0 (-(y - x)) + rd y r, t + _ + tp y r)) = some (Step.go (s + (imax 0 (y - x) + wr y r), b + (imax 0 (-(y - x)) + rd y r), t + (_ + tp y r)))
      rw [Int.add_assoc, Int.add_assoc, Int.add_assoc]
theorem counted_ok {r : List Int} (h : r.length ≤ 1000000) : m__law_counted (0 :: r) = some (wr 0 (0 :: r), rd 0 (0 :: r), tp 0 (0 :: r)) := by
  have hl : ((0 :: r : List Int).length : Int) = r.length + 1 := by rw [List.length_cons]; omega
  unfold m__law_counted
  rw [chk_bind (show Z.CRng 1 from ⟨by decide, by decide⟩), chk_bind (show Z.CRng (((0 :: r : List Int).length : Nat) : Int) from ⟨by omega, by omega⟩)]
  have e := counted_loop (0 :: r) r 0 0 0 0 0 rfl
  have e' : loopM (m__law_counted_b1 (0 :: r)) (Z.upto (1 : Int) (((0 :: r : List Int).length : Nat) : Int)) (0, 0, 0) = some (.go (0 + wr 0 r, 0 + rd 0 r, 0 + tp 0 r)) := e
  rw [to_bind e', after_go]
  rfl
theorem wr_bound {B : Int} (hB : 0 ≤ B) : ∀ (l : List Int) (a : Int), 0 ≤ a → (∀ x ∈ l, 0 ≤ x ∧ x ≤ B) → a ≤ B → (0 ≤ wr a l ∧ wr a l ≤ l.length * B) ∧ (0 ≤ rd a l ∧ rd a l ≤ l.length * B) ∧ 0 ≤ tp a l ∧ tp a l ≤ l.length
  | [], a, _, _, _ => by
    show ((0 : Int) ≤ 0 ∧ (0 : Int) ≤ ((0 : Nat) : Int) * B) ∧ ((0 : Int) ≤ 0 ∧ (0 : Int) ≤ ((0 : Nat) : Int) * B) ∧ (0 : Int) ≤ 0 ∧ (0 : Int) ≤ ((0 : Nat) : Int)
    simp
  | x :: r, a, ha, hx, hab => by
    obtain ⟨h1, h2⟩ := hx x List.mem_cons_self
    obtain ⟨⟨a1, a2⟩, ⟨b1, b2⟩, c1, c2⟩ := wr_bound hB r x h1 (fun y hy => hx y (List.mem_cons_of_mem _ hy)) h2
    have e : (((x :: r : List Int).length : Nat) : Int) * B = r.length * B + B := by rw [List.length_cons, Int.natCast_add, Int.add_mul]; simp
    have ec : (((x :: r : List Int).length : Nat) : Int) = r.length + 1 := by rw [List.length_cons]; omega
    show (0 ≤ imax 0 (x - a) + wr x r ∧ imax 0 (x - a) + wr x r ≤ _) ∧ (0 ≤ imax 0 (-(x - a)) + rd x r ∧ imax 0 (-(x - a)) + rd x r ≤ _) ∧ 0 ≤ _ + tp x r ∧ _ + tp x r ≤ _
    rw [e, ec]
    simp only [imax_def]
    refine ⟨⟨?_, ?_⟩, ⟨?_, ?_⟩, ?_, ?_⟩ <;> (repeat' split) <;> omega
/-! ### the lazy plan -/
def nx (reg top a d : Int) : Int := if a < d - reg then d - reg else if d - top < a then (if top < d then d - top else 0) else a
def lz (reg top : Int) : Int → List Int → List Int
  | _, [] => []
  | a, d :: r => nx reg top a d :: lz reg top (nx reg top a d) r
theorem nx_pl {reg top a d : Int} (h0 : 0 ≤ top) (h1 : top ≤ reg) (ha : 0 ≤ a) : Pl reg top d (nx reg top a d) := by
  unfold Pl nx
  refine ⟨?_, fun h => ?_, ?_⟩
  · (repeat' split) <;> omega
  · split at h <;> (try split at h) <;> (try split at h) <;> (repeat' split) <;> omega
  · (repeat' split) <;> omega
theorem lz_pl {reg top : Int} (h0 : 0 ≤ top) (h1 : top ≤ reg) : ∀ (ds : List Int) (a : Int), 0 ≤ a → Pl2 reg top ds (lz reg top a ds)
  | [], _, _ => trivial
  | d :: r, a, ha => ⟨nx_pl h0 h1 ha, lz_pl h0 h1 r _ (nx_pl h0 h1 ha).2.2⟩
theorem lz_loop {reg top : Int} : ∀ (ds : List Int) (a : Int) (l : List Int), l.length + ds.length ≤ 1000000 → loopM (m_lazy_along_b1 reg top) ds (a, l) = some (.go (lst a (lz reg top a ds), l ++ lz reg top a ds))
  | [], a, l, _ => by show some (Step.go (a, l)) = some (Step.go (a, l ++ [])); rw [List.append_nil]
  | d :: r, a, l, h => by
    rw [List.length_cons] at h
    refine (loop_cons (s' := (nx reg top a d, l ++ [nx reg top a d])) ?_).trans ?_
    · unfold m_lazy_along_b1
      have e : ((if (decide (a < (d - reg))) = true then some ((d - reg)) else ((if (decide ((d - top) < a)) = true then some ((if (decide (top < d)) = true then (d - top) else (0 : Int))) else some (a)) : Option (Int)) >>= fun (st11 : Int) => some (st11)) : Option (Int)) = some (nx reg top a d) := by
        unfold nx
        by_cases h1 : a < d - reg
        · rw [if_pos (decide_eq_true h1), if_pos h1]
        · rw [if_neg (by simpa using h1), if_neg h1]
          by_cases h2 : d - top < a
          · rw [if_pos (decide_eq_true h2), if_pos h2]
            by_cases h3 : top < d
            · rw [if_pos (decide_eq_true h3), if_pos h3]; rfl
            · rw [if_neg (by simpa using h3), if_neg h3]; rfl
          · rw [if_neg (by simpa using h2), if_neg h2]; rfl
      refine (to_bind e _).trans ?_
      exact chk_bind (line_le (by show l.length ≤ _; omega)).2 _
    · rw [lz_loop r _ _ (by simp; omega), List.append_assoc]; rfl
theorem lazy_along_ok (ds : List Int) (reg top a : Int) (h : ds.length ≤ 1000000) : m_lazy_along ds reg top a = some (lz reg top a ds) := by
  unfold m_lazy_along
  rw [to_bind (lz_loop ds a [] (by simpa using h)), after_go]
  rfl
theorem lazy_ok {bs : List Bool} {reg top : Int} (o : ok 0 bs) (hl : bs.length ≤ 1000) (m : Mach reg top) : m_lazy_plan (tx bs) reg top = some (lz reg top 0 (0 :: hs 0 bs)) := by
  unfold m_lazy_plan
  rw [to_bind (checked_ok o hl), to_bind (mach_ok m), to_bind (lazy_along_ok (0 :: hs 0 bs) reg top 0 (by simp [hs_len]; omega))]
theorem is_plan_ok {bs : List Bool} {reg top : Int} {ns : List Int} (o : ok 0 bs) (hl : bs.length ≤ 1000) (m : Mach reg top) (h : Pl2 reg top (0 :: hs 0 bs) ns) : m_is_plan (tx bs) reg top ns = some true := by
  unfold m_is_plan
  rw [to_bind (checked_ok o hl), to_bind (mach_ok m), to_bind (check_plan_ok h (by rw [List.length_cons, hs_len]; omega))]
/-- the depths of a trace -/
theorem hs_bound {bs : List Bool} (o : ok 0 bs) : ∀ d ∈ 0 :: hs 0 bs, 0 ≤ d ∧ d ≤ bs.length := fun d hd => by
  rcases List.mem_cons.mp hd with e | e
  · subst e; omega
  · have := hs_le bs 0 d e
    exact ⟨(ok_iff bs 0).mp o d e, by omega⟩
theorem pl_zero {reg top : Int} (h0 : 0 ≤ top) {ds ns : List Int} (h : Pl2 reg top (0 :: ds) ns) : ∃ r, ns = 0 :: r := by
  match ns, h with
  | n :: r, h =>
    obtain ⟨a, b, c⟩ := h.1
    have : n = 0 := by
      by_cases z : 0 < n
      · have := b z; omega
      · omega
    exact ⟨r, by rw [this]⟩
/-- a plan drawn between the ends -/
theorem plan_drawn {bs : List Bool} {reg top n : Int} {s : List Int} (o : ok 0 bs) (hl : bs.length ≤ 1000) (h0 : 0 ≤ top) (h1 : top ≤ reg) (h : Src n s) (hn : n ≤ 10 ^ 8) :
    ∃ ns s', m__law_drawn s (((lv top bs).map fun x => (imax 0 (x - (reg - top)), x))) = some (ns, s') ∧ Pl2 reg top (0 :: hs 0 bs) ns ∧ Src (n + 3100) s' := by
  obtain ⟨ns, s', e, i, h2⟩ := drawn_ok (ps := (lv top bs).map fun x => (imax 0 (x - (reg - top)), x)) h hn (by rw [List.length_map, lv_len]; omega) fun p hp => by
    obtain ⟨x, hx, rfl⟩ := List.mem_map.mp hp
    have := lv_bound h0 x hx
    show imax 0 (x - (reg - top)) ≤ x ∧ x - imax 0 (x - (reg - top)) < 10 ^ 9
    rw [imax_def]; split <;> omega
  refine ⟨ns, s', e, ?_, h2.up (by rw [List.length_map, lv_len]; omega)⟩
  rw [lv_map top h0] at i
  exact In2.pl h1 i
end Zm
/-! What the lazy plan writes: the calls whose height is above the room. -/
namespace Zm
open PySem PySem.Spec PyProof.Rows L2 Z
/-- how many of a + 1 .. a + n keep P -/
def ct (P : Int → Bool) (a : Int) : Nat → Int
  | 0 => 0
  | n + 1 => ct P a n + (if P (a + n + 1) = true then 1 else 0)
theorem ct_congr {P Q : Int → Bool} {a : Int} : ∀ {n : Nat}, (∀ k, a < k → k ≤ a + n → P k = Q k) → ct P a n = ct Q a n
  | 0, _ => rfl
  | n + 1, h => by
    show ct P a n + _ = ct Q a n + _
    rw [ct_congr (n := n) fun k h1 h2 => h k h1 (by omega), h (a + n + 1) (by omega) (by omega)]
theorem ct_all {P : Int → Bool} {a : Int} : ∀ {n : Nat}, (∀ k, a < k → k ≤ a + n → P k = true) → ct P a n = n
  | 0, _ => rfl
  | n + 1, h => by
    show ct P a n + _ = _
    rw [ct_all (n := n) fun k h1 h2 => h k h1 (by omega), if_pos (h (a + n + 1) (by omega) (by omega))]
    omega
theorem ct_none {P : Int → Bool} {a : Int} : ∀ {n : Nat}, (∀ k, a < k → k ≤ a + n → P k = false) → ct P a n = 0
  | 0, _ => rfl
  | n + 1, h => by
    show ct P a n + _ = _
    rw [ct_none (n := n) fun k h1 h2 => h k h1 (by omega), if_neg (by rw [h (a + n + 1) (by omega) (by omega)]; decide)]
    omega
theorem ct_add (P : Int → Bool) (a : Int) (m : Nat) : ∀ n : Nat, ct P a (m + n) = ct P a m + ct P (a + m) n
  | 0 => by show ct P a m = ct P a m + 0; omega
  | n + 1 => by
    show ct P a (m + n) + (if P (a + ((m + n : Nat) : Int) + 1) = true then 1 else 0) = ct P a m + (ct P (a + m) n + if P (a + m + n + 1) = true then 1 else 0)
    rw [ct_add P a m n, show a + ((m + n : Nat) : Int) + 1 = a + m + n + 1 by omega]
    omega
/-- how many are above g -/
def cg (g : Int) : List Int → Int
  | [] => 0
  | h :: r => (if g < h then 1 else 0) + cg g r
/-- the lazy plan by levels -/
def nl (g a y : Int) : Int := imax (imax 0 (y - g)) (imin y a)
def lzl (g : Int) : Int → List Int → List Int
  | _, [] => []
  | a, y :: r => nl g a y :: lzl g (nl g a y) r
theorem mx_cons_ge {c b y : Int} {r : List Int} (h : c ≤ y) : mx c b (y :: r) = mx c (imax b y) r := by
  show (if y < c then b else mx c (imax b y) r) = _
  rw [if_neg (by omega)]
theorem mx_cons_lt {c b y : Int} {r : List Int} (h : y < c) : mx c b (y :: r) = b := by
  show (if y < c then b else mx c (imax b y) r) = _
  rw [if_pos h]
theorem mx_ge {c : Int} : ∀ {r : List Int} {b : Int}, b ≤ mx c b r
  | [], b => Int.le_refl b
  | y :: r, b => by
    by_cases h : y < c
    · rw [mx_cons_lt h]; exact Int.le_refl b
    · rw [mx_cons_ge (by omega)]
      exact Int.le_trans (show b ≤ imax b y by simp only [imax_def]; split <;> omega) (mx_ge (c := c) (r := r) (b := imax b y))
/-- a lower start does not matter where it is not the greatest -/
theorem mx_start {c : Int} {t : Int} : ∀ {r : List Int} {b b' : Int}, b ≤ t → b' ≤ t → (t < mx c b r ↔ t < mx c b' r)
  | [], b, b', h, h' => by show t < b ↔ t < b'; omega
  | y :: r, b, b', h, h' => by
    by_cases hy : y < c
    · rw [mx_cons_lt hy, mx_cons_lt hy]; omega
    · rw [mx_cons_ge (by omega), mx_cons_ge (by omega)]
      by_cases z : y ≤ t
      · exact mx_start (by simp only [imax_def]; split <;> omega) (by simp only [imax_def]; split <;> omega)
      · have e1 : imax b y = y := imax_of (by omega)
        have e2 : imax b' y = y := imax_of (by omega)
        rw [e1, e2]
def above (g : Int) (l : Int) (L : List Int) (k : Int) : Bool := decide (g < mx k l L - k + 1)
theorem words {g : Int} (g0 : 0 ≤ g) : ∀ (L : List Int) (l a : Int), Lev (l :: L) → 0 ≤ a → a ≤ l → l - g ≤ a → wr a (lzl g a L) = cg g (hts (plv (l :: L))) + ct (above g l L) a (l - a).toNat
  | [], l, a, _, h0, h1, h2 => by
    have : ct (above g l []) a (l - a).toNat = 0 := ct_none fun k k1 k2 => by
      unfold above
      refine decide_eq_false ?_
      show ¬ g < l - k + 1
      omega
    rw [this]; rfl
  | y :: R, l, a, lv, h0, h1, h2 => by
    have lv' : Lev (y :: R) := lv.2.2
    have y0 := lev_head lv'
    have hw : wr a (lzl g a (y :: R)) = imax 0 (nl g a y - a) + wr (nl g a y) (lzl g (nl g a y) R) := rfl
    rw [hw]
    rcases lv.1 with e | e | e
    · -- a push
      subst e
      have en : nl g a (l + 1) = imax a (l + 1 - g) := by
        unfold nl
        rw [imin_of' (a := l + 1) (b := a) (by omega)]
        simp only [imax_def]; (repeat' split) <;> omega
      have ih := words g0 R (l + 1) (nl g a (l + 1)) lv' (by rw [en]; simp only [imax_def]; split <;> omega) (by rw [en]; simp only [imax_def]; split <;> omega) (by rw [en]; simp only [imax_def]; split <;> omega)
      rw [ih, show plv (l :: (l + 1) :: R) = (l + 1) :: plv ((l + 1) :: R) from if_pos (by omega)]
      show _ = ((if g < Hs (l + 1) (plv ((l + 1) :: R)) + 1 then 1 else 0) + cg g (hts (plv ((l + 1) :: R)))) + _
      rw [← height_eq lv', mx_cons_ge (Int.le_refl (l + 1)), imax_of (Int.le_refl (l + 1))]
      have c1 : ct (above g l ((l + 1) :: R)) a (l - a).toNat = ct (above g (l + 1) R) a (l - a).toNat := ct_congr fun k k1 k2 => by
        unfold above
        rw [mx_cons_ge (show k ≤ l + 1 by omega), imax_of (show l ≤ l + 1 by omega)]
      rw [c1]
      have c2 : ct (above g (l + 1) R) a (l + 1 - a).toNat = ct (above g (l + 1) R) a (l - a).toNat + (if g < mx (l + 1) (l + 1) R - (l + 1) + 1 then 1 else 0) := by
        rw [show (l + 1 - a).toNat = (l - a).toNat + 1 by omega]
        show _ + (if decide (g < mx (a + ((l - a).toNat : Int) + 1) (l + 1) R - (a + ((l - a).toNat : Int) + 1) + 1) = true then (1 : Int) else 0) = _
        rw [show a + ((l - a).toNat : Int) + 1 = l + 1 by omega]
        by_cases q : g < mx (l + 1) (l + 1) R - (l + 1) + 1
        · rw [if_pos (decide_eq_true q), if_pos q]
        · rw [if_neg (by simpa using q), if_neg q]
      have c3 : ct (above g (l + 1) R) a (l + 1 - a).toNat = (nl g a (l + 1) - a) + ct (above g (l + 1) R) (nl g a (l + 1)) (l + 1 - nl g a (l + 1)).toNat := by
        have b1 : a ≤ nl g a (l + 1) ∧ nl g a (l + 1) ≤ l + 1 := by rw [en]; simp only [imax_def]; split <;> omega
        rw [show (l + 1 - a).toNat = (nl g a (l + 1) - a).toNat + (l + 1 - nl g a (l + 1)).toNat by omega, ct_add, show a + ((nl g a (l + 1) - a).toNat : Int) = nl g a (l + 1) by omega]
        rw [ct_all (n := (nl g a (l + 1) - a).toNat) fun k k1 k2 => by
          have := mx_ge (c := k) (r := R) (b := l + 1)
          unfold above
          refine decide_eq_true ?_
          rw [en] at k2
          simp only [imax_def] at k2
          split at k2 <;> omega]
        omega
      have pos : imax 0 (nl g a (l + 1) - a) = nl g a (l + 1) - a := by rw [en]; simp only [imax_def]; (repeat' split) <;> omega
      rw [pos]
      omega
    · -- none
      subst e
      have en : nl g a y = a := by
        unfold nl
        rw [imin_of' (a := y) (b := a) (by omega)]
        simp only [imax_def]; (repeat' split) <;> omega
      have ih := words g0 R y a lv' h0 h1 h2
      rw [en, ih, imax_of (a := 0) (by omega), show plv (y :: y :: R) = plv (y :: R) from if_neg (by omega)]
      have c1 : ct (above g y (y :: R)) a (y - a).toNat = ct (above g y R) a (y - a).toNat := ct_congr fun k k1 k2 => by
        unfold above
        rw [mx_cons_ge (show k ≤ y by omega), imax_of (Int.le_refl y)]
      rw [c1]; omega
    · -- a pop
      subst e
      have en : nl g a (l - 1) = imin a (l - 1) := by
        unfold nl
        simp only [imax_def, imin_def]; (repeat' split) <;> omega
      have b0 : imin a (l - 1) = a ∧ a ≤ l - 1 ∨ imin a (l - 1) = l - 1 ∧ a = l := by simp only [imin_def]; split <;> omega
      have ih := words g0 R (l - 1) (nl g a (l - 1)) lv' (by rw [en]; omega) (by rw [en]; omega) (by rw [en]; omega)
      rw [ih, show plv (l :: (l - 1) :: R) = plv ((l - 1) :: R) from if_neg (by omega), en]
      have pos : imax 0 (imin a (l - 1) - a) = 0 := imax_of' (by omega)
      rw [pos]
      rcases b0 with ⟨b1, b2⟩ | ⟨b1, b2⟩
      · rw [b1, show (l - a).toNat = (l - 1 - a).toNat + 1 by omega]
        have c1 : ct (above g l ((l - 1) :: R)) a (l - 1 - a).toNat = ct (above g (l - 1) R) a (l - 1 - a).toNat := ct_congr fun k k1 k2 => by
          unfold above
          rw [mx_cons_ge (show k ≤ l - 1 by omega), imax_of' (show l - 1 ≤ l by omega)]
          have := mx_start (c := k) (t := g + k - 1) (r := R) (b := l) (b' := l - 1) (by omega) (by omega)
          by_cases q : g < mx k l R - k + 1
          · rw [decide_eq_true q, decide_eq_true (by have := this.mp (by omega); omega)]
          · rw [decide_eq_false q, decide_eq_false fun z => q (by have := this.mpr (by omega); omega)]
        show _ = _ + (ct (above g l ((l - 1) :: R)) a (l - 1 - a).toNat + (if decide (g < mx (a + ((l - 1 - a).toNat : Int) + 1) l ((l - 1) :: R) - (a + ((l - 1 - a).toNat : Int) + 1) + 1) = true then (1 : Int) else 0))
        rw [c1, show a + ((l - 1 - a).toNat : Int) + 1 = l by omega, mx_cons_lt (show l - 1 < l by omega), if_neg (by simp; omega)]
        omega
      · rw [b1, b2, show (l - l).toNat = 0 by omega, show (l - 1 - (l - 1)).toNat = 0 by omega]
        show 0 + (_ + 0) = _ + 0
        omega
end Zm
/-! Heights as the laws find them; rows. -/
namespace Zm
open PySem PySem.Spec PyProof.Rows L2 Z
theorem hscan {S : List Int} {Y : Int} : ∀ (R : List Int) (e : Nat) (b : Int) (fuel : Nat), S.drop e = R → e ≤ S.length → R.length < fuel → ∃ e', whileM (m__law_heights_b1 S Y) fuel (b, (e : Int)) = some (.go (mx Y b R, e'))
  | [], e, b, fuel, hd, he, hf => by
    have el : e = S.length := by
      have := congrArg List.length hd
      rw [List.length_drop, List.length_nil] at this; omega
    subst el
    cases fuel with
    | zero => cases hf
    | succ fuel =>
      refine ⟨(S.length : Int), ?_⟩
      unfold whileM
      have e1 : m__law_heights_b1 S Y (b, (S.length : Int)) = some (.out (b, (S.length : Int))) := by
        unfold m__law_heights_b1
        rw [if_neg (by simp)]; rfl
      rw [e1]; rfl
  | x :: R, e, b, fuel, hd, he, hf => by
    obtain ⟨hx, hd'⟩ := drop_at hd
    have hlt : e < S.length := (List.getElem?_eq_some_iff.mp hx).1
    cases fuel with
    | zero => cases hf
    | succ fuel =>
      have a1 : atI S (e : Int) = some x := atI_nat hx
      have e0 : (if decide ((e : Int) < (S.length : Nat)) = true then atI S (e : Int) >>= fun x25 => some (decide (Y ≤ x25)) else some false) = some (decide (Y ≤ x)) := by
        rw [if_pos (decide_eq_true (by omega)), to_bind a1]
      unfold whileM
      by_cases hc : Y ≤ x
      · have e1 : m__law_heights_b1 S Y (b, (e : Int)) = some (.go (imax b x, (e : Int) + 1)) := by
          unfold m__law_heights_b1
          rw [to_bind e0, if_pos (decide_eq_true hc), to_bind a1]
        rw [e1, mx_cons_ge hc, show (e : Int) + 1 = ((e + 1 : Nat) : Int) by omega]
        exact hscan R (e + 1) (imax b x) fuel hd' (by omega) (by rw [List.length_cons] at hf; omega)
      · have e1 : m__law_heights_b1 S Y (b, (e : Int)) = some (.out (b, (e : Int))) := by
          unfold m__law_heights_b1
          rw [to_bind e0, if_neg (by simpa using hc)]
        rw [e1, mx_cons_lt (by omega)]
        exact ⟨_, rfl⟩
theorem law_heights_loop {S : List Int} {held : Int} (hl : S.length ≤ 100000) : ∀ (bs : List Bool) (i : Nat) (d : Int) (fd : List Int), S.drop i = (d :: hs d bs).map (fun h => imax 0 (h - held)) → fd.length + bs.length ≤ 1000000 →
    loopM (m__law_heights_b2 S) (enumFrom (i : Int) (bs.map sg)) fd = some (.go (fd ++ hts (plv ((d :: hs d bs).map fun h => imax 0 (h - held)))))
  | [], i, d, fd, _, _ => by show some (Step.go fd) = some (Step.go (fd ++ [])); rw [List.append_nil]
  | b :: r, i, d, fd, hd, hf => by
    rw [List.length_cons] at hf
    have hd2 : S.drop i = imax 0 (d - held) :: imax 0 (d + dl b - held) :: (hs (d + dl b) r).map (fun h => imax 0 (h - held)) := hd
    obtain ⟨h1, h2⟩ := drop_at hd2
    obtain ⟨h3, h4⟩ := drop_at h2
    have i1 : (i : Int) + 1 = ((i + 1 : Nat) : Int) := by omega
    have a1 : atI S (i : Int) = some (imax 0 (d - held)) := atI_nat h1
    have a2 : atI S ((i : Int) + 1) = some (imax 0 (d + dl b - held)) := by rw [i1]; exact atI_nat h3
    have lv' : Lev (((d + dl b) :: hs (d + dl b) r).map fun h => imax 0 (h - held)) := lev_map (hs_good r (d + dl b))
    have ih := law_heights_loop (held := held) hl r (i + 1) (d + dl b)
    show loopM (m__law_heights_b2 S) (((i : Int), sg b) :: enumFrom ((i : Int) + 1) (r.map sg)) fd = some (.go (fd ++ hts (plv (imax 0 (d - held) :: imax 0 (d + dl b - held) :: (hs (d + dl b) r).map (fun h => imax 0 (h - held))))))
    by_cases hc : imax 0 (d - held) < imax 0 (d + dl b - held)
    · have hb : b = true := by
        cases b with
        | true => rfl
        | false =>
          have e : dl false = -1 := rfl
          rw [e] at hc
          simp only [imax_def] at hc
          split at hc <;> split at hc <;> omega
      obtain ⟨e', sc⟩ := hscan (S := S) (Y := imax 0 (d + dl b - held)) _ (i + 1) (imax 0 (d + dl b - held)) FUEL h2 (by have := (List.getElem?_eq_some_iff.mp h3).1; omega) (by
        have e := congrArg List.length h2
        rw [List.length_drop] at e
        show _ < 1000000
        omega)
      have step : m__law_heights_b2 S ((i : Int), sg b) fd = some (.go (fd ++ [mx (imax 0 (d + dl b - held)) (imax 0 (d + dl b - held)) (imax 0 (d + dl b - held) :: (hs (d + dl b) r).map (fun h => imax 0 (h - held))) - imax 0 (d + dl b - held) + 1])) := by
        unfold m__law_heights_b2
        rw [to_bind a2]
        refine (to_bind (a := true) ?_ _).trans ?_
        · refine (if_pos (by rw [is_plus]; exact hb)).trans ?_
          rw [to_bind a1]
          exact congrArg some (decide_eq_true hc)
        refine (if_pos rfl).trans ?_
        rw [i1, to_bind sc, afterS_go, chk_bind (line_le (by omega)).2]
      rw [loop_cons step, show plv (imax 0 (d - held) :: imax 0 (d + dl b - held) :: (hs (d + dl b) r).map (fun h => imax 0 (h - held))) = imax 0 (d + dl b - held) :: plv (imax 0 (d + dl b - held) :: (hs (d + dl b) r).map (fun h => imax 0 (h - held))) from if_pos hc, height_eq lv', i1]
      rw [ih _ h2 (by simp; omega), List.append_assoc]
      rfl
    · have step : m__law_heights_b2 S ((i : Int), sg b) fd = some (.go fd) := by
        unfold m__law_heights_b2
        rw [to_bind a2]
        refine (to_bind (a := false) ?_ _).trans ?_
        · by_cases q : decide (V.str (sg b) = V.str ("+" : Str)) = true
          · refine (if_pos q).trans ?_
            rw [to_bind a1]
            exact congrArg some (decide_eq_false hc)
          · exact if_neg q
        exact if_neg (by decide)
      rw [loop_cons step, show plv (imax 0 (d - held) :: imax 0 (d + dl b - held) :: (hs (d + dl b) r).map (fun h => imax 0 (h - held))) = plv (imax 0 (d + dl b - held) :: (hs (d + dl b) r).map (fun h => imax 0 (h - held))) from if_neg hc, i1]
      exact ih fd h2 (by omega)
theorem law_heights_ok {bs : List Bool} {held : Int} (hl : bs.length ≤ 1000) (h0 : 0 ≤ held) : m__law_heights (tx bs) held = some (hts (plv (lv held bs))) := by
  have sl : m__law_stages (tx bs) held = some (lv held bs) := stages_eq bs held (by omega)
  have e : loopM (m__law_heights_b2 (lv held bs)) (enumFrom (0 : Int) (bs.map sg)) [] = some (.go ([] ++ hts (plv ((0 :: hs 0 bs).map fun h => imax 0 (h - held))))) := law_heights_loop (by rw [lv_len]; omega) bs 0 0 [] (lv_map held h0 bs) (by simp; omega)
  unfold m__law_heights
  rw [to_bind sl, signs_tx]
  unfold Z.enumZ
  rw [to_bind e, after_go, lv_map held h0]
  rfl
/-! ### tallies -/
def inc (l : List Int) (h : Int) : List Int := l.set (h - 1).toNat ((l[(h - 1).toNat]?).getD 0 + 1)
theorem inc_len (l : List Int) (h : Int) : (inc l h).length = l.length := by unfold inc; rw [List.length_set]
theorem tally_run {f : Int → List Int → Option (Step (List Int) (List Int))} (hf : ∀ h s, f h s = (atI s (h - (1 : Int)) >>= fun x => Z.setI s (h - (1 : Int)) (x + (1 : Int)) >>= fun y => some (Step.go y))) :
    ∀ (hh l : List Int), (∀ h ∈ hh, 1 ≤ h ∧ h ≤ l.length) → loopM f hh l = some (.go (hh.foldl inc l))
  | [], l, _ => rfl
  | h :: r, l, hb => by
    obtain ⟨b1, b2⟩ := hb h List.mem_cons_self
    obtain ⟨j, hj⟩ : ∃ j : Nat, h - 1 = (j : Int) := ⟨(h - 1).toNat, by omega⟩
    have jl : j < l.length := by omega
    refine (loop_cons (s' := inc l h) ?_).trans (tally_run hf r (inc l h) fun k hk => by rw [inc_len]; exact hb k (List.mem_cons_of_mem _ hk))
    rw [hf, hj, to_bind (atI_nat (List.getElem?_eq_getElem jl)), to_bind (setI_nat jl _)]
    unfold inc
    rw [hj, show ((j : Int)).toNat = j from rfl, List.getElem?_eq_getElem jl]
    rfl
/-- the row of heights -/
def row (hh : List Int) : List Int := hh.foldl inc (List.replicate (Z.lmaxD hh 0).toNat 0)
theorem lmax_snoc {hh : List Int} (hb : ∀ h ∈ hh, 1 ≤ h) : Z.lmax (hh ++ [0]) = Z.lmaxD hh 0 := by
  refine (lmax_of ?_ ?_).symm
  · rcases lmaxD_mem (l := hh) (d := 0) with e | e
    · rw [e]; simp
    · exact List.mem_append_left _ e
  · intro y hy
    rcases List.mem_append.mp hy with e | e
    · exact lmaxD_ge y e
    · rw [List.mem_singleton.mp e]
      rcases lmaxD_mem (l := hh) (d := 0) with e | e
      · rw [e]; decide
      · have := hb _ e; omega
theorem law_tally_ok {hh : List Int} (hl : hh.length ≤ 100000) (hb : ∀ h ∈ hh, 1 ≤ h ∧ h ≤ 100000) : m__law_tally hh = some (row hh) := by
  have sl : sizeLine = 16777216 := by decide
  have m2 : Z.lmaxD hh 0 ≤ 100000 ∧ 0 ≤ Z.lmaxD hh 0 := by
    rcases lmaxD_mem (l := hh) (d := 0) with e | e
    · rw [e]; decide
    · have := hb _ e; omega
  unfold m__law_tally
  rw [chk_bind (by simp; omega), chk_bind (by simp), lmax_snoc fun h hh => (hb h hh).1]
  rw [chk_bind (show Z.CRepL ([(0 : Int)]).length (Z.lmaxD hh 0) from ⟨by omega, by omega, by rw [List.length_singleton, sl]; omega⟩), repL_one]
  rw [to_bind (tally_run (f := m__law_tally_b1) (fun _ _ => rfl) hh _ fun h hh' => ⟨(hb h hh').1, by have := lmaxD_ge (d := 0) h hh'; rw [List.length_replicate]; omega⟩), after_go]
  rfl
theorem hts_ge : ∀ l : List Int, ∀ h ∈ hts l, 1 ≤ h
  | [], _, h => by cases h
  | x :: r, h, hh => by
    rcases List.mem_cons.mp hh with e | e
    · have := Hs_nn x r; omega
    · exact hts_ge r h e
theorem Hs_le {c B : Int} (hc : 0 ≤ c) : ∀ {r : List Int}, (∀ y ∈ r, y ≤ B) → 0 ≤ B → Hs c r ≤ B
  | [], _, h => h
  | y :: r, hb, h => by
    have h1 := hb y List.mem_cons_self
    have h2 := Hs_le hc (r := r) (fun z hz => hb z (List.mem_cons_of_mem _ hz)) h
    show (if c < y then imax (y - c) (Hs c r) else 0) ≤ B
    simp only [imax_def]; (repeat' split) <;> omega
theorem hts_le {B : Int} (h0 : 0 ≤ B) : ∀ {l : List Int}, (∀ y ∈ l, 0 ≤ y ∧ y ≤ B) → ∀ h ∈ hts l, h ≤ B + 1
  | [], _, _, h => by cases h
  | x :: r, hb, h, hh => by
    rcases List.mem_cons.mp hh with e | e
    · have := Hs_le (c := x) (B := B) (hb x List.mem_cons_self).1 (r := r) (fun y hy => (hb y (List.mem_cons_of_mem _ hy)).2) h0
      omega
    · exact hts_le h0 (fun y hy => hb y (List.mem_cons_of_mem _ hy)) h e
/-- the heights of a trace's calls -/
def ht (top : Int) (bs : List Bool) : List Int := hts (plv (lv top bs))
theorem ht_bound {bs : List Bool} {top : Int} (hl : bs.length ≤ 1000) (h0 : 0 ≤ top) : (ht top bs).length ≤ 1001 ∧ ∀ h ∈ ht top bs, 1 ≤ h ∧ h ≤ 1001 := by
  have ll := lv_len top bs
  have pl := plv_len (lv top bs)
  have hlen := hts_len (plv (lv top bs))
  refine ⟨by unfold ht; omega, fun h hh => ⟨hts_ge _ h hh, ?_⟩⟩
  exact hts_le (B := 1000) (by decide) (fun y hy => by
    obtain ⟨a, b⟩ := plv_bound (lv_lev h0 bs) y hy
    have := lv_bound h0 y b
    omega) h hh
theorem row_along_ok {bs : List Bool} {top : Int} (hl : bs.length ≤ 1000) (h0 : 0 ≤ top) : m_row_along (lv top bs) = some (row (ht top bs)) := by
  have sl : sizeLine = 16777216 := by decide
  obtain ⟨hc, hh⟩ := lv_heights (bs := bs) (top := top) hl h0
  obtain ⟨b1, b2⟩ := ht_bound (bs := bs) (top := top) hl h0
  have m2 : Z.lmaxD (ht top bs) 0 ≤ 100000 ∧ 0 ≤ Z.lmaxD (ht top bs) 0 := by
    rcases lmaxD_mem (l := ht top bs) (d := 0) with e | e
    · rw [e]; decide
    · have := b2 _ e; omega
  have hh' : m_heights_of (plv (lv top bs)) = some (ht top bs) := hh
  unfold m_row_along
  rw [to_bind hc, to_bind hh']
  rw [chk_bind (show Z.CRepL ([(0 : Int)]).length (Z.lmaxD (ht top bs) 0) from ⟨by omega, by omega, by rw [List.length_singleton, sl]; omega⟩), repL_one]
  rw [to_bind (tally_run (f := m_row_along_b1) (fun _ _ => rfl) (ht top bs) _ fun h hh => ⟨(b2 h hh).1, by have := lmaxD_ge (d := 0) h hh; rw [List.length_replicate]; omega⟩), after_go]
  rfl
theorem row_ok {bs : List Bool} {top : Int} (o : ok 0 bs) (hl : bs.length ≤ 1000) (h0 : 0 ≤ top) (h1 : top ≤ 1000) : m_row_of (tx bs) top = some (row (ht top bs)) := by
  unfold m_row_of
  rw [to_bind (levels_ok o hl h0 h1), to_bind (row_along_ok hl h0)]
/-! ### what a row tells -/
def cx (h : Int) : List Int → Int
  | [] => 0
  | x :: r => (if x = h then 1 else 0) + cx h r
theorem inc_at {l : List Int} {h : Int} (h1 : 1 ≤ h) (h2 : h ≤ l.length) (i : Nat) (hi : i < l.length) : (inc l h)[i]? = some ((l[i]?).getD 0 + if h = (i : Int) + 1 then 1 else 0) := by
  unfold inc
  by_cases e : (h - 1).toNat = i
  · rw [e, List.getElem?_set_self hi, if_pos (by omega)]
  · rw [List.getElem?_set_ne e, if_neg (by omega), List.getElem?_eq_getElem hi]
    simp
theorem fold_at : ∀ (hh l : List Int), (∀ h ∈ hh, 1 ≤ h ∧ h ≤ l.length) → ∀ i : Nat, i < l.length → (hh.foldl inc l)[i]? = some ((l[i]?).getD 0 + cx ((i : Int) + 1) hh)
  | [], l, _, i, hi => by show l[i]? = some (_ + 0); rw [List.getElem?_eq_getElem hi]; simp
  | h :: r, l, hb, i, hi => by
    obtain ⟨b1, b2⟩ := hb h List.mem_cons_self
    show (r.foldl inc (inc l h))[i]? = some (_ + ((if h = (i : Int) + 1 then 1 else 0) + cx ((i : Int) + 1) r))
    rw [fold_at r (inc l h) (fun k hk => by rw [inc_len]; exact hb k (List.mem_cons_of_mem _ hk)) i (by rw [inc_len]; exact hi), inc_at b1 b2 i hi]
    simp only [Option.getD_some]
    rw [Int.add_assoc]
theorem fold_len : ∀ (hh l : List Int), (hh.foldl inc l).length = l.length
  | [], l => rfl
  | h :: r, l => by show (r.foldl inc (inc l h)).length = _; rw [fold_len r, inc_len]
theorem row_len (hh : List Int) : (row hh).length = (Z.lmaxD hh 0).toNat := by unfold row; rw [fold_len, List.length_replicate]
theorem row_at {hh : List Int} (hb : ∀ h ∈ hh, 1 ≤ h) {i : Nat} (hi : i < (row hh).length) : (row hh)[i]? = some (cx ((i : Int) + 1) hh) := by
  rw [row_len] at hi
  unfold row
  rw [fold_at hh _ (fun h hh' => ⟨hb h hh', by have := lmaxD_ge (d := 0) h hh'; rw [List.length_replicate]; omega⟩) i (by rw [List.length_replicate]; exact hi), List.getElem?_replicate_of_lt hi]
  simp
theorem cx_nn (h : Int) : ∀ l : List Int, 0 ≤ cx h l ∧ cx h l ≤ l.length
  | [] => by show (0 : Int) ≤ 0 ∧ (0 : Int) ≤ ((0 : Nat) : Int); omega
  | x :: r => by
    have := cx_nn h r
    rw [List.length_cons]
    show 0 ≤ (if x = h then 1 else 0) + cx h r ∧ (if x = h then 1 else 0) + cx h r ≤ _
    split <;> omega
theorem cx_pos {h : Int} : ∀ {l : List Int}, h ∈ l → 1 ≤ cx h l
  | x :: r, hh => by
    have := (cx_nn h r).1
    show 1 ≤ (if x = h then 1 else 0) + cx h r
    rcases List.mem_cons.mp hh with e | e
    · rw [if_pos e.symm]; omega
    · have := cx_pos e; split <;> omega
theorem sum_set {l : List Int} {j : Nat} (hj : j < l.length) (v : Int) (g : Nat) : ((l.set j v).drop g).sum = (l.drop g).sum + if g ≤ j then v - (l[j]?).getD 0 else 0 := by
  induction l generalizing j g with
  | nil => cases hj
  | cons x r ih =>
    cases j with
    | zero =>
      cases g with
      | zero => rw [if_pos (Nat.le_refl 0)]; simp; omega
      | succ g => rw [if_neg (by omega)]; simp
    | succ j =>
      have hj' : j < r.length := by rw [List.length_cons] at hj; omega
      cases g with
      | zero =>
        have := ih hj' 0
        rw [if_pos (Nat.zero_le _)] at this ⊢
        simp only [List.set_cons_succ, List.drop_zero, List.sum_cons, List.getElem?_cons_succ] at this ⊢
        omega
      | succ g =>
        have := ih hj' g
        simp only [List.set_cons_succ, List.drop_succ_cons, List.getElem?_cons_succ] at this ⊢
        rw [this]
        by_cases q : g ≤ j
        · rw [if_pos q, if_pos (by omega)]
        · rw [if_neg q, if_neg (by omega)]
theorem fold_sum (g : Nat) : ∀ (hh l : List Int), (∀ h ∈ hh, 1 ≤ h ∧ h ≤ l.length) → ((hh.foldl inc l).drop g).sum = (l.drop g).sum + cg g hh
  | [], l, _ => by show (l.drop g).sum = (l.drop g).sum + 0; omega
  | h :: r, l, hb => by
    obtain ⟨b1, b2⟩ := hb h List.mem_cons_self
    show ((r.foldl inc (inc l h)).drop g).sum = _ + ((if (g : Int) < h then 1 else 0) + cg g r)
    rw [fold_sum g r (inc l h) fun k hk => by rw [inc_len]; exact hb k (List.mem_cons_of_mem _ hk)]
    unfold inc
    rw [sum_set (by omega)]
    by_cases q : (g : Int) < h
    · rw [if_pos (by omega), if_pos q]; omega
    · rw [if_neg (by omega), if_neg q]; omega
theorem row_sum {hh : List Int} (hb : ∀ h ∈ hh, 1 ≤ h) (g : Nat) : ((row hh).drop g).sum = cg g hh := by
  unfold row
  rw [fold_sum g hh _ fun h hh' => ⟨hb h hh', by have := lmaxD_ge (d := 0) h hh'; rw [List.length_replicate]; omega⟩]
  have : ((List.replicate (Z.lmaxD hh 0).toNat (0 : Int)).drop g).sum = 0 := by rw [List.drop_replicate]; generalize (Z.lmaxD hh 0).toNat - g = n; induction n with | zero => rfl | succ n ih => rw [List.replicate_succ, List.sum_cons, ih]; rfl
  rw [this]; omega
/-! ### rows never rise -/
theorem ct_nn (P : Int → Bool) (a : Int) : ∀ n : Nat, 0 ≤ ct P a n
  | 0 => Int.le_refl 0
  | n + 1 => by
    have := ct_nn P a n
    show 0 ≤ ct P a n + _
    split <;> omega
/-- one place changed -/
theorem ct_one {P Q : Int → Bool} {a k0 : Int} : ∀ {n : Nat}, (∀ k, a < k → k ≤ a + n → k ≠ k0 → Q k = P k) → a < k0 → k0 ≤ a + n → ct Q a n = ct P a n - (if P k0 = true then 1 else 0) + (if Q k0 = true then 1 else 0)
  | 0, _, h1, h2 => by omega
  | n + 1, h, h1, h2 => by
    show ct Q a n + (if Q (a + n + 1) = true then 1 else 0) = ct P a n + (if P (a + n + 1) = true then 1 else 0) - _ + _
    by_cases e : k0 = a + n + 1
    · subst e
      rw [ct_congr (P := Q) (Q := P) (n := n) fun k k1 k2 => h k k1 (by omega) (by omega)]
      omega
    · rw [ct_one (n := n) (fun k k1 k2 k3 => h k k1 (by omega) k3) h1 (by omega), h (a + n + 1) (by omega) (by omega) (fun z => e z.symm)]
      omega
theorem falls_count (B : Nat) : ∀ r : List Int, Chain r → (∀ y ∈ r, 1 ≤ y ∧ y < (B : Int)) → ∀ h : Int, 1 ≤ h → ct (fun k => decide (Hc (k - 1) r = h)) 0 B ≤ cx h (hts r) - cx (h + 1) (hts r)
  | [], _, _, h, h1 => by
    rw [ct_none fun k _ _ => decide_eq_false (show ¬ Hc (k - 1) [] = h by show ¬ (0 : Int) = h; omega)]
    show (0 : Int) ≤ 0 - 0
    omega
  | x :: r, hc, hb, h, h1 => by
    have hr : Chain r := by
      cases r with
      | nil => exact trivial
      | cons y s => exact hc.2
    obtain ⟨x1, x2⟩ := hb x List.mem_cons_self
    have ih := falls_count B r hr (fun y hy => hb y (List.mem_cons_of_mem _ hy)) h h1
    have hx := Hc_eq hc
    have n1 := Hs_nn x r
    have n2 := Hc_nn (x - 1) r
    have e1 : ∀ c, Hc c (x :: r) = if c < x then (if x = c + 1 then imax (Hc c r) (Hs x r + 1) else Hc c r) else 0 := fun c => rfl
    -- what stands at x (the calls in this one), at x - 1 (this one among its own), above x (none)
    have up : ∀ c, x < c → Hc c r = 0 := fun c hcx => by
      cases r with
      | nil => rfl
      | cons y s =>
        have := hc.1
        show (if c < y then _ else (0 : Int)) = 0
        rw [if_neg (by omega)]
    have s1 : ct (fun k => decide ((if k = x + 1 then 0 else Hc (k - 1) r) = h)) 0 B = ct (fun k => decide (Hc (k - 1) r = h)) 0 B - (if Hc x r = h then 1 else 0) := by
      rw [ct_one (P := fun k => decide (Hc (k - 1) r = h)) (k0 := x + 1) (fun k k1 k2 k3 => by show decide ((if k = x + 1 then 0 else Hc (k - 1) r) = h) = _; rw [if_neg k3]) (by omega) (by omega)]
      try dsimp only
      rw [if_pos rfl, show x + 1 - 1 = x by omega, if_neg (c := decide ((0 : Int) = h) = true) (by simp; omega)]
      by_cases q : Hc x r = h
      · rw [if_pos (decide_eq_true q), if_pos q]; omega
      · rw [if_neg (by simpa using q), if_neg q]; omega
    have s2 : ct (fun k => decide (Hc (k - 1) (x :: r) = h)) 0 B = ct (fun k => decide ((if k = x + 1 then 0 else Hc (k - 1) r) = h)) 0 B - (if Hc (x - 1) r = h then 1 else 0) + (if imax (Hc (x - 1) r) (Hs x r + 1) = h then 1 else 0) := by
      rw [ct_one (P := fun k => decide ((if k = x + 1 then 0 else Hc (k - 1) r) = h)) (k0 := x) (fun k k1 k2 k3 => by
        try dsimp only
        rw [e1]
        by_cases q : k = x + 1
        · rw [if_pos q, if_neg (by omega)]
        · rw [if_neg q]
          by_cases q2 : k - 1 < x
          · rw [if_pos q2, if_neg (by omega)]
          · rw [if_neg q2, up (k - 1) (by omega)]) (by omega) (by omega)]
      try dsimp only
      have e2 : Hc (x - 1) (x :: r) = imax (Hc (x - 1) r) (Hs x r + 1) := by rw [e1, if_pos (show x - 1 < x by omega), if_pos (show x = x - 1 + 1 by omega)]
      rw [if_neg (show ¬ x = x + 1 by omega), e2]
      by_cases q : Hc (x - 1) r = h
      · rw [if_pos (decide_eq_true q), if_pos q]
        by_cases q2 : imax (Hc (x - 1) r) (Hs x r + 1) = h
        · rw [if_pos (decide_eq_true q2), if_pos q2]
        · rw [if_neg (by simpa using q2), if_neg q2]
      · rw [if_neg (by simpa using q), if_neg q]
        by_cases q2 : imax (Hc (x - 1) r) (Hs x r + 1) = h
        · rw [if_pos (decide_eq_true q2), if_pos q2]
        · rw [if_neg (by simpa using q2), if_neg q2]
    rw [s2, s1]
    show _ ≤ ((if Hs x r + 1 = h then 1 else 0) + cx h (hts r)) - ((if Hs x r + 1 = h + 1 then 1 else 0) + cx (h + 1) (hts r))
    rw [hx]
    simp only [imax_def]
    (repeat' split) <;> omega
theorem row_falls {l : List Int} {B : Nat} (hc : Chain l) (hb : ∀ y ∈ l, 1 ≤ y ∧ y < (B : Int)) {h : Int} (h1 : 1 ≤ h) : cx (h + 1) (hts l) ≤ cx h (hts l) := by
  have a := falls_count B l hc hb h h1
  have b := ct_nn (fun k => decide (Hc (k - 1) l = h)) 0 B
  omega
end Zm
/-! Rows as the program checks them; words as the laws count them. -/
namespace Zm
open PySem PySem.Spec PyProof.Rows L2 Z
theorem Hs_le2 {c B : Int} : ∀ {r : List Int}, (∀ y ∈ r, y ≤ B) → c ≤ B → Hs c r ≤ B - c
  | [], _, h => by show (0 : Int) ≤ B - c; omega
  | y :: r, hb, h => by
    have h1 := hb y List.mem_cons_self
    have h2 := Hs_le2 (c := c) (r := r) (fun z hz => hb z (List.mem_cons_of_mem _ hz)) h
    show (if c < y then imax (y - c) (Hs c r) else 0) ≤ B - c
    simp only [imax_def]; (repeat' split) <;> omega
theorem hts_le2 {B : Int} : ∀ {l : List Int}, (∀ y ∈ l, 1 ≤ y ∧ y ≤ B) → ∀ h ∈ hts l, h ≤ B
  | [], _, _, h => by cases h
  | x :: r, hb, h, hh => by
    rcases List.mem_cons.mp hh with e | e
    · have b := hb x List.mem_cons_self
      have := Hs_le2 (c := x) (B := B) (r := r) (fun y hy => (hb y (List.mem_cons_of_mem _ hy)).2) b.2
      omega
    · exact hts_le2 (fun y hy => hb y (List.mem_cons_of_mem _ hy)) h e
theorem ht_le {bs : List Bool} {top : Int} (h0 : 0 ≤ top) : ∀ h ∈ ht top bs, 1 ≤ h ∧ h ≤ bs.length := fun h hh => ⟨hts_ge _ h hh, hts_le2 (B := bs.length) (fun y hy => by
    obtain ⟨a, b⟩ := plv_bound (lv_lev h0 bs) y hy
    have := lv_bound h0 y b
    omega) h hh⟩
/-- a row: items from 1 on that never rise -/
def Row (l : List Int) : Prop := l.length ≤ 1000 ∧ (∀ x ∈ l, 1 ≤ x) ∧ ∀ (i : Nat) (x y : Int), l[i]? = some x → l[i + 1]? = some y → y ≤ x
theorem check_row_loop {l : List Int} (h : Row l) : ∀ (D : List Int) (i : Nat), l.drop i = D → loopM (m_check_row_b1 l) (enumFrom (i : Int) D) () = some (.go ())
  | [], _, _ => rfl
  | x :: D, i, hd => by
    obtain ⟨h1, h2⟩ := drop_at hd
    have x1 := h.2.1 x (List.mem_of_getElem? h1)
    have e : m_check_row_b1 l ((i : Int), x) () = some (.go ()) := by
      unfold m_check_row_b1 m_is_integer
      refine (to_bind (a := false) ?_ _).trans (if_neg (by decide))
      rw [some_bind]
      refine (if_neg (by decide)).trans ?_
      refine (to_bind (a := false) ?_ _).trans rfl
      refine (if_neg (by simp; omega)).trans ?_
      refine (to_bind (a := false) ?_ _).trans rfl
      by_cases i0 : (0 : Int) < (i : Int)
      · obtain ⟨j, rfl⟩ : ∃ j, i = j + 1 := ⟨i - 1, by omega⟩
        have jl : j < l.length := by have := (List.getElem?_eq_some_iff.mp h1).1; omega
        refine (if_pos (decide_eq_true i0)).trans ?_
        rw [show (((j + 1 : Nat)) : Int) - 1 = (j : Int) by omega, to_bind (atI_nat (List.getElem?_eq_getElem jl))]
        have := h.2.2 j l[j] x (List.getElem?_eq_getElem jl) h1
        exact congrArg some (decide_eq_false (by omega))
      · exact if_neg (by simpa using i0)
    refine (loop_cons e).trans ?_
    rw [show (i : Int) + 1 = ((i + 1 : Nat) : Int) by omega]
    exact check_row_loop h D (i + 1) h2
theorem check_row_ok {l : List Int} (h : Row l) : m_check_row l = some () := by
  have e : loopM (m_check_row_b1 l) (enumFrom (0 : Int) l) () = some (.go ()) := check_row_loop h l 0 rfl
  have hl := h.1
  unfold m_check_row
  rw [if_neg (by decide), to_bind (m := some (decide ((1000 : Int) < ((l.length : Nat) : Int)))) (a := false) (by rw [decide_eq_false (by omega)]), if_neg (by decide)]
  unfold Z.enumZ
  rw [to_bind e, after_go]
theorem number_ok {n least : Int} (h : least ≤ n) : m_check_number n least none = some () := by
  unfold m_check_number m_is_integer
  rw [some_bind]
  refine (to_bind (a := false) ?_ _).trans (if_neg (by decide))
  rw [if_neg (by decide)]
  refine (to_bind (a := false) ?_ _).trans rfl
  rw [if_neg (by simp; omega)]
  rfl
theorem number_ok' {n least most : Int} (h : least ≤ n) (h2 : n ≤ most) : m_check_number n least (some most) = some () := by
  unfold m_check_number m_is_integer
  rw [some_bind]
  refine (to_bind (a := false) ?_ _).trans (if_neg (by decide))
  rw [if_neg (by decide)]
  refine (to_bind (a := false) ?_ _).trans rfl
  rw [if_neg (by simp; omega)]
  refine (to_bind (a := false) ?_ _).trans rfl
  refine (if_pos (by simp [Z.vO])).trans ?_
  rw [some_bind, decide_eq_false (by omega)]
theorem cut_from (l : List Int) (k : Nat) : Z.cutL l (some (k : Int)) none = l.drop k := by
  unfold Z.cutL
  rw [HT.sIx_none]
  have e : HT.sIx l.length 0 (some (k : Int)) = min k l.length := HT.sIx_nat l.length 0 k
  rw [e]
  by_cases h : k ≤ l.length
  · rw [show min k l.length = k by omega]
    exact List.take_of_length_le (by rw [List.length_drop]; omega)
  · rw [show min k l.length = l.length by omega, List.drop_length, List.drop_eq_nil_of_le (by omega)]
    rw [Nat.sub_self]; rfl
theorem written_by_ok {l : List Int} (h : Row l) (k : Nat) : m_written_by l (k : Int) = some (l.drop k).sum := by
  unfold m_written_by
  rw [to_bind (check_row_ok h), to_bind (number_ok (by omega)), cut_from]
theorem row_row {bs : List Bool} {top : Int} (hl : bs.length ≤ 1000) (h0 : 0 ≤ top) : Row (row (ht top bs)) := by
  have hb := ht_le (bs := bs) h0
  have g := lv_lev h0 bs
  have pb : ∀ y ∈ plv (lv top bs), 1 ≤ y ∧ y < ((1002 : Nat) : Int) := fun y hy => by
    obtain ⟨a, b⟩ := plv_bound g y hy
    have := lv_bound h0 y b
    omega
  have fall : ∀ h : Int, 1 ≤ h → cx (h + 1) (ht top bs) ≤ cx h (ht top bs) := fun h h1 => row_falls (plv_chain g) pb h1
  have len := row_len (ht top bs)
  have at_ := fun (i : Nat) hi => row_at (hh := ht top bs) (fun h hh => (hb h hh).1) (i := i) hi
  have m1 : (row (ht top bs)).length ≤ 1000 := by
    rw [len]
    rcases lmaxD_mem (l := ht top bs) (d := 0) with e | e
    · rw [e]; decide
    · have := hb _ e; omega
  have pos : ∀ (d : Nat) (i : Nat), i + d + 1 = (row (ht top bs)).length → 1 ≤ cx ((i : Int) + 1) (ht top bs) := fun d => by
    induction d with
    | zero =>
      intro i hi
      rcases lmaxD_mem (l := ht top bs) (d := 0) with e | e
      · rw [e] at len; have : (0 : Int).toNat = 0 := rfl; omega
      · have : Z.lmaxD (ht top bs) 0 = (i : Int) + 1 := by have := (hb _ e).1; omega
        rw [← this]; exact cx_pos e
    | succ d ih =>
      intro i hi
      have a := ih (i + 1) (by omega)
      have b := fall ((i : Int) + 1) (by omega)
      rw [show ((i + 1 : Nat) : Int) + 1 = (i : Int) + 1 + 1 by omega] at a
      omega
  refine ⟨m1, fun x hx => ?_, fun i x y hx hy => ?_⟩
  · obtain ⟨i, hi⟩ := List.mem_iff_getElem?.mp hx
    have il := (List.getElem?_eq_some_iff.mp hi).1
    rw [at_ i il] at hi
    cases hi
    exact pos ((row (ht top bs)).length - i - 1) i (by omega)
  · have il := (List.getElem?_eq_some_iff.mp hx).1
    have jl := (List.getElem?_eq_some_iff.mp hy).1
    rw [at_ i il] at hx
    rw [at_ (i + 1) jl] at hy
    cases hx; cases hy
    have := fall ((i : Int) + 1) (by omega)
    rw [show ((i + 1 : Nat) : Int) + 1 = (i : Int) + 1 + 1 by omega]
    exact this
theorem row_bound {bs : List Bool} {top : Int} (hl : bs.length ≤ 1000) (h0 : 0 ≤ top) : ∀ x ∈ row (ht top bs), 1 ≤ x ∧ x ≤ 1001 := fun x hx => by
  have r := row_row (bs := bs) hl h0
  have hb := ht_le (bs := bs) h0
  have bd := (ht_bound (bs := bs) (top := top) hl h0).1
  refine ⟨r.2.1 x hx, ?_⟩
  obtain ⟨i, hi⟩ := List.mem_iff_getElem?.mp hx
  have il := (List.getElem?_eq_some_iff.mp hi).1
  rw [row_at (hh := ht top bs) (fun h hh => (hb h hh).1) il] at hi
  cases hi
  have := (cx_nn ((i : Int) + 1) (ht top bs)).2
  omega
theorem row_sh {bs : List Bool} {top : Int} (hl : bs.length ≤ 1000) (h0 : 0 ≤ top) : Sh 1 22100 (.list ((row (ht top bs)).map PyData.int)) :=
  (Sh.ints (m := 1001) (fun x hx => by have := row_bound hl h0 x hx; omega) (by have := (row_row (bs := bs) hl h0).1; omega)).up (Nat.le_refl _) (by decide)
/-! ### the laws' lazy plan, and its words -/
theorem law_lazy_loop (g : Int) : ∀ (L : List Int) (a : Int) (fd : List Int), fd.length + L.length ≤ 1000000 → ∃ a', loopM (m__law_lazy_b1 g) L (a, fd) = some (.go (a', fd ++ lzl g a L))
  | [], a, fd, _ => ⟨a, by show some (Step.go (a, fd)) = some (Step.go (a, fd ++ [])); rw [List.append_nil]⟩
  | y :: L, a, fd, h => by
    rw [List.length_cons] at h
    obtain ⟨a', e⟩ := law_lazy_loop g L (nl g a y) (fd ++ [nl g a y]) (by simp; omega)
    refine ⟨a', (loop_cons (s' := (nl g a y, fd ++ [nl g a y])) ?_).trans ?_⟩
    · unfold m__law_lazy_b1
      exact chk_bind (line_le (by show fd.length ≤ _; omega)).2 _
    · rw [e, List.append_assoc]; rfl
theorem law_lazy_ok (L : List Int) (g : Int) (h : L.length ≤ 100000) : m__law_lazy L g = some (lzl g 0 L) := by
  obtain ⟨a', e⟩ := law_lazy_loop g L 0 [] (by simp; omega)
  unfold m__law_lazy
  rw [to_bind e, after_go]
  rfl
theorem lzl_len (g : Int) : ∀ (L : List Int) (a : Int), (lzl g a L).length = L.length
  | [], _ => rfl
  | y :: L, a => by show (lzl g (nl g a y) L).length + 1 = L.length + 1; rw [lzl_len g L]
def dfs : Int → List Int → List Int
  | _, [] => []
  | a, x :: r => imax 0 (x - a) :: dfs x r
theorem dfs_sum : ∀ (l : List Int) (a : Int), (dfs a l).sum = wr a l
  | [], _ => rfl
  | x :: r, a => by show (imax 0 (x - a) :: dfs x r).sum = imax 0 (x - a) + wr x r; rw [List.sum_cons, dfs_sum r]
theorem words_comp (full : List Int) : ∀ (q : List Int) (i : Nat) (a : Int), full.drop i = a :: q → compM (m__law_words_c1 full) (enumFrom (i : Int) q) () = some (dfs a q, ())
  | [], _, _, _ => rfl
  | x :: q, i, a, hd => by
    obtain ⟨h1, h2⟩ := drop_at hd
    have e : m__law_words_c1 full ((i : Int), x) () = some (some (imax 0 (x - a)), ()) := by
      unfold m__law_words_c1
      rw [to_bind (atI_nat h1)]
    have ih := words_comp full q (i + 1) x h2
    rw [show ((i + 1 : Nat) : Int) = (i : Int) + 1 by omega] at ih
    exact comp_cons e ih
theorem enum_len {α : Type} (l : List α) : (Z.enumZ l).length = l.length := Z.enumZ_len l
theorem law_words_ok {bs : List Bool} {held g : Int} (hl : bs.length ≤ 1000) (h0 : 0 ≤ held) (g0 : 0 ≤ g) : m__law_words (lv held bs) g = some (cg g (ht held bs)) := by
  have ll := lv_len held bs
  have hlz : lzl g 0 (lv held bs) = 0 :: lzl g 0 (lv held bs).tail := by
    unfold lv
    show nl g 0 0 :: lzl g (nl g 0 0) _ = _
    rw [show nl g 0 0 = 0 by unfold nl; simp only [imax_def, imin_def]; (repeat' split) <;> omega]
    rfl
  have c : compM (m__law_words_c1 (0 :: lzl g 0 (lv held bs).tail)) (enumFrom (0 : Int) (lzl g 0 (lv held bs).tail)) () = some (dfs 0 (lzl g 0 (lv held bs).tail), ()) := words_comp _ _ 0 0 rfl
  have w := words g0 (lv held bs).tail 0 0 (lv_lev h0 bs) (Int.le_refl 0) (Int.le_refl 0) (by omega)
  unfold m__law_words
  rw [to_bind (law_lazy_ok _ g (by omega)), hlz, cut_tail, List.tail_cons, chk_bind (by rw [enum_len, lzl_len, List.length_tail]; exact (line_le (by omega)).2)]
  unfold Z.enumZ
  rw [to_bind c]
  show some (dfs 0 (lzl g 0 (lv held bs).tail)).sum = _
  rw [dfs_sum, w]
  show some (cg g (hts (plv (lv held bs))) + 0) = some (cg g (ht held bs))
  rw [Int.add_zero]; rfl
end Zm
/-! What is in memory: the open calls above the room; the lazy plan by depths and by levels; words along a trace. -/
namespace Zm
open PySem PySem.Spec PyProof.Rows L2 Z
theorem mn_cons (x y : Int) (r : List Int) : mn (x :: y :: r) = imin x (mn (y :: r)) := rfl
theorem mems {g : Int} (g0 : 0 ≤ g) : ∀ (L : List Int) (l a : Int), Lev (l :: L) → 0 ≤ a → a ≤ l → l - g ≤ a →
    lst a (lzl g a L) = cg g (og (l :: L)) + ct (fun k => decide (k ≤ mn (l :: L))) 0 a.toNat + ct (fun k => decide (k ≤ mn (l :: L)) && above g l L k) a (l - a).toNat
  | [], l, a, _, h0, h1, h2 => by
    have c0 : ct (fun k => decide (k ≤ mn [l]) && above g l [] k) a (l - a).toNat = 0 := ct_none fun k k1 k2 => by
      have : above g l [] k = false := decide_eq_false (show ¬ g < l - k + 1 by omega)
      rw [this, Bool.and_false]
    have c1 : ct (fun k => decide (k ≤ mn [l])) 0 a.toNat = a.toNat := ct_all fun k k1 k2 => decide_eq_true (show k ≤ l by omega)
    rw [c0, c1]
    show a = 0 + ((a.toNat : Nat) : Int) + 0
    omega
  | y :: R, l, a, lv, h0, h1, h2 => by
    have lv' : Lev (y :: R) := lv.2.2
    have y0 := lev_head lv'
    have my := (mn_le y R).1
    show lst (nl g a y) (lzl g (nl g a y) R) = _
    rcases lv.1 with e | e | e
    · -- a push
      subst e
      have en : nl g a (l + 1) = imax a (l + 1 - g) := by
        unfold nl
        rw [imin_of' (a := l + 1) (b := a) (by omega)]
        simp only [imax_def]; (repeat' split) <;> omega
      have b1 : a ≤ nl g a (l + 1) ∧ nl g a (l + 1) ≤ l + 1 := by rw [en]; simp only [imax_def]; split <;> omega
      have ih := mems g0 R (l + 1) (nl g a (l + 1)) lv' (by omega) b1.2 (by rw [en]; simp only [imax_def]; split <;> omega)
      rw [ih]
      have sk : ∀ k : Int, k ≤ l → decide (k ≤ mn (l :: (l + 1) :: R)) = decide (k ≤ mn ((l + 1) :: R)) := fun k hk => by
        rw [mn_cons, imin_def]
        by_cases q : k ≤ mn ((l + 1) :: R)
        · rw [decide_eq_true q, decide_eq_true (by split <;> omega)]
        · rw [decide_eq_false q, decide_eq_false (by split <;> omega)]
      have c0 : ct (fun k => decide (k ≤ mn (l :: (l + 1) :: R))) 0 a.toNat = ct (fun k => decide (k ≤ mn ((l + 1) :: R))) 0 a.toNat := ct_congr fun k k1 k2 => sk k (by omega)
      have c1 : ct (fun k => decide (k ≤ mn (l :: (l + 1) :: R)) && above g l ((l + 1) :: R) k) a (l - a).toNat = ct (fun k => decide (k ≤ mn ((l + 1) :: R)) && above g (l + 1) R k) a (l - a).toNat := ct_congr fun k k1 k2 => by
        rw [sk k (by omega)]
        congr 1
        unfold above
        rw [mx_cons_ge (show k ≤ l + 1 by omega), imax_of (show l ≤ l + 1 by omega)]
      rw [c0, c1]
      have c2 : ct (fun k => decide (k ≤ mn ((l + 1) :: R)) && above g (l + 1) R k) a (l + 1 - a).toNat = ct (fun k => decide (k ≤ mn ((l + 1) :: R)) && above g (l + 1) R k) a (l - a).toNat + (if l + 1 ≤ mn ((l + 1) :: R) ∧ g < mx (l + 1) (l + 1) R - (l + 1) + 1 then 1 else 0) := by
        rw [show (l + 1 - a).toNat = (l - a).toNat + 1 by omega]
        show _ + (if (decide (a + ((l - a).toNat : Int) + 1 ≤ mn ((l + 1) :: R)) && decide (g < mx (a + ((l - a).toNat : Int) + 1) (l + 1) R - (a + ((l - a).toNat : Int) + 1) + 1)) = true then (1 : Int) else 0) = _
        rw [show a + ((l - a).toNat : Int) + 1 = l + 1 by omega]
        congr 1
        by_cases q : l + 1 ≤ mn ((l + 1) :: R) ∧ g < mx (l + 1) (l + 1) R - (l + 1) + 1
        · rw [if_pos q, if_pos (by rw [decide_eq_true q.1, decide_eq_true q.2]; rfl)]
        · rw [if_neg q, if_neg fun z => q (by
            have z' := Bool.and_eq_true_iff.mp z
            exact ⟨of_decide_eq_true z'.1, of_decide_eq_true z'.2⟩)]
      have c3 : ct (fun k => decide (k ≤ mn ((l + 1) :: R)) && above g (l + 1) R k) a (l + 1 - a).toNat = ct (fun k => decide (k ≤ mn ((l + 1) :: R))) a (nl g a (l + 1) - a).toNat + ct (fun k => decide (k ≤ mn ((l + 1) :: R)) && above g (l + 1) R k) (nl g a (l + 1)) (l + 1 - nl g a (l + 1)).toNat := by
        rw [show (l + 1 - a).toNat = (nl g a (l + 1) - a).toNat + (l + 1 - nl g a (l + 1)).toNat by omega, ct_add, show a + ((nl g a (l + 1) - a).toNat : Int) = nl g a (l + 1) by omega]
        congr 1
        refine ct_congr fun k k1 k2 => ?_
        have : above g (l + 1) R k = true := by
          have := mx_ge (c := k) (r := R) (b := l + 1)
          unfold above
          refine decide_eq_true ?_
          rw [en] at k2
          simp only [imax_def] at k2
          split at k2 <;> omega
        rw [this, Bool.and_true]
      have c4 : ct (fun k => decide (k ≤ mn ((l + 1) :: R))) 0 (nl g a (l + 1)).toNat = ct (fun k => decide (k ≤ mn ((l + 1) :: R))) 0 a.toNat + ct (fun k => decide (k ≤ mn ((l + 1) :: R))) a (nl g a (l + 1) - a).toNat := by
        rw [show (nl g a (l + 1)).toNat = a.toNat + (nl g a (l + 1) - a).toNat by omega, ct_add, show (0 : Int) + (a.toNat : Int) = a by omega]
      have c5 : cg g (og (l :: (l + 1) :: R)) = (if l + 1 ≤ mn ((l + 1) :: R) ∧ g < mx (l + 1) (l + 1) R - (l + 1) + 1 then 1 else 0) + cg g (og ((l + 1) :: R)) := by
        show cg g (if l < mn ((l + 1) :: R) then (mxa ((l + 1) :: R) - mn ((l + 1) :: R) + 1) :: og ((l + 1) :: R) else og ((l + 1) :: R)) = _
        by_cases q : l < mn ((l + 1) :: R)
        · have e1 : mn ((l + 1) :: R) = l + 1 := by omega
          have e2 := mx_all (c := l + 1) (r := R) (x := l + 1) (b := l + 1) (by omega)
          rw [mx_cons_ge (Int.le_refl (l + 1)), imax_of (Int.le_refl (l + 1)), imax_of (mn_le (l + 1) R).2] at e2
          rw [if_pos q, e2, e1]
          show (if g < mxa ((l + 1) :: R) - (l + 1) + 1 then 1 else 0) + cg g (og ((l + 1) :: R)) = _
          congr 1
          by_cases q2 : g < mxa ((l + 1) :: R) - (l + 1) + 1
          · rw [if_pos q2, if_pos ⟨Int.le_refl _, q2⟩]
          · rw [if_neg q2, if_neg fun z => q2 z.2]
        · rw [if_neg q, if_neg fun z => q (by omega)]; omega
      rw [c5, c4]
      omega
    · -- none
      subst e
      have en : nl g a y = a := by
        unfold nl
        rw [imin_of' (a := y) (b := a) (by omega)]
        simp only [imax_def]; (repeat' split) <;> omega
      have ih := mems g0 R y a lv' h0 h1 h2
      have em : mn (y :: y :: R) = mn (y :: R) := by rw [mn_cons, imin_of' my]
      rw [en, ih, em, show og (y :: y :: R) = og (y :: R) from if_neg (by omega)]
      have c1 : ct (fun k => decide (k ≤ mn (y :: R)) && above g y (y :: R) k) a (y - a).toNat = ct (fun k => decide (k ≤ mn (y :: R)) && above g y R k) a (y - a).toNat := ct_congr fun k k1 k2 => by
        congr 1
        unfold above
        rw [mx_cons_ge (show k ≤ y by omega), imax_of (Int.le_refl y)]
      rw [c1]
    · -- a pop
      subst e
      have en : nl g a (l - 1) = imin a (l - 1) := by
        unfold nl
        simp only [imax_def, imin_def]; (repeat' split) <;> omega
      have b0 : imin a (l - 1) = a ∧ a ≤ l - 1 ∨ imin a (l - 1) = l - 1 ∧ a = l := by simp only [imin_def]; split <;> omega
      have ih := mems g0 R (l - 1) (nl g a (l - 1)) lv' (by rw [en]; omega) (by rw [en]; omega) (by rw [en]; omega)
      have em : mn (l :: (l - 1) :: R) = mn ((l - 1) :: R) := by rw [mn_cons, imin_of' (by omega)]
      rw [ih, em, en, show og (l :: (l - 1) :: R) = og ((l - 1) :: R) from if_neg (by omega)]
      rcases b0 with ⟨b1, b2⟩ | ⟨b1, b2⟩
      · rw [b1, show (l - a).toNat = (l - 1 - a).toNat + 1 by omega]
        have c1 : ct (fun k => decide (k ≤ mn ((l - 1) :: R)) && above g l ((l - 1) :: R) k) a (l - 1 - a).toNat = ct (fun k => decide (k ≤ mn ((l - 1) :: R)) && above g (l - 1) R k) a (l - 1 - a).toNat := ct_congr fun k k1 k2 => by
          congr 1
          unfold above
          rw [mx_cons_ge (show k ≤ l - 1 by omega), imax_of' (show l - 1 ≤ l by omega)]
          have := mx_start (c := k) (t := g + k - 1) (r := R) (b := l) (b' := l - 1) (by omega) (by omega)
          by_cases q : g < mx k l R - k + 1
          · rw [decide_eq_true q, decide_eq_true (by have := this.mp (by omega); omega)]
          · rw [decide_eq_false q, decide_eq_false fun z => q (by have := this.mpr (by omega); omega)]
        show _ = _ + _ + (ct (fun k => decide (k ≤ mn ((l - 1) :: R)) && above g l ((l - 1) :: R) k) a (l - 1 - a).toNat + (if (decide (a + ((l - 1 - a).toNat : Int) + 1 ≤ mn ((l - 1) :: R)) && above g l ((l - 1) :: R) (a + ((l - 1 - a).toNat : Int) + 1)) = true then (1 : Int) else 0))
        rw [c1, show a + ((l - 1 - a).toNat : Int) + 1 = l by omega, decide_eq_false (show ¬ l ≤ mn ((l - 1) :: R) by omega), Bool.false_and, if_neg (by decide)]
        omega
      · rw [b1, b2, show (l - l).toNat = 0 by omega, show (l - 1 - (l - 1)).toNat = 0 by omega]
        have c1 : ct (fun k => decide (k ≤ mn ((l - 1) :: R))) 0 l.toNat = ct (fun k => decide (k ≤ mn ((l - 1) :: R))) 0 (l - 1).toNat := by
          by_cases z : l = 0
          · subst z; rfl
          · rw [show l.toNat = (l - 1).toNat + 1 by omega]
            show _ + (if decide ((0 : Int) + ((l - 1).toNat : Int) + 1 ≤ mn ((l - 1) :: R)) = true then (1 : Int) else 0) = _
            rw [if_neg (by simp; omega)]
            omega
        rw [c1]; rfl
/-! ### the lazy plan by depths and by levels -/
theorem nx_nl {reg top a d : Int} (h0 : 0 ≤ top) (h1 : top ≤ reg) (ha : 0 ≤ a) : nx reg top a d = nl (reg - top) a (imax 0 (d - top)) := by
  unfold nx nl
  simp only [imax_def, imin_def]
  (repeat' split) <;> omega
theorem lz_lzl {reg top : Int} (h0 : 0 ≤ top) (h1 : top ≤ reg) : ∀ (ds : List Int) (a : Int), 0 ≤ a → lz reg top a ds = lzl (reg - top) a (ds.map fun d => imax 0 (d - top))
  | [], _, _ => rfl
  | d :: r, a, ha => by
    show nx reg top a d :: lz reg top (nx reg top a d) r = nl (reg - top) a (imax 0 (d - top)) :: lzl (reg - top) (nl (reg - top) a (imax 0 (d - top))) _
    rw [lz_lzl h0 h1 r _ (nx_pl h0 h1 ha).2.2, nx_nl h0 h1 ha]
theorem lz_lv {reg top : Int} (h0 : 0 ≤ top) (h1 : top ≤ reg) (bs : List Bool) : lz reg top 0 (0 :: hs 0 bs) = lzl (reg - top) 0 (lv top bs) := by
  rw [lz_lzl h0 h1 _ 0 (Int.le_refl 0), lv_map top h0]
theorem lzl_zero {g : Int} (g0 : 0 ≤ g) (top : Int) (bs : List Bool) : lzl g 0 (lv top bs) = 0 :: lzl g 0 (lv top bs).tail := by
  unfold lv
  show nl g 0 0 :: lzl g (nl g 0 0) _ = _
  rw [show nl g 0 0 = 0 by unfold nl; simp only [imax_def, imin_def]; (repeat' split) <;> omega]
  rfl
/-- written words: the calls above the room; words in memory: the open ones -/
theorem lazy_words {g top : Int} (g0 : 0 ≤ g) (h0 : 0 ≤ top) (bs : List Bool) : wr 0 (lzl g 0 (lv top bs)) = cg g (ht top bs) ∧ lst 0 (lzl g 0 (lv top bs)) = cg g (og (lv top bs)) := by
  have w := words g0 (lv top bs).tail 0 0 (lv_lev h0 bs) (Int.le_refl 0) (Int.le_refl 0) (by omega)
  have m := mems g0 (lv top bs).tail 0 0 (lv_lev h0 bs) (Int.le_refl 0) (Int.le_refl 0) (by omega)
  rw [lzl_zero g0]
  constructor
  · show imax 0 (0 - 0) + wr 0 (lzl g 0 (lv top bs).tail) = _
    rw [w]
    show (0 : Int) + (cg g (hts (plv (lv top bs))) + 0) = cg g (hts (plv (lv top bs)))
    omega
  · show lst 0 (lzl g 0 (lv top bs).tail) = _
    rw [m]
    show cg g (og (lv top bs)) + 0 + 0 = _
    omega
/-! ### words along a plan -/
def alo : Int → Int → List Int → List (Int × Int)
  | _, _, [] => []
  | w, a, x :: r => (w + imax 0 (x - a), w + imax 0 (x - a) - x) :: alo (w + imax 0 (x - a)) x r
theorem alo_len : ∀ (l : List Int) (w a : Int), (alo w a l).length = l.length
  | [], _, _ => rfl
  | x :: r, w, a => by show (alo _ x r).length + 1 = r.length + 1; rw [alo_len r]
theorem alo_at : ∀ (l : List Int) (w a : Int) (i : Nat), i < l.length → (alo w a l)[i]? = some (w + wr a (l.take (i + 1)), w + wr a (l.take (i + 1)) - lst a (l.take (i + 1)))
  | [], _, _, i, h => absurd h (Nat.not_lt_zero i)
  | x :: r, w, a, 0, _ => by
    show some (w + imax 0 (x - a), w + imax 0 (x - a) - x) = some (w + (imax 0 (x - a) + 0), w + (imax 0 (x - a) + 0) - x)
    rw [Int.add_zero]
  | x :: r, w, a, i + 1, h => by
    rw [List.length_cons] at h
    show (alo (w + imax 0 (x - a)) x r)[i]? = some (w + (imax 0 (x - a) + wr x (r.take (i + 1))), w + (imax 0 (x - a) + wr x (r.take (i + 1))) - lst x (r.take (i + 1)))
    rw [alo_at r _ x i (by omega), Int.add_assoc]
theorem along_run : ∀ (l : List Int) (w a : Int) (fd : List (Int × Int)), fd.length + l.length ≤ 1000000 → ∃ w' a', loopM m_written_along_b1 l (w, a, fd) = some (.go (w', a', fd ++ alo w a l))
  | [], w, a, fd, _ => ⟨w, a, by show some (Step.go (w, a, fd)) = some (Step.go (w, a, fd ++ [])); rw [List.append_nil]⟩
  | x :: r, w, a, fd, h => by
    rw [List.length_cons] at h
    obtain ⟨w', a', e⟩ := along_run r (w + imax 0 (x - a)) x (fd ++ [(w + imax 0 (x - a), w + imax 0 (x - a) - x)]) (by simp; omega)
    refine ⟨w', a', (loop_cons (s' := (w + imax 0 (x - a), x, fd ++ [(w + imax 0 (x - a), w + imax 0 (x - a) - x)])) ?_).trans ?_⟩
    · unfold m_written_along_b1
      refine (to_bind (a := w + imax 0 (x - a)) ?_ _).trans (chk_bind (line_le (by show fd.length ≤ _; omega)).2 _)
      by_cases q : a < x
      · rw [if_pos (show decide ((w, a, fd).2.1 < x) = true from decide_eq_true q), imax_of (by omega)]
      · rw [if_neg (show ¬ decide ((w, a, fd).2.1 < x) = true by simpa using q), imax_of' (by omega), Int.add_zero]
    · rw [e, List.append_assoc]; rfl
theorem along_w_ok {bs : List Bool} {reg top : Int} (o : ok 0 bs) (hl : bs.length ≤ 1000) (m : Mach reg top) : m_written_along (tx bs) reg top = some (alo 0 0 (lzl (reg - top) 0 (lv top bs))) := by
  obtain ⟨m1, m2, m3, m4⟩ := id m
  have ll := lv_len top bs
  obtain ⟨w', a', e⟩ := along_run (lzl (reg - top) 0 (lv top bs)) 0 0 [] (by rw [lzl_len]; simp; omega)
  unfold m_written_along
  rw [to_bind (lazy_ok o hl m), lz_lv m3 m4, to_bind e, after_go]
  rfl
/-! ### beginnings -/
theorem lzl_take (g : Int) : ∀ (L : List Int) (a : Int) (n : Nat), (lzl g a L).take n = lzl g a (L.take n)
  | [], a, n => by rw [show lzl g a [] = [] from rfl, List.take_nil]; rfl
  | y :: L, a, 0 => rfl
  | y :: L, a, n + 1 => by
    show nl g a y :: (lzl g (nl g a y) L).take n = nl g a y :: lzl g (nl g a y) (L.take n)
    rw [lzl_take g L]
theorem hs_take : ∀ (bs : List Bool) (d : Int) (n : Nat), (hs d bs).take n = hs d (bs.take n)
  | [], d, n => by rw [show hs d [] = [] from rfl, List.take_nil, List.take_nil]; rfl
  | b :: r, d, 0 => rfl
  | b :: r, d, n + 1 => by
    show (d + dl b) :: (hs (d + dl b) r).take n = (d + dl b) :: hs (d + dl b) (r.take n)
    rw [hs_take r]
theorem lv_take (top : Int) (bs : List Bool) (n : Nat) : (lv top bs).take (n + 1) = lv top (bs.take n) := by
  unfold lv
  rw [List.take_succ_cons, ← List.map_take, hs_take]
theorem ok_take {bs : List Bool} {d : Int} (o : ok d bs) (n : Nat) : ok d (bs.take n) := by
  have := (ok_app (bs.take n) (bs.drop n) d).mp (by rw [List.take_append_drop]; exact o)
  exact this.1
theorem cut_take (bs : List Bool) (k : Nat) : cutS (tx bs) none (some (k : Int)) = tx (bs.take k) := by
  unfold cutS
  rw [HT.sIx_none, tx_len]
  have e : HT.sIx bs.length bs.length (some (k : Int)) = min k bs.length := HT.sIx_nat bs.length bs.length k
  rw [e]
  unfold tx
  congr 1
  apply Array.ext'
  simp
end Zm
/-! The fewest traps: blocks along levels, and by the levels at which they turn. -/
namespace Zm
open PySem PySem.Spec PyProof.Rows L2 Z
abbrev GS := Int × Int × Int
/-- one more level: (blocks so far, the block's least and greatest level) -/
def gstep (r : Int) (s : GS) (x : Int) : GS := if r < imax s.2.2 x - imin s.2.1 x then (s.1 + 1, x, x) else (s.1, imin s.2.1 x, imax s.2.2 x)
/-- a run to a level -/
def tstep (r : Int) (s : GS) (x : Int) : GS :=
  if s.2.2 < x then (s.1 + (x - s.2.1) / (r + 1), s.2.1 + (x - s.2.1) / (r + 1) * (r + 1), x)
  else if x < s.2.1 then (s.1 + (s.2.2 - x) / (r + 1), x, s.2.2 - (s.2.2 - x) / (r + 1) * (r + 1)) else s
/-- the block at a level -/
def At (r : Int) (s : GS) (p : Int) : Prop := s.2.1 ≤ p ∧ p ≤ s.2.2 ∧ s.2.2 - s.2.1 ≤ r
theorem div_of {n m b : Int} (h0 : 0 ≤ m) (h1 : m < n) : (b * n + m) / n = b := by
  rw [Int.add_comm, Int.add_mul_ediv_right _ _ (by omega), Int.ediv_eq_zero_of_lt h0 h1]; omega
theorem split_div {x n : Int} (hn : 0 < n) : ∃ b m, x = b * n + m ∧ 0 ≤ m ∧ m < n ∧ x / n = b := by
  refine ⟨x / n, x % n, ?_, Int.emod_nonneg _ (by omega), Int.emod_lt_of_pos _ hn, rfl⟩
  have := Int.mul_ediv_add_emod x n
  rw [Int.mul_comm] at this
  omega
theorem up_step {r c lo hi y : Int} (r0 : 0 ≤ r) (h : hi - lo ≤ r) (hy : lo ≤ y) (hlh : lo ≤ hi) : gstep r (tstep r (c, lo, hi) y) (y + 1) = tstep r (c, lo, hi) (y + 1) := by
  unfold tstep
  dsimp only
  by_cases h1 : hi < y
  · obtain ⟨b, m, e, m0, m1, eb⟩ := split_div (x := y - lo) (n := r + 1) (by omega)
    rw [if_pos h1, if_pos (show hi < y + 1 by omega), eb]
    unfold gstep
    dsimp only
    rw [imax_of (show y ≤ y + 1 by omega), imin_of (show lo + b * (r + 1) ≤ y + 1 by omega)]
    by_cases h2 : m + 1 = r + 1
    · have e2 : y + 1 - lo = (b + 1) * (r + 1) + 0 := by rw [Int.add_mul]; omega
      rw [if_pos (by omega), e2, div_of (by omega) (by omega)]
      have e3 : (b + 1) * (r + 1) = b * (r + 1) + (r + 1) := by rw [Int.add_mul]; omega
      rw [e3]
      have q1 : c + b + 1 = c + (b + 1) := by omega
      have q2 : y + 1 = lo + (b * (r + 1) + (r + 1)) := by omega
      rw [q1, ← q2]
    · have e2 : y + 1 - lo = b * (r + 1) + (m + 1) := by omega
      rw [if_neg (by omega), e2, div_of (by omega) (by omega)]
  · rw [if_neg h1, if_neg (show ¬ y < lo by omega)]
    unfold gstep
    dsimp only
    by_cases h2 : hi < y + 1
    · have e : y = hi := by omega
      subst e
      rw [if_pos h2, imax_of (show y ≤ y + 1 by omega), imin_of (show lo ≤ y + 1 by omega)]
      by_cases h3 : y + 1 - lo = r + 1
      · have e2 : y + 1 - lo = 1 * (r + 1) + 0 := by omega
        rw [if_pos (by omega), e2, div_of (by omega) (by omega)]
        have q2 : lo + 1 * (r + 1) = y + 1 := by omega
        rw [q2]
      · have e2 : y + 1 - lo = 0 * (r + 1) + (y + 1 - lo) := by omega
        rw [if_neg (by omega), e2, div_of (by omega) (by omega)]
        have q2 : lo + 0 * (r + 1) = lo := by omega
        rw [q2, Int.add_zero]
    · rw [if_neg h2, if_neg (show ¬ y + 1 < lo by omega), imax_of' (show y + 1 ≤ hi by omega), imin_of (show lo ≤ y + 1 by omega), if_neg (by omega)]
theorem down_step {r c lo hi y : Int} (r0 : 0 ≤ r) (h : hi - lo ≤ r) (hy : y ≤ hi) (hlh : lo ≤ hi) : gstep r (tstep r (c, lo, hi) y) (y - 1) = tstep r (c, lo, hi) (y - 1) := by
  unfold tstep
  dsimp only
  rw [if_neg (show ¬ hi < y by omega), if_neg (show ¬ hi < y - 1 by omega)]
  by_cases h1 : y < lo
  · obtain ⟨b, m, e, m0, m1, eb⟩ := split_div (x := hi - y) (n := r + 1) (by omega)
    rw [if_pos h1, if_pos (show y - 1 < lo by omega), eb]
    unfold gstep
    dsimp only
    rw [imin_of' (show y - 1 ≤ y by omega), imax_of' (show y - 1 ≤ hi - b * (r + 1) by omega)]
    by_cases h2 : m + 1 = r + 1
    · have e2 : hi - (y - 1) = (b + 1) * (r + 1) + 0 := by rw [Int.add_mul]; omega
      rw [if_pos (by omega), e2, div_of (by omega) (by omega)]
      have e3 : (b + 1) * (r + 1) = b * (r + 1) + (r + 1) := by rw [Int.add_mul]; omega
      rw [e3]
      have q1 : c + b + 1 = c + (b + 1) := by omega
      have q2 : hi - (b * (r + 1) + (r + 1)) = y - 1 := by omega
      rw [q1, q2]
    · have e2 : hi - (y - 1) = b * (r + 1) + (m + 1) := by omega
      rw [if_neg (by omega), e2, div_of (by omega) (by omega)]
  · rw [if_neg h1]
    unfold gstep
    dsimp only
    by_cases h2 : y - 1 < lo
    · have e : y = lo := by omega
      subst e
      rw [if_pos h2, imin_of' (show y - 1 ≤ y by omega), imax_of' (show y - 1 ≤ hi by omega)]
      by_cases h3 : hi - (y - 1) = r + 1
      · have e2 : hi - (y - 1) = 1 * (r + 1) + 0 := by omega
        rw [if_pos (by omega), e2, div_of (by omega) (by omega)]
        have q2 : hi - 1 * (r + 1) = y - 1 := by omega
        rw [q2]
      · have e2 : hi - (y - 1) = 0 * (r + 1) + (hi - (y - 1)) := by omega
        rw [if_neg (by omega), e2, div_of (by omega) (by omega)]
        have q2 : hi - 0 * (r + 1) = hi := by omega
        rw [q2, Int.add_zero]
    · rw [if_neg h2, imin_of (show lo ≤ y - 1 by omega), imax_of' (show y - 1 ≤ hi by omega), if_neg (by omega)]
theorem tstep_at {r : Int} {s : GS} {p : Int} (h : At r s p) : tstep r s p = s := by
  obtain ⟨a, b, c⟩ := h
  unfold tstep
  rw [if_neg (by omega), if_neg (by omega)]
theorem gstep_at {r : Int} {s : GS} {p x : Int} (r0 : 0 ≤ r) (h : At r s p) : At r (gstep r s x) x := by
  obtain ⟨a, b, c⟩ := h
  unfold gstep At
  by_cases q : r < imax s.2.2 x - imin s.2.1 x
  · rw [if_pos q]; exact ⟨Int.le_refl x, Int.le_refl x, by show x - x ≤ r; omega⟩
  · rw [if_neg q]
    refine ⟨?_, ?_, by show imax s.2.2 x - imin s.2.1 x ≤ r; omega⟩
    · show imin s.2.1 x ≤ x; rw [imin_def]; split <;> omega
    · show x ≤ imax s.2.2 x; rw [imax_def]; split <;> omega
theorem gstep_same {r : Int} {s : GS} {p : Int} (h : At r s p) : gstep r s p = s := by
  obtain ⟨a, b, c⟩ := h
  unfold gstep
  rw [imax_of' b, imin_of a, if_neg (by omega)]
def gr (r : Int) (l : List Int) : GS := l.foldl (gstep r) (0, 0, 0)
def tr2 (r : Int) (l : List Int) : GS := l.foldl (tstep r) (0, 0, 0)
/-- what the walk along levels knows: its turns tell the blocks for each room -/
def TI2 (cur : Int) (G : Int → GS) (rising : Bool) (turns : List Int) : Prop := (∀ r, 0 ≤ r → At r (G r) cur ∧ tr2 r turns = G r) ∧
  (turns ≠ [] → ∃ T p, turns = T ++ [cur] ∧ (∀ r, 0 ≤ r → At r (tr2 r T) p) ∧ (rising = true → p < cur) ∧ (rising = false → cur < p))
theorem tr2_app (r : Int) (T : List Int) (x : Int) : tr2 r (T ++ [x]) = tstep r (tr2 r T) x := by unfold tr2; rw [List.foldl_append]; rfl
theorem turn_new {cur y : Int} {G : Int → GS} {rising : Bool} {turns : List Int} (h : TI2 cur G rising turns) (hy : y = cur + 1 ∨ y = cur - 1) : TI2 y (fun r => gstep r (G r) y) (decide (cur < y)) (turns ++ [y]) := by
  refine ⟨fun r r0 => ?_, fun _ => ⟨turns, cur, rfl, fun r r0 => by rw [(h.1 r r0).2]; exact (h.1 r r0).1, fun z => of_decide_eq_true z, fun z => ?_⟩⟩
  · obtain ⟨a, b⟩ := h.1 r r0
    refine ⟨gstep_at r0 a, ?_⟩
    rw [tr2_app, b]
    have ta := tstep_at a
    show tstep r (G r) y = gstep r (G r) y
    generalize G r = g at a ta ⊢
    obtain ⟨c, lo, hi⟩ := g
    obtain ⟨a1, a2, a3⟩ := a
    dsimp only at a1 a2 a3
    rcases hy with e | e
    · subst e
      have := up_step (c := c) r0 a3 (y := cur) a1 (by omega)
      rw [ta] at this
      exact this.symm
    · subst e
      have := down_step (c := c) r0 a3 (y := cur) a2 (by omega)
      rw [ta] at this
      exact this.symm
  · have := of_decide_eq_false z
    omega
theorem turn_on {cur y : Int} {G : Int → GS} {rising : Bool} {turns : List Int} (h : TI2 cur G rising turns) (ht : turns ≠ []) (hd : rising = decide (cur < y)) (hy : y = cur + 1 ∨ y = cur - 1) :
    ∃ T, turns = T ++ [cur] ∧ TI2 y (fun r => gstep r (G r) y) (decide (cur < y)) (T ++ [y]) := by
  obtain ⟨T, p, e, hT, d1, d2⟩ := h.2 ht
  refine ⟨T, e, fun r r0 => ?_, fun _ => ⟨T, p, rfl, hT, fun z => ?_, fun z => ?_⟩⟩
  · obtain ⟨a, b⟩ := h.1 r r0
    refine ⟨gstep_at r0 a, ?_⟩
    rw [tr2_app]
    rw [e, tr2_app] at b
    show tstep r (tr2 r T) y = gstep r (G r) y
    rw [← b]
    have at_ := hT r r0
    generalize tr2 r T = g at at_ ⊢
    obtain ⟨c, lo, hi⟩ := g
    obtain ⟨a1, a2, a3⟩ := at_
    dsimp only at a1 a2 a3
    rcases hy with q | q
    · subst q
      have := d1 (by rw [hd]; exact decide_eq_true (by omega))
      exact (up_step (c := c) r0 a3 (y := cur) (by omega) (by omega)).symm
    · subst q
      have := d2 (by rw [hd]; exact decide_eq_false (by omega))
      exact (down_step (c := c) r0 a3 (y := cur) (by omega) (by omega)).symm
  · have := of_decide_eq_true z
    have := d1 (by rw [hd]; exact z)
    omega
  · have := of_decide_eq_false z
    have := d2 (by rw [hd]; exact z)
    omega
theorem drop_snoc {α : Type} (T : List α) (x : α) : (T ++ [x]).dropLast = T := by simp
theorem turns_loop : ∀ (l : List Int) (cur : Int) (G : Int → GS) (rising : Bool) (turns : List Int), Lev (cur :: l) → TI2 cur G rising turns → turns.length + l.length ≤ 100000 →
    ∃ ris' tl, loopM m_turns_of_b1 (List.zip (cur :: l) l) (rising, turns) = some (.go (ris', tl)) ∧ tl.length ≤ turns.length + l.length ∧ (∀ r, 0 ≤ r → tr2 r tl = l.foldl (gstep r) (G r)) ∧ ∀ x ∈ tl, x ∈ turns ∨ x ∈ l
  | [], cur, G, rising, turns, _, h, _ => ⟨rising, turns, rfl, by simp, fun r r0 => (h.1 r r0).2, fun x hx => .inl hx⟩
  | y :: l, cur, G, rising, turns, lv, h, hl => by
    rw [List.length_cons] at hl
    show ∃ ris' tl, loopM m_turns_of_b1 ((cur, y) :: List.zip (y :: l) l) (rising, turns) = _ ∧ _
    rcases (show y = cur ∨ (y = cur + 1 ∨ y = cur - 1) by rcases lv.1 with e | e | e <;> omega) with e | hy
    · subst e
      obtain ⟨ris', tl, e1, e2, e3, e4⟩ := turns_loop l y (fun r => gstep r (G r) y) rising turns lv.2.2 ⟨fun r r0 => by
        have := gstep_same (h.1 r r0).1
        dsimp only
        rw [this]; exact h.1 r r0, h.2⟩ (by omega)
      refine ⟨ris', tl, (loop_cons (s' := (rising, turns)) ?_).trans e1, by rw [List.length_cons]; omega, e3, fun x hx => (e4 x hx).imp id fun z => List.mem_cons_of_mem _ z⟩
      unfold m_turns_of_b1
      exact if_pos (decide_eq_true rfl)
    · have ne : cur ≠ y := by omega
      by_cases q : turns ≠ [] ∧ rising = decide (cur < y)
      · obtain ⟨T, eT, hT⟩ := turn_on h q.1 q.2 hy
        have tlen : turns.length = T.length + 1 := by rw [eT]; simp
        obtain ⟨ris', tl, e1, e2, e3, e4⟩ := turns_loop l y _ (decide (cur < y)) (T ++ [y]) lv.2.2 hT (by simp; omega)
        refine ⟨ris', tl, (loop_cons (s' := (decide (cur < y), T ++ [y])) ?_).trans e1, by rw [List.length_cons]; simp at e2; omega, e3, fun x hx => ?_⟩
        · unfold m_turns_of_b1
          refine (if_neg (by simpa using ne)).trans ?_
          refine (to_bind (a := T) ?_ _).trans ?_
          · refine (if_pos ?_).trans ?_
            · rw [Bool.and_eq_true]
              refine ⟨?_, decide_eq_true (by show V.bl rising = V.bl (decide (cur < y)); rw [q.2])⟩
              show (!turns.isEmpty) = true
              rw [eT]; simp
            · show (Z.lastZ turns >>= fun _ => some turns.dropLast) = some T
              rw [eT, to_bind (last_app T cur), drop_snoc]
          · exact chk_bind (line_le (by omega)).2 _
        · rcases e4 x hx with z | z
          · rcases List.mem_append.mp z with z | z
            · exact .inl (by rw [eT]; exact List.mem_append_left _ z)
            · rw [List.mem_singleton.mp z]; exact .inr List.mem_cons_self
          · exact .inr (List.mem_cons_of_mem _ z)
      · have hn := turn_new h hy
        obtain ⟨ris', tl, e1, e2, e3, e4⟩ := turns_loop l y _ (decide (cur < y)) (turns ++ [y]) lv.2.2 hn (by simp; omega)
        refine ⟨ris', tl, (loop_cons (s' := (decide (cur < y), turns ++ [y])) ?_).trans e1, by rw [List.length_cons]; simp at e2; omega, e3, fun x hx => ?_⟩
        · unfold m_turns_of_b1
          refine (if_neg (by simpa using ne)).trans ?_
          refine (to_bind (a := turns) ?_ _).trans ?_
          · refine if_neg fun z => q ?_
            rw [Bool.and_eq_true] at z
            refine ⟨fun e => ?_, ?_⟩
            · have z1 := z.1
              change (!turns.isEmpty) = true at z1
              rw [e] at z1; cases z1
            · have z2 : V.bl rising = V.bl (decide (cur < y)) := of_decide_eq_true z.2
              injection z2
          · exact chk_bind (line_le (by show turns.length ≤ _; omega)).2 _
        · rcases e4 x hx with z | z
          · rcases List.mem_append.mp z with z | z
            · exact .inl z
            · rw [List.mem_singleton.mp z]; exact .inr List.mem_cons_self
          · exact .inr (List.mem_cons_of_mem _ z)
theorem turns_ok {bs : List Bool} {top : Int} (hl : bs.length ≤ 1000) (h0 : 0 ≤ top) : ∃ tl, m_turns_of (lv top bs) = some tl ∧ tl.length ≤ 1000 ∧ (∀ r, 0 ≤ r → tr2 r tl = gr r (lv top bs)) ∧ ∀ x ∈ tl, 0 ≤ x ∧ x ≤ 1000 := by
  have ll := lv_len top bs
  obtain ⟨ris, tl, e1, e2, e3, e4⟩ := turns_loop (lv top bs).tail 0 (fun _ => (0, 0, 0)) false [] (lv_lev h0 bs) ⟨fun r r0 => ⟨⟨Int.le_refl 0, Int.le_refl 0, by show (0 : Int) - 0 ≤ r; omega⟩, rfl⟩, fun z => absurd rfl z⟩ (by rw [List.length_tail]; simp; omega)
  have e1' : loopM m_turns_of_b1 (List.zip (lv top bs) (lv top bs).tail) (false, []) = some (.go (ris, tl)) := e1
  refine ⟨tl, ?_, ?_, fun r r0 => ?_, fun x hx => ?_⟩
  · unfold m_turns_of
    rw [cut_tail, to_bind e1', after_go]
  · rw [List.length_tail] at e2; simp at e2; omega
  · rw [e3 r r0]
    show _ = (lv top bs).foldl (gstep r) (0, 0, 0)
    rw [show lv top bs = 0 :: (lv top bs).tail from rfl, List.foldl_cons]
    rw [gstep_same (p := 0) (show At r (0, 0, 0) 0 from ⟨Int.le_refl 0, Int.le_refl 0, by show (0 : Int) - 0 ≤ r; omega⟩)]
    rfl
  · rcases e4 x hx with z | z
    · cases z
    · have := lv_bound h0 x (List.mem_of_mem_tail z)
      omega
/-! ### runs by division -/
theorem between_loop {r : Int} (r0 : 0 ≤ r) (r1 : r ≤ 100000) : ∀ (l : List Int) (s : GS), (∀ x ∈ l, 0 ≤ x ∧ x ≤ 1000) → -(10 ^ 6) ≤ s.2.1 → s.2.2 ≤ 10 ^ 6 → (∃ p, At r s p ∧ 0 ≤ p ∧ p ≤ 1000) → loopM (m_traps_along_b1 r) l (s.2.1, s.2.2, s.1) = some (.go ((l.foldl (tstep r) s).2.1, (l.foldl (tstep r) s).2.2, (l.foldl (tstep r) s).1))
  | [], s, _, _, _, _ => rfl
  | x :: l, s, hb, _, _, ⟨p, hp, p0, p1⟩ => by
    obtain ⟨x0, x1⟩ := hb x List.mem_cons_self
    obtain ⟨c, lo, hi⟩ := s
    obtain ⟨a1, a2, a3⟩ := hp
    dsimp only at a1 a2 a3
    have lg : ∀ {i : Int}, 0 ≤ i → i ≤ 10 ^ 8 → i.natAbs.log2 ≤ 30 := fun h0 h1 => log_le (k := 30) h0 (by omega)
    have dv : ∀ {m : Int}, CDivW m (r + 1) := fun {m} => ⟨by omega, Nat.lt_of_le_of_lt (lg (i := r + 1) (by omega) (by omega)) (by decide)⟩
    have step : m_traps_along_b1 r x (lo, hi, c) = some (.go ((tstep r (c, lo, hi) x).2.1, (tstep r (c, lo, hi) x).2.2, (tstep r (c, lo, hi) x).1)) := by
      unfold m_traps_along_b1 tstep
      dsimp only
      by_cases h1 : hi < x
      · obtain ⟨b, m, e, m0, m1, eb⟩ := split_div (x := x - lo) (n := r + 1) (by omega)
        have b0 : 0 ≤ b := by rw [← eb]; exact Int.ediv_nonneg (by omega) (by omega)
        have bm : b ≤ x - lo := by rw [← eb]; exact Int.ediv_le_self _ (by omega)
        rw [if_pos (decide_eq_true h1), if_pos h1, chk_bind dv, chk_bind (show CMulW ((x - lo) / (r + 1)) (r + 1) by
          rw [eb]
          have := lg b0 (by omega)
          have := lg (i := r + 1) (by omega) (by omega)
          show b.natAbs.log2 + (r + 1).natAbs.log2 < 1000000
          omega)]
      · rw [if_neg (by simpa using h1), if_neg h1]
        by_cases h2 : x < lo
        · obtain ⟨b, m, e, m0, m1, eb⟩ := split_div (x := hi - x) (n := r + 1) (by omega)
          have b0 : 0 ≤ b := by rw [← eb]; exact Int.ediv_nonneg (by omega) (by omega)
          have bm : b ≤ hi - x := by rw [← eb]; exact Int.ediv_le_self _ (by omega)
          rw [if_pos (decide_eq_true h2), if_pos h2, chk_bind dv, chk_bind (show CMulW ((hi - x) / (r + 1)) (r + 1) by
            rw [eb]
            have := lg b0 (by omega)
            have := lg (i := r + 1) (by omega) (by omega)
            show b.natAbs.log2 + (r + 1).natAbs.log2 < 1000000
            omega)]
        · rw [if_neg (by simpa using h2), if_neg h2]
    have nx : At r (tstep r (c, lo, hi) x) x := by
      unfold tstep
      dsimp only
      by_cases h1 : hi < x
      · obtain ⟨b, m, e, m0, m1, eb⟩ := split_div (x := x - lo) (n := r + 1) (by omega)
        rw [if_pos h1, eb]
        exact ⟨by show lo + b * (r + 1) ≤ x; omega, Int.le_refl x, by show x - (lo + b * (r + 1)) ≤ r; omega⟩
      · rw [if_neg h1]
        by_cases h2 : x < lo
        · obtain ⟨b, m, e, m0, m1, eb⟩ := split_div (x := hi - x) (n := r + 1) (by omega)
          rw [if_pos h2, eb]
          exact ⟨Int.le_refl x, by show x ≤ hi - b * (r + 1); omega, by show hi - b * (r + 1) - x ≤ r; omega⟩
        · rw [if_neg h2]; exact ⟨by show lo ≤ x; omega, by show x ≤ hi; omega, a3⟩
    obtain ⟨n1, n2, n3⟩ := id nx
    rw [loop_cons step]
    exact between_loop r0 r1 l _ (fun z hz => hb z (List.mem_cons_of_mem _ hz)) (by omega) (by omega) ⟨x, nx, x0, x1⟩
theorem traps_along_ok {r : Int} (r0 : 0 ≤ r) (r1 : r ≤ 100000) {l : List Int} (hb : ∀ x ∈ l, 0 ≤ x ∧ x ≤ 1000) : m_traps_along l r 0 0 = some ((tr2 r l).1, (tr2 r l).2.1, (tr2 r l).2.2) := by
  unfold m_traps_along
  have e := between_loop r0 r1 l (0, 0, 0) hb (by decide) (by decide) ⟨0, ⟨Int.le_refl 0, Int.le_refl 0, by show (0 : Int) - 0 ≤ r; omega⟩, by decide, by decide⟩
  rw [to_bind e, after_go]
  rfl
theorem between_ok {r : Int} (r0 : 0 ≤ r) (r1 : r ≤ 100000) {l : List Int} (hb : ∀ x ∈ l, 0 ≤ x ∧ x ≤ 1000) : m_traps_between l r = some (tr2 r l).1 := by
  unfold m_traps_between
  rw [to_bind (traps_along_ok r0 r1 hb)]
/-! ### how many blocks, room by room -/
theorem gr_one {r : Int} : ∀ (l : List Int) (s : GS), s.2.1 ≤ s.2.2 → s.2.2 - s.2.1 ≤ r → 0 ≤ s.1 → 0 ≤ r → s.1 ≤ (l.foldl (gstep r) s).1 ∧ ((l.foldl (gstep r) s).1 = s.1 → (l.foldl (gstep r) s).2.2 - (l.foldl (gstep r) s).2.1 ≤ r ∧ (l.foldl (gstep r) s).2.1 ≤ s.2.1 ∧ s.2.2 ≤ (l.foldl (gstep r) s).2.2 ∧ ∀ x ∈ l, (l.foldl (gstep r) s).2.1 ≤ x ∧ x ≤ (l.foldl (gstep r) s).2.2)
  | [], s, h1, h2, _, _ => ⟨Int.le_refl _, fun _ => ⟨h2, Int.le_refl _, Int.le_refl _, fun x hx => by cases hx⟩⟩
  | x :: l, s, h1, h2, h3, r0 => by
    show s.1 ≤ (l.foldl (gstep r) (gstep r s x)).1 ∧ _
    by_cases q : r < imax s.2.2 x - imin s.2.1 x
    · have e : gstep r s x = (s.1 + 1, x, x) := by unfold gstep; rw [if_pos q]
      obtain ⟨a, b⟩ := gr_one l (gstep r s x) (by rw [e]; exact Int.le_refl x) (by rw [e]; show x - x ≤ r; omega) (by rw [e]; show 0 ≤ s.1 + 1; omega) r0
      have a' : s.1 + 1 ≤ (l.foldl (gstep r) (gstep r s x)).1 := by rw [e] at a ⊢; exact a
      exact ⟨by omega, fun z => absurd z (by show ¬ (l.foldl (gstep r) (gstep r s x)).1 = s.1; omega)⟩
    · have e : gstep r s x = (s.1, imin s.2.1 x, imax s.2.2 x) := by unfold gstep; rw [if_neg q]
      have i1 := imin_le s.2.1 x
      have i2 : s.2.2 ≤ imax s.2.2 x ∧ x ≤ imax s.2.2 x := by rw [imax_def]; split <;> omega
      obtain ⟨a, b⟩ := gr_one l (gstep r s x) (by rw [e]; show imin s.2.1 x ≤ imax s.2.2 x; omega) (by rw [e]; show imax s.2.2 x - imin s.2.1 x ≤ r; omega) (by rw [e]; exact h3) r0
      have e1 : (gstep r s x).1 = s.1 := by rw [e]
      have e2 : (gstep r s x).2.1 = imin s.2.1 x := by rw [e]
      have e3 : (gstep r s x).2.2 = imax s.2.2 x := by rw [e]
      rw [e1] at a b
      rw [e2, e3] at b
      refine ⟨a, fun z => ?_⟩
      obtain ⟨b1, b2, b3, b4⟩ := b z
      refine ⟨b1, Int.le_trans b2 i1.1, Int.le_trans i2.1 b3, fun y hy => ?_⟩
      rcases List.mem_cons.mp hy with w | w
      · subst w; exact ⟨Int.le_trans b2 i1.2, Int.le_trans i2.2 b3⟩
      · exact b4 y w
theorem gr_zero {r M : Int} : ∀ (l : List Int) (s : GS), s.1 = 0 → 0 ≤ s.2.1 → s.2.2 ≤ M → s.2.1 ≤ s.2.2 → M ≤ r → (∀ x ∈ l, 0 ≤ x ∧ x ≤ M) → (l.foldl (gstep r) s).1 = 0
  | [], s, h, _, _, _, _, _ => h
  | x :: l, s, h, h1, h2, h3, hr, hb => by
    obtain ⟨x0, x1⟩ := hb x List.mem_cons_self
    have i1 : 0 ≤ imin s.2.1 x ∧ imin s.2.1 x ≤ x := by rw [imin_def]; split <;> omega
    have i2 : imax s.2.2 x ≤ M ∧ x ≤ imax s.2.2 x := by rw [imax_def]; split <;> omega
    have e : gstep r s x = (s.1, imin s.2.1 x, imax s.2.2 x) := by unfold gstep; rw [if_neg (by omega)]
    show (l.foldl (gstep r) (gstep r s x)).1 = 0
    rw [e]
    exact gr_zero l _ h i1.1 i2.1 (by show imin s.2.1 x ≤ imax s.2.2 x; omega) hr fun y hy => hb y (List.mem_cons_of_mem _ hy)
/-- a greater room never wants more blocks -/
theorem gr_mono {r : Int} : ∀ (l : List Int) (s t : GS), (s.1 < t.1 ∨ s.1 = t.1 ∧ t.2.1 ≤ s.2.1 ∧ s.2.2 ≤ t.2.2) → (l.foldl (gstep (r + 1)) s).1 ≤ (l.foldl (gstep r) t).1
  | [], s, t, h => by show s.1 ≤ t.1; omega
  | x :: l, s, t, h => by
    show (l.foldl (gstep (r + 1)) (gstep (r + 1) s x)).1 ≤ (l.foldl (gstep r) (gstep r t x)).1
    refine gr_mono l _ _ ?_
    unfold gstep
    by_cases q1 : r + 1 < imax s.2.2 x - imin s.2.1 x
    · rw [if_pos q1]
      by_cases q2 : r < imax t.2.2 x - imin t.2.1 x
      · rw [if_pos q2]
        show s.1 + 1 < t.1 + 1 ∨ s.1 + 1 = t.1 + 1 ∧ x ≤ x ∧ x ≤ x
        omega
      · rw [if_neg q2]
        show s.1 + 1 < t.1 ∨ s.1 + 1 = t.1 ∧ imin t.2.1 x ≤ x ∧ x ≤ imax t.2.2 x
        have i1 := imin_le t.2.1 x
        have i2 : x ≤ imax t.2.2 x := by rw [imax_def]; split <;> omega
        rcases h with z | ⟨z, y1, y2⟩
        · omega
        · exfalso
          simp only [imax_def, imin_def] at q1 q2
          split at q1 <;> split at q1 <;> split at q2 <;> (try split at q2) <;> omega
    · rw [if_neg q1]
      by_cases q2 : r < imax t.2.2 x - imin t.2.1 x
      · rw [if_pos q2]
        show s.1 < t.1 + 1 ∨ _
        omega
      · rw [if_neg q2]
        show s.1 < t.1 ∨ s.1 = t.1 ∧ imin t.2.1 x ≤ imin s.2.1 x ∧ imax s.2.2 x ≤ imax t.2.2 x
        rcases h with z | ⟨z, y1, y2⟩
        · exact .inl z
        · refine .inr ⟨z, ?_, ?_⟩
          · simp only [imin_def]; (repeat' split) <;> omega
          · simp only [imax_def]; (repeat' split) <;> omega
end Zm
/-! The ends at all moments; the fewest traps. -/
namespace Zm
open PySem PySem.Spec PyProof.Rows L2 Z
theorem less_ok {d n : Int} (d0 : 0 ≤ d) (d1 : d ≤ 100000) (n0 : 0 ≤ n) : ∃ l, m_less_up_to d n = some l ∧ l.length = d.toNat + 1 ∧ ∀ k : Nat, (k : Int) ≤ d → l[k]? = some (imax 0 ((k : Int) - n)) := by
  have sl : sizeLine = 16777216 := by decide
  have hm : imin n d = n ∧ n ≤ d ∨ imin n d = d ∧ d < n := by simp only [imin_def]; split <;> omega
  have m0 : 0 ≤ imin n d ∧ imin n d ≤ d := by omega
  refine ⟨List.replicate (imin n d).toNat 0 ++ Z.upto 0 (d + 1 - imin n d), ?_, ?_, fun k hk => ?_⟩
  · unfold m_less_up_to
    have rg : RgOk 0 (d + 1 - imin n d) := RgOk.of_le (by decide) (by omega) (by decide) (by omega)
    first
      | rw [chk_bind (show Z.CRepL ([(0 : Int)]).length (imin n d) from ⟨by omega, by omega, by rw [List.length_singleton, sl]; omega⟩), chk_bind rg, repL_one, chk_bind (by rw [List.length_replicate, upto_len, sl]; omega)]
      | rw [chk_bind (show Z.CRepL ([(0 : Int)]).length (imin n d) from ⟨by omega, by omega, by rw [List.length_singleton, sl]; omega⟩), repL_one, chk_bind rg, chk_bind (by rw [List.length_replicate, upto_len, sl]; omega)]
  · rw [List.length_append, List.length_replicate, upto_len]; omega
  · by_cases h : k < (imin n d).toNat
    · rw [List.getElem?_append_left (by rw [List.length_replicate]; exact h), List.getElem?_replicate_of_lt h, imax_of' (by omega)]
    · rw [List.getElem?_append_right (by rw [List.length_replicate]; omega), List.length_replicate]
      unfold Z.upto
      rw [List.getElem?_map, List.getElem?_range (by omega)]
      refine congrArg some ?_
      show (0 : Int) + ((k - (imin n d).toNat : Nat) : Int) = _
      simp only [imax_def]
      split <;> omega
theorem ends_ok {bs : List Bool} {reg top : Int} (o : ok 0 bs) (hl : bs.length ≤ 1000) (m : Mach reg top) : m_ends_of (tx bs) reg top = some ((0 :: hs 0 bs).map fun d => (imax 0 (d - reg), imax 0 (d - top))) := by
  obtain ⟨m1, m2, m3, m4⟩ := id m
  have hb := hs_bound o
  have len : (0 :: hs 0 bs).length = bs.length + 1 := by rw [List.length_cons, hs_len]
  have ge := fun x hx => lmaxD_ge (l := 0 :: hs 0 bs) (d := 0) x hx
  have mx : 0 ≤ Z.lmaxD (0 :: hs 0 bs) 0 ∧ Z.lmaxD (0 :: hs 0 bs) 0 ≤ 1000 := by
    rcases lmaxD_mem (l := 0 :: hs 0 bs) (d := 0) with e | e
    · rw [e]; decide
    · have := hb _ e; omega
  obtain ⟨l1, e1, n1, a1⟩ := less_ok (n := reg) mx.1 (by omega) (by omega)
  obtain ⟨l2, e2, n2, a2⟩ := less_ok (n := top) mx.1 (by omega) m3
  unfold m_ends_of
  rw [to_bind (checked_ok o hl), to_bind (mach_ok m)]
  unfold m_ends_at
  rw [to_bind e1, to_bind e2, chk_bind (by rw [len]; exact (line_le (by omega)).2)]
  rw [to_bind (comp_map (f := m_ends_at_c1 l1 l2) (fun d => (imax 0 (d - reg), imax 0 (d - top))) (0 :: hs 0 bs) fun x hx => by
    obtain ⟨k, rfl⟩ : ∃ k : Nat, x = (k : Int) := ⟨x.toNat, by have := hb x hx; omega⟩
    have hk := ge _ hx
    unfold m_ends_at_c1
    have hz : (List.zip l1 l2)[k]? = some (imax 0 ((k : Int) - reg), imax 0 ((k : Int) - top)) := List.getElem?_zip_eq_some.mpr ⟨a1 k hk, a2 k hk⟩
    rw [to_bind (atI_nat hz)])]
  rfl
theorem begins_loop {room : Int} (r0 : 0 ≤ room) : ∀ (l : List Int) (i c lo hi : Int) (fd : List Int), (∀ x ∈ l, 0 ≤ x) → 0 ≤ lo → 0 ≤ hi → fd.length + l.length ≤ 1000000 →
    ∃ a b fd', loopM m_begins_of_b1 (enumFrom i (l.map fun x => (imax 0 (x - room), x))) (imax 0 (hi - room), lo, fd) = some (.go (a, b, fd')) ∧ (fd'.length : Int) = fd.length + ((l.foldl (gstep room) (c, lo, hi)).1 - c)
  | [], i, c, lo, hi, fd, _, _, _, _ => ⟨_, _, fd, rfl, by show (fd.length : Int) = fd.length + (c - c); omega⟩
  | x :: l, i, c, lo, hi, fd, hb, l0, h0, h => by
    rw [List.length_cons] at h
    have x0 := hb x List.mem_cons_self
    have e1 : ((if (decide (imax 0 (hi - room) < imax 0 (x - room))) = true then some (imax 0 (x - room)) else some (imax 0 (hi - room))) : Option Int) = some (imax 0 (imax hi x - room)) := by
      by_cases q : imax 0 (hi - room) < imax 0 (x - room)
      · rw [if_pos (decide_eq_true q)]; refine congrArg some ?_
        simp only [imax_def] at q ⊢; (repeat' split) <;> (repeat' split at q) <;> omega
      · rw [if_neg (by simpa using q)]; refine congrArg some ?_
        simp only [imax_def] at q ⊢; (repeat' split) <;> (repeat' split at q) <;> omega
    have e2 : ((if (decide (x < lo)) = true then some x else some lo) : Option Int) = some (imin lo x) := by
      by_cases q : x < lo
      · rw [if_pos (decide_eq_true q), imin_of' (by omega)]
      · rw [if_neg (by simpa using q), imin_of (by omega)]
    have i0 : 0 ≤ imin lo x := by simp only [imin_def]; split <;> omega
    have j0 : 0 ≤ imax hi x := by simp only [imax_def]; split <;> omega
    have br : imin lo x < imax 0 (imax hi x - room) ↔ room < imax hi x - imin lo x := by
      simp only [imax_def, imin_def] at i0 j0 ⊢; (repeat' split) <;> omega
    by_cases q : room < imax hi x - imin lo x
    · obtain ⟨a, b, fd', e, ln⟩ := begins_loop r0 l (i + 1) (c + 1) x x (fd ++ [i]) (fun y hy => hb y (List.mem_cons_of_mem _ hy)) x0 x0 (by simp; omega)
      refine ⟨a, b, fd', (loop_cons (s' := (imax 0 (x - room), x, fd ++ [i])) ?_).trans e, ?_⟩
      · unfold m_begins_of_b1
        refine (to_bind e1 _).trans ?_
        refine (to_bind e2 _).trans ?_
        refine (if_pos (decide_eq_true (br.mpr q))).trans ?_
        exact chk_bind (line_le (by show fd.length ≤ _; omega)).2 _
      · have eg : gstep room (c, lo, hi) x = (c + 1, x, x) := by unfold gstep; rw [if_pos q]
        rw [List.foldl_cons, eg]
        simp at ln
        omega
    · obtain ⟨a, b, fd', e, ln⟩ := begins_loop r0 l (i + 1) c (imin lo x) (imax hi x) fd (fun y hy => hb y (List.mem_cons_of_mem _ hy)) i0 j0 (by omega)
      refine ⟨a, b, fd', (loop_cons (s' := (imax 0 (imax hi x - room), imin lo x, fd)) ?_).trans e, ?_⟩
      · unfold m_begins_of_b1
        refine (to_bind e1 _).trans ?_
        refine (to_bind e2 _).trans ?_
        exact if_neg (by simpa using fun z => q (br.mp z))
      · have eg : gstep room (c, lo, hi) x = (c, imin lo x, imax hi x) := by unfold gstep; rw [if_neg q]
        rw [List.foldl_cons, eg]
        exact ln
theorem fewest_ok {bs : List Bool} {reg top : Int} (o : ok 0 bs) (hl : bs.length ≤ 1000) (m : Mach reg top) : m_fewest_traps (tx bs) reg top = some (gr (reg - top) (lv top bs)).1 := by
  obtain ⟨m1, m2, m3, m4⟩ := id m
  have ll := lv_len top bs
  have em : (0 :: hs 0 bs).map (fun d => (imax 0 (d - reg), imax 0 (d - top))) = (lv top bs).map fun x => (imax 0 (x - (reg - top)), x) := by
    rw [lv_map top m3, List.map_map]
    refine List.map_congr_left fun d _ => ?_
    show (imax 0 (d - reg), imax 0 (d - top)) = (imax 0 (imax 0 (d - top) - (reg - top)), imax 0 (d - top))
    have : imax 0 (d - reg) = imax 0 (imax 0 (d - top) - (reg - top)) := by simp only [imax_def]; (repeat' split) <;> omega
    rw [this]
  obtain ⟨a, b, fd, e, ln⟩ := begins_loop (room := reg - top) (by omega) (lv top bs) 0 0 0 0 [(0 : Int)] (fun x hx => (lv_bound m3 x hx).1) (by decide) (by decide) (by simp; omega)
  have z0 : imax 0 (0 - (reg - top)) = 0 := imax_of' (by omega)
  rw [z0] at e
  unfold m_fewest_traps
  rw [to_bind (ends_ok o hl m), em]
  have h0 : atI ((lv top bs).map fun x => (imax 0 (x - (reg - top)), x)) (0 : Int) = some (0, 0) := atI_nat (j := 0) (by
    show some (imax 0 (0 - (reg - top)), (0 : Int)) = _
    rw [z0])
  have hb : m_begins_of ((lv top bs).map fun x => (imax 0 (x - (reg - top)), x)) = some fd := by
    unfold m_begins_of
    rw [to_bind h0]
    unfold Z.enumZ
    refine (to_bind e _).trans ?_
    rw [after_go]
  rw [to_bind hb]
  refine congrArg some ?_
  rw [ln]
  show (([(0 : Int)] : List Int).length : Int) + ((gr (reg - top) (lv top bs)).1 - 0) - 1 = _
  simp
  omega
end Zm
/-! Comprehensions that draw; the fewest traps room by room. -/
namespace Zm
open PySem PySem.Spec PyProof.Rows L2 Z
section
variable {S T U : Type}
theorem comp_inv {f : T → S → Option (Option U × S)} (I : Nat → S → Prop) (P : U → Prop) : ∀ (items : List T) (n : Nat) (s : S), I n s → (∀ x ∈ items, ∀ k s, n ≤ k → k < n + items.length → I k s → ∃ u s', f x s = some (some u, s') ∧ P u ∧ I (k + 1) s') →
    ∃ us s', compM f items s = some (us, s') ∧ I (n + items.length) s' ∧ us.length = items.length ∧ ∀ u ∈ us, P u
  | [], n, s, h, _ => ⟨[], s, rfl, h, rfl, fun u hu => by cases hu⟩
  | x :: r, n, s, h, hf => by
    obtain ⟨u, s1, e, hu, h1⟩ := hf x List.mem_cons_self n s (Nat.le_refl n) (by simp) h
    obtain ⟨us, s2, e2, h2, l2, p2⟩ := comp_inv I P r (n + 1) s1 h1 fun y hy k t k1 k2 k3 => hf y (List.mem_cons_of_mem _ hy) k t (by omega) (by rw [List.length_cons]; omega) k3
    refine ⟨u :: us, s2, ?_, ?_, by rw [List.length_cons, List.length_cons, l2], fun v hv => ?_⟩
    · unfold compM
      simp only [e, e2]
    · rw [List.length_cons, show n + (r.length + 1) = n + 1 + r.length by omega]; exact h2
    · rcases List.mem_cons.mp hv with z | z
      · rw [z]; exact hu
      · exact p2 v z
theorem comp_none {f : T → Unit → Option (Option U × Unit)} : ∀ l : List T, (∀ x ∈ l, f x () = some (none, ())) → compM f l () = some ([], ())
  | [], _ => rfl
  | x :: r, h => comp_cons (h x List.mem_cons_self) (comp_none r fun y hy => h y (List.mem_cons_of_mem _ hy))
end
theorem gr_le {r : Int} : ∀ (l : List Int) (s : GS), (l.foldl (gstep r) s).1 ≤ s.1 + l.length
  | [], s => by show s.1 ≤ s.1 + 0; omega
  | x :: l, s => by
    have ih := gr_le (r := r) l (gstep r s x)
    have e : (gstep r s x).1 ≤ s.1 + 1 := by
      unfold gstep
      split
      · exact Int.le_refl _
      · show s.1 ≤ s.1 + 1; omega
    show (l.foldl (gstep r) (gstep r s x)).1 ≤ _
    rw [List.length_cons]; omega
theorem greedy_loop {r : Int} : ∀ (l : List Int) (i c lo hi : Int) (fd : List Int), fd.length + l.length ≤ 1000000 → ∃ lo' hi' fd', loopM (m__law_greedy_b1 r) (enumFrom i l) (lo, hi, fd) = some (.go (lo', hi', fd')) ∧ (fd'.length : Int) = fd.length + ((l.foldl (gstep r) (c, lo, hi)).1 - c)
  | [], i, c, lo, hi, fd, _ => ⟨lo, hi, fd, rfl, by show (fd.length : Int) = fd.length + (c - c); omega⟩
  | x :: l, i, c, lo, hi, fd, h => by
    rw [List.length_cons] at h
    by_cases q : r < imax hi x - imin lo x
    · obtain ⟨lo', hi', fd', e, ln⟩ := greedy_loop l (i + 1) (c + 1) x x (fd ++ [i]) (by simp; omega)
      refine ⟨lo', hi', fd', (loop_cons (s' := (x, x, fd ++ [i])) ?_).trans e, ?_⟩
      · unfold m__law_greedy_b1
        refine (if_pos (decide_eq_true q)).trans ?_
        exact chk_bind (line_le (by show fd.length ≤ _; omega)).2 _
      · have eg : gstep r (c, lo, hi) x = (c + 1, x, x) := by unfold gstep; rw [if_pos q]
        rw [List.foldl_cons, eg]
        simp at ln
        omega
    · obtain ⟨lo', hi', fd', e, ln⟩ := greedy_loop l (i + 1) c (imin lo x) (imax hi x) fd (by omega)
      refine ⟨lo', hi', fd', (loop_cons (s' := (imin lo x, imax hi x, fd)) ?_).trans e, ?_⟩
      · unfold m__law_greedy_b1
        exact if_neg (by simpa using q)
      · have eg : gstep r (c, lo, hi) x = (c, imin lo x, imax hi x) := by unfold gstep; rw [if_neg q]
        rw [List.foldl_cons, eg]
        exact ln
theorem greedy_ok {bs : List Bool} {held r : Int} (hl : bs.length ≤ 1000) : ∃ fd, m__law_greedy (lv held bs) r = some fd ∧ (fd.length : Int) = 1 + (gr r (lv held bs)).1 := by
  have ll := lv_len held bs
  obtain ⟨lo', hi', fd', e, ln⟩ := greedy_loop (r := r) (lv held bs) 0 0 0 0 [(0 : Int)] (by simp; omega)
  have a0 : atI (lv held bs) (0 : Int) = some 0 := atI_nat (j := 0) rfl
  refine ⟨fd', ?_, ?_⟩
  · unfold m__law_greedy
    rw [to_bind a0, to_bind a0]
    unfold Z.enumZ
    rw [to_bind e, after_go]
  · rw [ln]
    show (([(0 : Int)] : List Int).length : Int) + ((gr r (lv held bs)).1 - 0) = _
    simp
/-! ### the program's list -/
def fr (S : List Int) (k : Nat) : Int := (gr (k : Int) S).1
structure Fr (S : List Int) (M : Nat) : Prop where
  pos : ∀ k, k < M → 0 < fr S k
  zero : ∀ k, M ≤ k → fr S k = 0
  mono : ∀ k, fr S (k + 1) ≤ fr S k
  nn : ∀ k, 0 ≤ fr S k ∧ fr S k ≤ S.length
theorem fr_ok {bs : List Bool} {held : Int} (h0 : 0 ≤ held) : ∃ M : Nat, Z.lmax (lv held bs) = (M : Int) ∧ M ≤ bs.length ∧ Fr (lv held bs) M := by
  have bd := fun x hx => lv_bound h0 (bs := bs) x hx
  have hne : lv held bs = 0 :: (lv held bs).tail := rfl
  have mm : Z.lmax (lv held bs) ∈ lv held bs ∧ ∀ y ∈ lv held bs, y ≤ Z.lmax (lv held bs) := by
    rw [hne]
    obtain ⟨⟨a, b⟩, c⟩ := foldmax (lv held bs).tail 0
    refine ⟨?_, fun y hy => ?_⟩
    · rcases c with e | e
      · show (lv held bs).tail.foldl _ 0 ∈ _; rw [e]; exact List.mem_cons_self
      · exact List.mem_cons_of_mem _ e
    · rcases List.mem_cons.mp hy with e | e
      · rw [e]; exact a
      · exact b y e
  obtain ⟨b0, b1⟩ := bd _ mm.1
  refine ⟨(Z.lmax (lv held bs)).toNat, by omega, by omega, ?_, ?_, ?_, ?_⟩
  · intro k hk
    obtain ⟨a, b⟩ := gr_one (r := (k : Int)) (lv held bs) (0, 0, 0) (Int.le_refl 0) (by show (0 : Int) - 0 ≤ _; omega) (Int.le_refl 0) (by omega)
    show 0 < (gr (k : Int) (lv held bs)).1
    have a' : 0 ≤ (gr (k : Int) (lv held bs)).1 := a
    by_cases z : (gr (k : Int) (lv held bs)).1 = 0
    · obtain ⟨c1, c2, c3, c4⟩ := b z
      have := (c4 _ mm.1).2
      change (List.foldl (gstep (k : Int)) (0, 0, 0) (lv held bs)).2.1 ≤ 0 at c2
      omega
    · omega
  · intro k hk
    exact gr_zero (r := (k : Int)) (M := Z.lmax (lv held bs)) (lv held bs) (0, 0, 0) rfl (Int.le_refl 0) b0 (Int.le_refl 0) (by omega) fun x hx => ⟨(bd x hx).1, mm.2 x hx⟩
  · intro k
    have := gr_mono (r := (k : Int)) (lv held bs) (0, 0, 0) (0, 0, 0) (.inr ⟨rfl, Int.le_refl 0, Int.le_refl 0⟩)
    show (gr ((k + 1 : Nat) : Int) (lv held bs)).1 ≤ (gr (k : Int) (lv held bs)).1
    rw [show ((k + 1 : Nat) : Int) = (k : Int) + 1 by omega]
    exact this
  · intro k
    obtain ⟨a, b⟩ := gr_one (r := (k : Int)) (lv held bs) (0, 0, 0) (Int.le_refl 0) (by show (0 : Int) - 0 ≤ _; omega) (Int.le_refl 0) (by omega)
    have c := gr_le (r := (k : Int)) (lv held bs) (0, 0, 0)
    refine ⟨a, ?_⟩
    show (List.foldl (gstep (k : Int)) (0, 0, 0) (lv held bs)).1 ≤ _
    simp only [Int.zero_add] at c
    exact c
def told (S : List Int) (n : Nat) : List Int := (List.range n).map (fr S)
theorem told_len (S : List Int) (n : Nat) : (told S n).length = n := by unfold told; simp
theorem told_succ (S : List Int) (n : Nat) : told S (n + 1) = told S n ++ [fr S n] := by unfold told; rw [List.range_succ, List.map_append]; rfl
theorem told_at (S : List Int) {n k : Nat} (h : k < n) : (told S n)[k]? = some (fr S k) := by unfold told; rw [List.getElem?_map, List.getElem?_range h]; rfl
theorem rooms_ok {bs : List Bool} {held : Int} {M : Nat} (o : ok 0 bs) (hl : bs.length ≤ 1000) (h0 : 0 ≤ held) (h1 : held ≤ 1000) (hM : M ≤ bs.length) (F : Fr (lv held bs) M) : m_traps_by_room (tx bs) held = some (told (lv held bs) (M + 1)) := by
  obtain ⟨tl, e1, t1, t2, t3⟩ := turns_ok (bs := bs) (top := held) hl h0
  have bt : ∀ k : Nat, k ≤ 1001 → m_traps_between tl (k : Int) = some (fr (lv held bs) k) := fun k hk => by
    rw [between_ok (r := (k : Int)) (by omega) (by omega) t3, t2 _ (by omega)]
    rfl
  obtain ⟨s, e2, rfl⟩ := while_run (f := m_traps_by_room_b1 tl) (fun s => ∃ k, 1 ≤ k ∧ k ≤ M + 1 ∧ s = told (lv held bs) k) (fun s => M + 2 - s.length) (fun s => s = told (lv held bs) (M + 1))
    (fun s ⟨k, k1, k2, hs⟩ => by
      subst hs
      obtain ⟨j, rfl⟩ : ∃ j, k = j + 1 := ⟨k - 1, by omega⟩
      have last : atI (told (lv held bs) (j + 1)) (-(1 : Int)) = some (fr (lv held bs) j) := by rw [told_succ]; exact atI_last _ _
      unfold m_traps_by_room_b1
      rw [to_bind last, told_len]
      by_cases q : 0 < fr (lv held bs) j
      · have hj : j < M := by
          rcases Nat.lt_or_ge j M with z | z
          · exact z
          · have := F.zero j z; omega
        refine .inl ⟨told (lv held bs) (j + 2), ?_, ⟨j + 2, by omega, by omega, rfl⟩, ?_⟩
        · rw [if_pos (decide_eq_true q), to_bind (bt (j + 1) (by omega)), chk_bind (line_le (by omega)).2, told_succ (lv held bs) (j + 1)]
        · simp only [told_len]; omega
      · have hj : j = M := by
          rcases Nat.lt_or_ge j M with z | z
          · have := F.pos j z; omega
          · omega
        subst hj
        exact .inr ⟨_, if_neg (by simpa using q), rfl⟩)
    FUEL (told (lv held bs) 1) ⟨1, by omega, by omega, rfl⟩ (by show M + 2 - _ < 1000000; omega)
  unfold m_traps_by_room
  rw [to_bind (levels_ok o hl h0 h1), to_bind e1]
  have b0 : m_traps_between tl (0 : Int) = some (fr (lv held bs) 0) := bt 0 (by omega)
  rw [to_bind b0]
  have e2' : whileM (m_traps_by_room_b1 tl) FUEL [fr (lv held bs) 0] = some (.go (told (lv held bs) (M + 1))) := e2
  rw [to_bind e2', after_go]
end Zm
namespace Zm
open PySem PySem.Spec PyProof.Rows L2 Z
/-! ### groups of moments whose levels have common numbers -/
theorem foldmin (r : List Int) : ∀ x, (r.foldl (fun a b => if b < a then b else a) x ≤ x ∧ ∀ y ∈ r, r.foldl (fun a b => if b < a then b else a) x ≤ y) ∧ (r.foldl (fun a b => if b < a then b else a) x = x ∨ r.foldl (fun a b => if b < a then b else a) x ∈ r) := by
  induction r with
  | nil => intro x; simp
  | cons a r ih =>
    intro x
    simp only [List.foldl_cons]
    obtain ⟨⟨h1, h2⟩, h3⟩ := ih (if a < x then a else x)
    have hx : (if a < x then a else x) ≤ x := by split <;> omega
    have ha : (if a < x then a else x) ≤ a := by split <;> omega
    refine ⟨⟨by omega, fun y hy => ?_⟩, ?_⟩
    · rcases List.mem_cons.mp hy with e | hy
      · subst e; omega
      · exact h2 y hy
    · rcases h3 with e | e
      · rw [e]
        split
        · exact .inr List.mem_cons_self
        · exact .inl rfl
      · exact .inr (List.mem_cons_of_mem _ e)
theorem mx_in {x : Int} {r : List Int} : Z.lmax (x :: r) ∈ x :: r ∧ ∀ y ∈ x :: r, y ≤ Z.lmax (x :: r) := by
  obtain ⟨⟨a, b⟩, c⟩ := foldmax r x
  refine ⟨?_, fun y hy => ?_⟩
  · rcases c with e | e
    · show r.foldl _ x ∈ _; rw [e]; exact List.mem_cons_self
    · exact List.mem_cons_of_mem _ e
  · rcases List.mem_cons.mp hy with e | e
    · rw [e]; exact a
    · exact b y e
theorem mn_in {x : Int} {r : List Int} : Z.lmin (x :: r) ∈ x :: r ∧ ∀ y ∈ x :: r, Z.lmin (x :: r) ≤ y := by
  obtain ⟨⟨a, b⟩, c⟩ := foldmin r x
  refine ⟨?_, fun y hy => ?_⟩
  · rcases c with e | e
    · show r.foldl _ x ∈ _; rw [e]; exact List.mem_cons_self
    · exact List.mem_cons_of_mem _ e
  · rcases List.mem_cons.mp hy with e | e
    · rw [e]; exact a
    · exact b y e
theorem mx_snoc (x z : Int) (r : List Int) : Z.lmax (x :: (r ++ [z])) = imax (Z.lmax (x :: r)) z := by
  show (r ++ [z]).foldl _ x = _
  rw [List.foldl_append]
  rfl
theorem mn_snoc (x z : Int) (r : List Int) : Z.lmin (x :: (r ++ [z])) = imin (Z.lmin (x :: r)) z := by
  show (r ++ [z]).foldl _ x = _
  rw [List.foldl_append]
  rfl
/-- a group of room g -/
def Gd (g : Int) (G : List Int) : Prop := G ≠ [] ∧ ∀ x ∈ G, 0 ≤ x ∧ ∀ y ∈ G, x - y ≤ g
def glo (g : Int) (G : List Int) : Int := imax 0 (Z.lmax G - g)
def ghi (G : List Int) : Int := Z.lmin G
def gcl (g a : Int) (G : List Int) : Int := imax (glo g G) (imin (ghi G) a)
theorem Gd.le {g : Int} (g0 : 0 ≤ g) {G : List Int} (h : Gd g G) : 0 ≤ glo g G ∧ glo g G ≤ ghi G := by
  cases G with
  | nil => exact absurd rfl h.1
  | cons x r =>
    have a := (h.2 _ (mn_in (x := x) (r := r)).1).1
    have b := (h.2 _ (mx_in (x := x) (r := r)).1).2 _ (mn_in (x := x) (r := r)).1
    unfold glo ghi
    simp only [imax_def]
    split <;> omega
theorem lzl_app (g : Int) : ∀ (l m : List Int) (a : Int), lzl g a (l ++ m) = lzl g a l ++ lzl g (lst a (lzl g a l)) m
  | [], _, _ => rfl
  | x :: l, m, a => by
    show nl g a x :: lzl g (nl g a x) (l ++ m) = nl g a x :: (lzl g (nl g a x) l ++ _)
    rw [lzl_app g l m]; rfl
theorem lst_app : ∀ (l m : List Int) (a : Int), lst a (l ++ m) = lst (lst a l) m
  | [], _, _ => rfl
  | x :: l, m, _ => lst_app l m x
theorem wr_app : ∀ (l m : List Int) (a : Int), wr a (l ++ m) = wr a l + wr (lst a l) m ∧ rd a (l ++ m) = rd a l + rd (lst a l) m ∧ tp a (l ++ m) = tp a l + tp (lst a l) m
  | [], m, a => by
    show wr a m = 0 + wr a m ∧ rd a m = 0 + rd a m ∧ tp a m = 0 + tp a m
    omega
  | x :: l, m, a => by
    obtain ⟨i1, i2, i3⟩ := wr_app l m x
    show imax 0 (x - a) + wr x (l ++ m) = imax 0 (x - a) + wr x l + wr (lst x l) m ∧ imax 0 (-(x - a)) + rd x (l ++ m) = imax 0 (-(x - a)) + rd x l + rd (lst x l) m ∧ _ + tp x (l ++ m) = _ + tp x l + tp (lst x l) m
    rw [i1, i2, i3]
    omega
theorem Gd.pre {g : Int} {G m : List Int} (hn : G ≠ []) (h : Gd g (G ++ m)) : Gd g G := ⟨hn, fun y hy => ⟨(h.2 y (List.mem_append_left _ hy)).1, fun w hw => (h.2 y (List.mem_append_left _ hy)).2 w (List.mem_append_left _ hw)⟩⟩
/-- the lazy plan within a group: to the common number nearest to the number ahead, in one direction -/
def Sg (g a : Int) (G : List Int) : Prop := lst a (lzl g a G) = gcl g a G ∧ wr a (lzl g a G) = imax 0 (gcl g a G - a) ∧ rd a (lzl g a G) = imax 0 (-(gcl g a G - a))
theorem seg_step {g a x z : Int} {r : List Int} (g0 : 0 ≤ g) (h : Sg g a (x :: r)) (hg : Gd g (x :: (r ++ [z]))) : Sg g a (x :: (r ++ [z])) := by
  obtain ⟨h1, h2, h3⟩ := h
  have l1 := hg.le g0
  have hx : Gd g (x :: r) := Gd.pre (m := [z]) (by simp) hg
  have l2 := hx.le g0
  unfold Sg
  rw [show x :: (r ++ [z]) = (x :: r) ++ [z] from rfl, lzl_app, lst_app]
  obtain ⟨w1, w2, w3⟩ := wr_app (lzl g a (x :: r)) (lzl g (lst a (lzl g a (x :: r))) [z]) a
  rw [w1, w2, h2, h3, h1]
  unfold gcl glo ghi at *
  rw [mx_snoc, mn_snoc] at l1
  rw [show (x :: r) ++ [z] = x :: (r ++ [z]) from rfl, mx_snoc, mn_snoc]
  generalize Z.lmax (x :: r) = M at *
  generalize Z.lmin (x :: r) = m at *
  show nl g _ z = _ ∧ imax 0 _ + (imax 0 (nl g _ z - _) + 0) = _ ∧ imax 0 _ + (imax 0 (-(nl g _ z - _)) + 0) = _
  unfold nl
  obtain ⟨c, hc⟩ : ∃ c, imax (imax 0 (M - g)) (imin m a) = c := ⟨_, rfl⟩
  obtain ⟨d, hd⟩ : ∃ d, imax (imax 0 (imax M z - g)) (imin (imin m z) a) = d := ⟨_, rfl⟩
  obtain ⟨e, he⟩ : ∃ e, imax (imax 0 (z - g)) (imin z c) = e := ⟨_, rfl⟩
  have ed : e = d := by
    rw [← hd, ← he, ← hc]
    simp only [imax_def, imin_def] at l1 l2 ⊢
    (repeat' split) <;> (repeat' split at l1) <;> (repeat' split at l2) <;> omega
  have mono : (a ≤ c ∧ c ≤ d) ∨ (c ≤ a ∧ d ≤ c) := by
    rw [← hd, ← hc]
    simp only [imax_def, imin_def] at l1 l2 ⊢
    (repeat' split) <;> (repeat' split at l1) <;> (repeat' split at l2) <;> omega
  rw [hc, hd, he, ed]
  refine ⟨rfl, ?_, ?_⟩ <;> (simp only [imax_def]; (repeat' split) <;> omega)
theorem seg_from {g a x : Int} (g0 : 0 ≤ g) : ∀ (m r : List Int), Sg g a (x :: r) → Gd g (x :: (r ++ m)) → Sg g a (x :: (r ++ m))
  | [], r, h, _ => by rw [List.append_nil]; exact h
  | z :: m, r, h, hg => by
    have e : r ++ z :: m = (r ++ [z]) ++ m := by simp
    rw [e] at hg ⊢
    exact seg_from g0 m (r ++ [z]) (seg_step g0 h (Gd.pre (m := m) (by simp) hg)) hg
theorem seg {g a : Int} (g0 : 0 ≤ g) {G : List Int} (h : Gd g G) : Sg g a G := by
  cases G with
  | nil => exact absurd rfl h.1
  | cons x r =>
    have one : Sg g a [x] := by
      have x0 := (h.2 x List.mem_cons_self).1
      unfold Sg gcl glo ghi
      show nl g a x = imax (imax 0 (x - g)) (imin x a) ∧ imax 0 (nl g a x - a) + 0 = _ ∧ imax 0 (-(nl g a x - a)) + 0 = _
      unfold nl
      refine ⟨rfl, ?_, ?_⟩
      · rw [Int.add_zero]; rfl
      · rw [Int.add_zero]; rfl
    exact seg_from g0 r [] one h
/-- the plan with one number in each group -/
def pg (g : Int) : Int → List (List Int) → List Int
  | _, [] => []
  | a, G :: r => List.replicate G.length (gcl g a G) ++ pg g (gcl g a G) r
theorem rep_counts (c : Int) : ∀ (n : Nat) (a : Int), n ≠ 0 → lst a (List.replicate n c) = c ∧ wr a (List.replicate n c) = imax 0 (c - a) ∧ rd a (List.replicate n c) = imax 0 (-(c - a)) ∧ tp a (List.replicate n c) = if (!decide (c - a = (0 : Int))) = true then 1 else 0
  | 0, _, h => absurd rfl h
  | 1, a, _ => by
    show c = c ∧ imax 0 (c - a) + 0 = _ ∧ imax 0 (-(c - a)) + 0 = _ ∧ _ + 0 = _
    rw [Int.add_zero, Int.add_zero]
    exact ⟨rfl, rfl, rfl, Int.add_zero _⟩
  | n + 2, a, _ => by
    obtain ⟨h1, h2, h3, h4⟩ := rep_counts c (n + 1) c (by omega)
    have z : imax 0 (c - c) = 0 := by simp only [imax_def]; split <;> omega
    have z' : imax 0 (-(c - c)) = 0 := by simp only [imax_def]; split <;> omega
    rw [show List.replicate (n + 2) c = c :: List.replicate (n + 1) c from rfl]
    show lst c (List.replicate (n + 1) c) = c ∧ imax 0 (c - a) + wr c (List.replicate (n + 1) c) = _ ∧ imax 0 (-(c - a)) + rd c (List.replicate (n + 1) c) = _ ∧ _ + tp c (List.replicate (n + 1) c) = _
    rw [h1, h2, h3, h4, z, z', Int.sub_self]
    simp
/-- it moves as many words as the lazy plan, and traps at most once for each group -/
theorem pg_counts {g : Int} (g0 : 0 ≤ g) : ∀ (Gs : List (List Int)) (a : Int), (∀ G ∈ Gs, Gd g G) → wr a (pg g a Gs) = wr a (lzl g a Gs.flatten) ∧ rd a (pg g a Gs) = rd a (lzl g a Gs.flatten) ∧ tp a (pg g a Gs) ≤ Gs.length
  | [], a, _ => ⟨rfl, rfl, Int.le_refl 0⟩
  | G :: r, a, h => by
    obtain ⟨s1, s2, s3⟩ := seg (a := a) g0 (h G List.mem_cons_self)
    obtain ⟨i1, i2, i3⟩ := pg_counts g0 r (gcl g a G) fun K hK => h K (List.mem_cons_of_mem _ hK)
    obtain ⟨r1, r2, r3, r4⟩ := rep_counts (gcl g a G) G.length a (by have := (h G List.mem_cons_self).1; intro z; exact this (List.eq_nil_of_length_eq_zero z))
    obtain ⟨w1, w2, w3⟩ := wr_app (List.replicate G.length (gcl g a G)) (pg g (gcl g a G) r) a
    obtain ⟨v1, v2, v3⟩ := wr_app (lzl g a G) (lzl g (gcl g a G) r.flatten) a
    rw [List.flatten_cons, lzl_app, s1]
    show wr a (List.replicate G.length (gcl g a G) ++ pg g (gcl g a G) r) = _ ∧ rd a (List.replicate G.length (gcl g a G) ++ pg g (gcl g a G) r) = _ ∧ tp a (List.replicate G.length (gcl g a G) ++ pg g (gcl g a G) r) ≤ _
    rw [w1, w2, w3, v1, v2, r1, r2, r3, r4, s1, s2, s3, i1, i2, List.length_cons]
    refine ⟨rfl, rfl, ?_⟩
    split <;> omega
/-- begins and ends of groups -/
def bg : Int → List (List Int) → List Int
  | _, [] => []
  | i, G :: r => i :: bg (i + G.length) r
def nd : Int → List (List Int) → List Int
  | _, [] => []
  | i, G :: r => (i + G.length) :: nd (i + G.length) r
theorem bg_nd : ∀ (r : List (List Int)) (G : List Int) (i : Int), nd i (G :: r) = bg (i + G.length) r ++ [i + (((G :: r).flatten.length : Nat) : Int)]
  | [], G, i => by simp [nd, bg]
  | K :: r, G, i => by
    rw [show nd i (G :: K :: r) = (i + G.length) :: nd (i + G.length) (K :: r) from rfl, bg_nd r K]
    rw [show bg (i + G.length) (K :: r) = (i + G.length) :: bg (i + G.length + K.length) r from rfl]
    simp [List.flatten_cons, List.length_append]
    omega
theorem bg_app : ∀ (Gs : List (List Int)) (K : List Int) (i : Int), bg i (Gs ++ [K]) = bg i Gs ++ [i + ((Gs.flatten.length : Nat) : Int)]
  | [], K, i => by simp [bg]
  | G :: r, K, i => by
    rw [List.cons_append]
    show i :: bg (i + G.length) (r ++ [K]) = i :: bg (i + G.length) r ++ _
    rw [bg_app r K]
    simp [List.flatten_cons, List.length_append]
    omega
theorem bg_len : ∀ (Gs : List (List Int)) (i : Int), (bg i Gs).length = Gs.length ∧ (nd i Gs).length = Gs.length
  | [], _ => ⟨rfl, rfl⟩
  | G :: r, i => by
    obtain ⟨a, b⟩ := bg_len r (i + G.length)
    exact ⟨congrArg (· + 1) a, congrArg (· + 1) b⟩
end Zm
/-! Signs counted; futures: what the lazy plan moves behind a trace. -/
namespace Zm
open PySem PySem.Spec PyProof.Rows L2 Z
open PySem.StrLaws PySem.Builtin.Str in
theorem occ_size (x : Str) (c lim : Nat) : ∀ (n i : Nat) (arr : Array Nat) (free : Nat), free ≤ i → arr.size + n ≤ lim → ((forIn (List.range' i n) (arr, free) (occBody x ⟨#[c]⟩ x.length lim)).run.fst).size = arr.size + ((x.cps.toList.drop i).take n).count c
  | 0, i, arr, free, _, _ => by simp [List.range'_zero]
  | n + 1, i, arr, free, hf, hl => by
    rw [List.range'_succ, List.forIn_cons]
    unfold occBody
    have key := subAt_one x c i
    have hd : (x.cps.toList.drop i).take (n + 1) = (x.cps.toList[i]?).toList ++ (x.cps.toList.drop (i + 1)).take n := by
      cases q : x.cps.toList[i]? with
      | none =>
        have := List.getElem?_eq_none_iff.mp q
        rw [List.drop_eq_nil_of_le (by omega), List.drop_eq_nil_of_le (by omega)]; simp
      | some y =>
        obtain ⟨hlt, e⟩ := List.getElem?_eq_some_iff.mp q
        rw [List.drop_eq_getElem_cons hlt, e]; simp
    by_cases hc : i + (⟨#[c]⟩ : Str).length ≤ x.length ∧ subAt x ⟨#[c]⟩ i = true
    · rw [if_pos ⟨⟨⟨by show arr.size < lim; omega, hf⟩, hc.1⟩, hc.2⟩]
      have ih := occ_size x c lim n (i + 1) (arr.push i) (i + 1) (Nat.le_refl _) (by rw [Array.size_push]; omega)
      have e : x.cps.toList[i]? = some c := key.mp hc
      refine (show _ = _ from ih).trans ?_
      rw [hd, e, Array.size_push]
      simp [List.count_cons]; omega
    · rw [if_neg (fun h => hc ⟨h.1.2, h.2⟩)]
      have ih := occ_size x c lim n (i + 1) arr free (by omega) (by omega)
      refine (show _ = _ from ih).trans ?_
      rw [hd]
      have ne : x.cps.toList[i]? ≠ some c := fun z => hc (key.mpr z)
      cases q : x.cps.toList[i]? with
      | none => simp
      | some y =>
        rw [q] at ne
        have : ¬ y = c := fun z => ne (by rw [z])
        simp [List.count_cons, this]
theorem count_one (x : Str) (c : Nat) : Txt.count x ⟨#[c]⟩ = ((x.cps.toList.count c : Nat) : Int) := by
  unfold Txt.count
  rw [StrLaws.occ_eq, Array.length_toList]
  have := occ_size x c (x.length + 1) (x.length + 1 - 0) 0 #[] 0 (Nat.le_refl _) (by simp)
  rw [this]
  simp only [Array.size_empty, Nat.zero_add, List.drop_zero]
  rw [List.take_of_length_le (by simp [Str.length])]
theorem count_tx (b : Bool) (bs : List Bool) : Txt.count (tx bs) (sg b) = ((bs.count b : Nat) : Int) := by
  unfold sg
  rw [count_one]
  congr 1
  unfold tx
  show ((bs.map cd).toArray.toList).count (cd b) = _
  rw [List.toList_toArray]
  induction bs with
  | nil => rfl
  | cons x r ih =>
    rw [List.map_cons, List.count_cons, List.count_cons, ih]
    cases x <;> cases b <;> rfl
theorem dp_count : ∀ (bs : List Bool) (d : Int), dp d bs = d + ((bs.count true : Nat) : Int) - ((bs.count false : Nat) : Int)
  | [], d => by show d = d + ((0 : Nat) : Int) - ((0 : Nat) : Int); omega
  | b :: r, d => by
    show dp (d + dl b) r = _
    rw [dp_count r, List.count_cons, List.count_cons]
    cases b <;> simp [dl] <;> omega
theorem left_ok (bs : List Bool) : m__law_left (tx bs) = some (dp 0 bs) := by
  unfold m__law_left
  rw [plus_eq, minus_eq, count_tx, count_tx, dp_count bs 0, Int.zero_add]
/-! ### machines of all sizes -/
theorem any_machine_ok {n : Int} {s : List Int} (h : Src n s) (hn : n ≤ 10 ^ 7) : ∃ seats held s', m__law_any_machine s = some ((seats, held), s') ∧ 1 ≤ seats ∧ seats ≤ 2 * 10 ^ 29 ∧ 0 ≤ held ∧ held ≤ seats ∧ Src (n + 10) s' := by
  obtain ⟨w, s1, e1, w0, w1, h1⟩ := draw_ok (c := 4) h (by omega) (by decide) (by decide)
  unfold m__law_any_machine
  rw [to_bind e1]
  by_cases hw : 0 < w
  · obtain ⟨seats, held, s2, e2, a, b, c, d, h2⟩ := machine_ok h1 (by omega)
    refine ⟨seats, held, s2, ?_, a, Int.le_trans b (by decide), c, d, h2.up (by omega)⟩
    refine (if_pos (decide_eq_true hw)).trans ?_
    rw [to_bind e2]
  · obtain ⟨x, s2, e2, x0, x1, h2⟩ := draw_ok (c := 60) h1 (by omega) (by decide) (by decide)
    obtain ⟨y, s3, e3, y0, y1, h3⟩ := draw_ok (c := 10 ^ 29) h2 (by omega) (by decide) (by decide)
    obtain ⟨z, s4, e4, z0, z1, h4⟩ := draw_ok (c := 4) h3 (by omega) (by decide) (by decide)
    obtain ⟨v, s5, e5, v0, v1, h5⟩ := draw_ok (c := 10 ^ 29) h4 (by omega) (by decide) (by decide)
    obtain ⟨held, e6, b0, b1⟩ : ∃ held : Int, atI [(0 : Int), 1, x, y] z = some held ∧ 0 ≤ held ∧ held < 10 ^ 29 := by
      rcases (show z = 0 ∨ z = 1 ∨ z = 2 ∨ z = 3 by omega) with e | e | e | e <;> subst e
      · exact ⟨0, rfl, by decide, by decide⟩
      · exact ⟨1, rfl, by decide, by decide⟩
      · exact ⟨x, rfl, x0, Int.lt_of_lt_of_le x1 (by decide)⟩
      · exact ⟨y, rfl, y0, y1⟩
    refine ⟨imax 1 (held + v), held, s5, ?_, ?_, ?_, b0, ?_, h5.up (by omega)⟩
    · refine (if_neg (by simpa using hw)).trans ?_
      rw [to_bind e2, show ((10 : Int) ^ (29 : Int).toNat) = 10 ^ 29 from rfl, to_bind e3, to_bind e4, to_bind e6, to_bind e5]
    all_goals rw [imax_def]; split <;> omega
/-! ### futures -/
theorem future_ok {fs : List Bool} {d : Int} (o : ok d fs) (hl : fs.length ≤ 1000) : m_checked_future (tx fs) d = some (d :: hs d fs) := by
  have hk := (line_le (n := fs.length) (by omega)).1
  have al : m_depths_along (tx fs) d = some (d :: hs d fs) := by
    unfold m_depths_along
    rw [signs_tx, to_bind (along_loop fs d [d] o (by simp; omega)), after_go]
    rfl
  unfold m_checked_future
  rw [if_neg (by decide), chk_bind (by rw [tx_len]; exact hk)]
  rw [to_bind (m := some (decide ((1000 : Int) < (((tx fs).length : Nat) : Int)))) (a := false) (by rw [tx_len, decide_eq_false (by omega)]), if_neg (by decide), to_bind al, chk_bind (by rw [tx_len]; exact hk)]
  rw [if_neg (by rw [tx_len, List.length_cons, hs_len]; simp; omega)]
theorem coming_ok {n many d : Int} {s : List Int} (h : Src n s) (hn : n ≤ 10 ^ 8) (d0 : 0 ≤ d) (m0 : 0 ≤ many) (m1 : many ≤ 100000) :
    ∃ fs s', m__law_coming s d many = some (tx fs, s') ∧ (fs.length : Int) = many ∧ ok d fs ∧ Src (n + 2 * many + 1) s' := by
  obtain ⟨way, s1, e1, w0, w1, h1⟩ := draw_ok (c := 3) h (by omega) (by decide) (by decide)
  unfold m__law_coming
  rw [to_bind e1]
  obtain ⟨st, e2, bs, a1, a2, a3, a4, a5⟩ := while_run (f := m__law_coming_b1 many (way, s1)) (fun st => ∃ bs : List Bool, st.2.1 = tx bs ∧ st.1 = dp d bs ∧ ok d bs ∧ (bs.length : Int) ≤ many ∧ Src (n + 1 + 2 * bs.length) st.2.2) (fun st => many.toNat - st.2.1.length) (fun st => ∃ bs : List Bool, st.2.1 = tx bs ∧ st.1 = dp d bs ∧ ok d bs ∧ (bs.length : Int) = many ∧ Src (n + 1 + 2 * many) st.2.2)
    (fun st ⟨bs, b1, b2, b3, b4, b5⟩ => by
      obtain ⟨high, found, src⟩ := st
      simp only at b1 b2 b5
      subst b1 b2
      have hlen : bs.length ≤ 100000 := by omega
      have hk := (line_le (n := bs.length) (by omega)).1
      unfold m__law_coming_b1
      rw [chk_bind (by show (tx bs).length ≤ _; rw [tx_len]; exact hk)]
      by_cases hlt : (bs.length : Int) < many
      · rw [if_pos (by show decide ((((tx bs).length : Nat) : Int) < many) = true; rw [tx_len]; exact decide_eq_true hlt)]
        rw [chk_bind (by show (tx bs).length ≤ _; rw [tx_len]; exact hk)]
        obtain ⟨c, e3, c0, c1⟩ : ∃ c : Int, atI [(1 : Int), 6, 30] way = some c ∧ 0 < c ∧ c ≤ 30 := by
          rcases (show way = 0 ∨ way = 1 ∨ way = 2 by omega) with e | e | e <;> subst e
          · exact ⟨1, rfl, by decide, by decide⟩
          · exact ⟨6, rfl, by decide, by decide⟩
          · exact ⟨30, rfl, by decide, by decide⟩
        rw [to_bind e3]
        obtain ⟨r, s2, e4, r0, r1, h2⟩ := draw_ok (c := c) b5 (by omega) c0 (by omega)
        rw [to_bind e4]
        have key : ∃ (st : Bool × List Int), (if decide ((0 : Int) < dp d bs) = true then m__law_draw s2 2 >>= fun r16 => some (decide (r16.1 = (0 : Int)), r16.2) else some (false, s2)) = some st ∧ (st.1 = true → 0 < dp d bs) ∧ Src (n + 1 + 2 * bs.length + 2) st.2 := by
          by_cases hd : 0 < dp d bs
          · obtain ⟨r5, s3, e5, _, _, h3⟩ := draw_ok (c := 2) h2 (by omega) (by decide) (by decide)
            exact ⟨(decide (r5 = (0 : Int)), s3), by rw [if_pos (decide_eq_true hd), to_bind e5], fun _ => hd, h3.up (by omega)⟩
          · exact ⟨(false, s2), by rw [if_neg (by simpa using hd)], (fun h => by cases h), h2.up (by omega)⟩
        obtain ⟨st, e6, g1, g2⟩ := key
        rw [to_bind e6]
        simp only [tx_len]
        have sz := imin_le (many - (bs.length : Int)) (1 + r)
        have sp := imin_pos (a := many - (bs.length : Int)) (b := 1 + r) (by omega) (by omega)
        generalize imin (many - (bs.length : Int)) (1 + r) = size at sz sp ⊢
        by_cases hs1 : st.1 = true
        · rw [if_pos hs1]
          have hp := g1 hs1
          have sz2 := imin_le size (dp d bs)
          have sp2 := imin_pos sp hp
          generalize imin size (dp d bs) = z at sz2 sp2 ⊢
          rw [minus_eq, tx_mul, chk_bind (show Z.CRep (sg false) z from ⟨by decide, by omega, by omega⟩), chk_bind (by rw [tx_len, List.length_replicate]; exact (line_le (by omega)).1), tx_app]
          refine .inl ⟨_, rfl, ⟨bs ++ List.replicate z.toNat false, rfl, ?_, ?_, ?_, ?_⟩, ?_⟩
          · show dp d bs - z = _
            rw [dp_app, dp_downs]; omega
          · exact (ok_app _ _ _).mpr ⟨b3, ok_downs _ _ (by omega)⟩
          · simp; omega
          · show Src _ st.2
            exact g2.up (by simp; omega)
          · show many.toNat - (tx (bs ++ List.replicate z.toNat false)).length < many.toNat - bs.length
            rw [tx_len]; simp; omega
        · rw [if_neg hs1, plus_eq, tx_mul, chk_bind (show Z.CRep (sg true) size from ⟨by decide, by omega, by omega⟩), chk_bind (by rw [tx_len, List.length_replicate]; exact (line_le (by omega)).1), tx_app]
          refine .inl ⟨_, rfl, ⟨bs ++ List.replicate size.toNat true, rfl, ?_, ?_, ?_, ?_⟩, ?_⟩
          · show dp d bs + size = _
            rw [dp_app, dp_ups]; omega
          · exact (ok_app _ _ _).mpr ⟨b3, ok_ups _ _ (dp_nn _ _ d0 b3)⟩
          · simp; omega
          · show Src _ st.2
            exact g2.up (by simp; omega)
          · show many.toNat - (tx (bs ++ List.replicate size.toNat true)).length < many.toNat - bs.length
            rw [tx_len]; simp; omega
      · rw [if_neg (by show ¬ decide ((((tx bs).length : Nat) : Int) < many) = true; rw [tx_len]; simpa using hlt)]
        exact .inr ⟨_, rfl, bs, rfl, rfl, b3, by omega, b5.up (by omega)⟩)
    Z.FUEL (d, ("" : Str), s1) ⟨[], empty_eq, rfl, trivial, by simpa using m0, h1.up (by simp)⟩ (by
      show many.toNat - _ < Z.FUEL
      have : Z.FUEL = 1000000 := rfl
      omega)
  rw [to_bind e2, after_go]
  refine ⟨bs, st.2.2, ?_, a4, a3, a5.up (by omega)⟩
  rw [a1]
end Zm
/-! The lazy plan from a moment on; what is moved behind a trace. -/
namespace Zm
open PySem PySem.Spec PyProof.Rows L2 Z
def df : Int → List Int → List Int
  | _, [] => []
  | a, x :: r => (x - a) :: df x r
theorem df_len : ∀ (l : List Int) (a : Int), (df a l).length = l.length
  | [], _ => rfl
  | x :: r, a => by show (df x r).length + 1 = r.length + 1; rw [df_len r]
theorem df_sum : ∀ (l : List Int) (a : Int), (df a l).sum = lst a l - a
  | [], a => by show (0 : Int) = a - a; omega
  | x :: r, a => by show ((x - a) :: df x r).sum = lst x r - a; rw [List.sum_cons, df_sum r]; omega
theorem df_bound {B : Int} : ∀ {l : List Int} {a : Int}, 0 ≤ a → a ≤ B → (∀ x ∈ l, 0 ≤ x ∧ x ≤ B) → ∀ y ∈ df a l, -B ≤ y ∧ y ≤ B
  | [], _, _, _, _, y, hy => by cases hy
  | x :: r, a, a0, a1, h, y, hy => by
    have hx := h x List.mem_cons_self
    rcases List.mem_cons.mp hy with e | e
    · subst e; omega
    · exact df_bound hx.1 hx.2 (fun z hz => h z (List.mem_cons_of_mem _ hz)) y e
theorem df_map : ∀ (l : List Int) (a : Int), ((a :: l).zip l).map (fun x => x.2 - x.1) = df a l
  | [], _ => rfl
  | x :: r, a => by show (x - a) :: ((x :: r).zip r).map (fun x => x.2 - x.1) = _; rw [df_map r]; rfl
theorem diffs {f : Int → Unit → Option (Option Int × Unit)} {N : List Int} (hf : ∀ (i : Nat) (x y : Int), N[i]? = some x → N[i + 1]? = some y → f (i : Int) () = some (some (y - x), ())) : ∀ (q : List Int) (i : Nat) (a : Int), N.drop i = a :: q → compM f (Z.upto (i : Int) ((i + q.length : Nat) : Int)) () = some (df a q, ())
  | [], i, a, _ => by rw [upto_nil (by simp)]; rfl
  | x :: q, i, a, hd => by
    have h1 := drop_at hd
    have h2 := drop_at h1.2
    have ih := diffs hf q (i + 1) x h1.2
    rw [upto_cons (by simp; omega)]
    refine (comp_cons (hf i a x h1.1 h2.1) ?_).trans rfl
    rw [show ((i : Int) + 1) = ((i + 1 : Nat) : Int) by omega, show ((i + (x :: q).length : Nat) : Int) = ((i + 1 + q.length : Nat) : Int) by simp; omega]
    exact ih
theorem lst_hs : ∀ (bs : List Bool) (d : Int), lst d (hs d bs) = dp d bs
  | [], _ => rfl
  | b :: r, d => lst_hs r (d + dl b)
theorem lz_app {reg top : Int} : ∀ (xs ys : List Int) (a : Int), lz reg top a (xs ++ ys) = lz reg top a xs ++ lz reg top (lst a (lz reg top a xs)) ys
  | [], _, _ => rfl
  | x :: r, ys, a => by
    show nx reg top a x :: lz reg top (nx reg top a x) (r ++ ys) = nx reg top a x :: (lz reg top (nx reg top a x) r ++ _)
    rw [lz_app r ys]; rfl
theorem lz_len {reg top : Int} : ∀ (xs : List Int) (a : Int), (lz reg top a xs).length = xs.length
  | [], _ => rfl
  | x :: r, a => by show (lz reg top (nx reg top a x) r).length + 1 = r.length + 1; rw [lz_len r]
theorem pl_lst {reg top : Int} : ∀ {ds ns : List Int} {d n : Int}, Pl reg top d n → Pl2 reg top ds ns → Pl reg top (lst d ds) (lst n ns)
  | [], [], _, _, h, _ => h
  | d :: ds, n :: ns, _, _, _, h => pl_lst (ds := ds) (ns := ns) h.1 h.2
theorem nx_same {reg top d a : Int} (h : Pl reg top d a) : nx reg top a d = a := by
  obtain ⟨h1, h2, h3⟩ := h
  unfold nx
  by_cases p : 0 < a
  · have := h2 p
    rw [if_neg (by omega), if_neg (by omega)]
  · rw [if_neg (by omega)]
    by_cases q : d - top < a
    · rw [if_pos q, if_neg (by omega)]; omega
    · rw [if_neg q]
/-- the number behind a trace; the numbers of the lazy plan from there on -/
def la (reg top : Int) (bs : List Bool) : Int := lst 0 (lz reg top 0 (0 :: hs 0 bs))
def lb (reg top : Int) (bs fs : List Bool) : List Int := lz reg top (la reg top bs) (hs (dp 0 bs) fs)
theorem la_pl {reg top : Int} (h0 : 0 ≤ top) (h1 : top ≤ reg) (bs : List Bool) : Pl reg top (dp 0 bs) (la reg top bs) := by
  have p := lz_pl (reg := reg) (top := top) h0 h1 (0 :: hs 0 bs) 0 (Int.le_refl 0)
  have z : Pl reg top 0 0 := ⟨by omega, fun h => absurd h (by decide), Int.le_refl 0⟩
  have := pl_lst z p
  rw [← lst_hs bs 0]
  exact this
theorem la_eq {reg top : Int} (m : Mach reg top) (bs : List Bool) : la reg top bs = cg (reg - top) (og (lv top bs)) := by
  obtain ⟨m1, m2, m3, m4⟩ := id m
  unfold la
  rw [lz_lv m3 m4]
  exact (lazy_words (by omega) m3 bs).2
theorem la_app {reg top : Int} (h0 : 0 ≤ top) (h1 : top ≤ reg) (bs fs : List Bool) : lz reg top 0 (0 :: hs 0 (bs ++ fs)) = lz reg top 0 (0 :: hs 0 bs) ++ lb reg top bs fs := by
  rw [hs_app]
  exact lz_app (0 :: hs 0 bs) (hs (dp 0 bs) fs) 0
theorem la_all {reg top : Int} (h0 : 0 ≤ top) (h1 : top ≤ reg) (bs fs : List Bool) : lst (la reg top bs) (lb reg top bs fs) = la reg top (bs ++ fs) := by
  unfold la
  rw [la_app h0 h1, lst_app]
theorem lb_pl {reg top : Int} (h0 : 0 ≤ top) (h1 : top ≤ reg) (bs fs : List Bool) : Pl2 reg top (hs (dp 0 bs) fs) (lb reg top bs fs) := lz_pl h0 h1 _ _ (la_pl h0 h1 bs).2.2
theorem lb_len (reg top : Int) (bs fs : List Bool) : (lb reg top bs fs).length = fs.length := by unfold lb; rw [lz_len, hs_len]
theorem ok_last {d : Int} {fs : List Bool} (o : ok d fs) : ∀ x ∈ hs d fs, 0 ≤ x ∧ x ≤ d + fs.length := fun x hx => ⟨(ok_iff fs d).mp o x hx, hs_le fs d x hx⟩
theorem dp_le (bs : List Bool) : ∀ d, dp d bs ≤ d + bs.length := by
  induction bs with
  | nil => intro d; show d ≤ d + ((0 : Nat) : Int); omega
  | cons b r ih => intro d; have := ih (d + dl b); have hd : dl b ≤ 1 := by cases b <;> decide
                   show dp (d + dl b) r ≤ d + ((r.length + 1 : Nat) : Int); omega
theorem la_bound {reg top : Int} (h0 : 0 ≤ top) (h1 : top ≤ reg) {bs : List Bool} (o : ok 0 bs) : 0 ≤ la reg top bs ∧ la reg top bs ≤ bs.length := by
  obtain ⟨p1, p2, p3⟩ := la_pl (reg := reg) (top := top) h0 h1 bs
  have d1 := dp_le bs 0
  have d2 := dp_nn bs 0 (Int.le_refl 0) o
  refine ⟨p3, ?_⟩
  by_cases p : 0 < la reg top bs
  · have := p2 p; omega
  · omega
theorem lb_bound {reg top : Int} (h0 : 0 ≤ top) (h1 : top ≤ reg) {bs fs : List Bool} (of : ok (dp 0 bs) fs) : ∀ x ∈ lb reg top bs fs, 0 ≤ x ∧ x ≤ (bs.length + fs.length : Int) := fun x hx => by
  have d1 := dp_le bs 0
  exact (lb_pl h0 h1 bs fs).bound h0 (B := bs.length + fs.length) (fun d hd => by have := ok_last of d hd; omega) x hx
theorem moved_ok {reg top : Int} {bs fs : List Bool} (m : Mach reg top) (o : ok 0 bs) (hl : bs.length ≤ 1000) (of : ok (dp 0 bs) fs) (hf : fs.length ≤ 1000) :
    m_moved_behind (tx bs) reg top (tx fs) = some (df (la reg top bs) (lb reg top bs fs)) := by
  obtain ⟨m1, m2, m3, m4⟩ := id m
  have e1 : atI (0 :: hs 0 bs) (-(1 : Int)) = some (dp 0 bs) := by
    rw [lst_at (0 :: hs 0 bs) 0 (by simp)]
    exact congrArg some (lst_hs bs 0)
  have e2 : atI (lz reg top 0 (0 :: hs 0 bs)) (-(1 : Int)) = some (la reg top bs) := lst_at _ 0 (by show _ :: _ ≠ _; simp)
  have e3 : lz reg top (la reg top bs) (dp 0 bs :: hs (dp 0 bs) fs) = la reg top bs :: lb reg top bs fs := by
    show nx reg top (la reg top bs) (dp 0 bs) :: lz reg top (nx reg top (la reg top bs) (dp 0 bs)) _ = _
    rw [nx_same (la_pl m3 m4 bs)]; rfl
  have bl := lb_len reg top bs fs
  unfold m_moved_behind
  rw [to_bind (checked_ok o hl), to_bind (mach_ok m), to_bind e1, to_bind (future_ok of hf), to_bind (lazy_along_ok _ reg top 0 (by simp [hs_len]; omega)), to_bind e2, to_bind (lazy_along_ok _ reg top _ (by simp [hs_len]; omega)), e3]
  rw [show Z.cutL (la reg top bs :: lb reg top bs fs) (some (1 : Int)) none = lb reg top bs fs from cut_from _ 1]
  rw [chk_bind (by rw [List.length_zip, List.length_cons]; exact (line_le (by omega)).2), to_bind (comp_map (f := m_moved_behind_c1) (fun x => x.2 - x.1) _ fun x _ => rfl), df_map]
theorem moved_sh {reg top : Int} {bs fs : List Bool} (h0 : 0 ≤ top) (h1 : top ≤ reg) (o : ok 0 bs) (hl : bs.length ≤ 1000) (of : ok (dp 0 bs) fs) (hf : fs.length ≤ 1000) : Sh 1 22100 (.list ((df (la reg top bs) (lb reg top bs fs)).map PyData.int)) := by
  have lb1 := la_bound h0 h1 o (reg := reg)
  have bl := lb_len reg top bs fs
  refine (Sh.ints (m := 1001) (fun x hx => ?_) (by rw [df_len]; omega)).up (Nat.le_refl _) (by decide)
  have := df_bound (B := 2000) lb1.1 (by omega) (fun y hy => by have := lb_bound h0 h1 of (reg := reg) y hy; omega) x hx
  omega
end Zm
/-! The words' numbers: the heights of the open calls, and zeros. -/
namespace Zm
open PySem PySem.Spec PyProof.Rows L2 Z
theorem cg_len (g : Int) : ∀ l : List Int, 0 ≤ cg g l ∧ cg g l ≤ l.length
  | [] => ⟨Int.le_refl 0, Int.le_refl 0⟩
  | h :: r => by
    have := cg_len g r
    show 0 ≤ (if g < h then (1 : Int) else 0) + cg g r ∧ (if g < h then (1 : Int) else 0) + cg g r ≤ ((r.length + 1 : Nat) : Int)
    split <;> omega
theorem cg_none {g : Int} : ∀ {l : List Int}, (∀ h ∈ l, h ≤ g) → cg g l = 0
  | [], _ => rfl
  | h :: r, H => by
    show (if g < h then (1 : Int) else 0) + cg g r = 0
    rw [if_neg (by have := H h List.mem_cons_self; omega), cg_none fun x hx => H x (List.mem_cons_of_mem _ hx)]; rfl
theorem cg_every {g : Int} : ∀ {l : List Int}, (∀ h ∈ l, g < h) → cg g l = l.length
  | [], _ => rfl
  | h :: r, H => by
    show (if g < h then (1 : Int) else 0) + cg g r = ((r.length + 1 : Nat) : Int)
    rw [if_pos (H h List.mem_cons_self), cg_every fun x hx => H x (List.mem_cons_of_mem _ hx)]; omega
theorem falls_tail {x : Int} {r : List Int} (h : Falls (x :: r)) : Falls r := by
  cases r with
  | nil => trivial
  | cons y r => exact h.2
theorem falls_head : ∀ {r : List Int} {x : Int}, Falls (x :: r) → ∀ y ∈ r, y < x
  | [], _, _, y, hy => by cases hy
  | z :: r, x, h, y, hy => by
    rcases List.mem_cons.mp hy with e | e
    · subst e; exact h.1
    · have := falls_head (r := r) (x := z) h.2 y e
      have := h.1
      omega
theorem falls_split (g : Int) : ∀ {l : List Int}, Falls l → ∃ A B, l = A ++ B ∧ (∀ h ∈ A, g < h) ∧ (∀ h ∈ B, h ≤ g) ∧ cg g l = A.length
  | [], _ => ⟨[], [], rfl, (fun _ h => by cases h), (fun _ h => by cases h), rfl⟩
  | x :: r, h => by
    by_cases q : g < x
    · obtain ⟨A, B, e, a, b, c⟩ := falls_split g (falls_tail h)
      refine ⟨x :: A, B, by rw [e]; rfl, ?_, b, ?_⟩
      · intro y hy
        rcases List.mem_cons.mp hy with e | e
        · subst e; exact q
        · exact a y e
      · show (if g < x then (1 : Int) else 0) + cg g r = ((A.length + 1 : Nat) : Int)
        rw [if_pos q, c]; omega
    · have all : ∀ y ∈ x :: r, y ≤ g := fun y hy => by
        rcases List.mem_cons.mp hy with e | e
        · subst e; omega
        · have := falls_head h y e; omega
      exact ⟨[], x :: r, rfl, (fun _ h => by cases h), all, cg_none all⟩
theorem lzl_all : ∀ {L : List Int} {a : Int}, (∀ y ∈ L, 0 ≤ y) → lzl 0 a L = L
  | [], _, _ => rfl
  | y :: r, a, h => by
    have hy := h y List.mem_cons_self
    show nl 0 a y :: lzl 0 (nl 0 a y) r = y :: r
    rw [lzl_all fun z hz => h z (List.mem_cons_of_mem _ hz), show nl 0 a y = y by unfold nl; simp only [imax_def, imin_def]; (repeat' split) <;> omega]
theorem lst_map (f : Int → Int) : ∀ (l : List Int) (a : Int), lst (f a) (l.map f) = f (lst a l)
  | [], _ => rfl
  | x :: r, a => lst_map f r x
/-- as many calls are open as the level tells -/
theorem og_level {top : Int} (h0 : 0 ≤ top) (bs : List Bool) : ((og (lv top bs)).length : Int) = imax 0 (dp 0 bs - top) := by
  have w := (lazy_words (g := 0) (Int.le_refl 0) h0 bs).2
  rw [lzl_all fun y hy => (lv_bound h0 y hy).1, cg_every fun h hh => by have := og_le h hh; omega] at w
  rw [← w]
  show lst 0 ((hs 0 bs).map fun h => imax 0 (h - top)) = _
  have e := lst_map (fun h => imax 0 (h - top)) (hs 0 bs) 0
  have z : imax 0 (0 - top) = 0 := imax_of' (by omega)
  rw [z] at e
  rw [e, lst_hs]
def wn (top : Int) (bs : List Bool) : List Int := (og (lv top bs)).map (fun h => h + top - 1) ++ List.replicate (imin top (dp 0 bs)).toNat 0
theorem wn_len {top : Int} (h0 : 0 ≤ top) {bs : List Bool} (o : ok 0 bs) : ((wn top bs).length : Int) = dp 0 bs := by
  have g := og_level h0 bs
  have d := dp_nn bs 0 (Int.le_refl 0) o
  unfold wn
  rw [List.length_append, List.length_map, List.length_replicate]
  rw [imax_def] at g
  rw [imin_def]
  split at g <;> split <;> omega
theorem og_bound {top : Int} (h0 : 0 ≤ top) (bs : List Bool) : ∀ h ∈ og (lv top bs), 1 ≤ h ∧ h ≤ bs.length := fun h hh => by
  have mm := mxa_le (B := bs.length) (l := lv top bs) (by omega) fun x hx => (lv_bound h0 x hx).2
  have m0 := mn_nn (lv_lev h0 bs)
  have := og_le h hh
  omega
theorem wn_bound {top : Int} (h0 : 0 ≤ top) (bs : List Bool) : ∀ n ∈ wn top bs, 0 ≤ n ∧ n ≤ bs.length + top := fun n hn => by
  rcases List.mem_append.mp hn with z | z
  · obtain ⟨h, hh, rfl⟩ := List.mem_map.mp z
    have := og_bound h0 bs h hh
    omega
  · rw [List.eq_of_mem_replicate z]; omega
theorem wn_sh {top : Int} (h0 : 0 ≤ top) (h1 : top ≤ 1000) {bs : List Bool} (o : ok 0 bs) (hl : bs.length ≤ 1000) : Sh 1 22100 (.list ((wn top bs).map PyData.int)) := by
  have w := wn_len h0 o
  have d := dp_le bs 0
  refine (Sh.ints (m := 1001) (fun x hx => ?_) (by omega)).up (Nat.le_refl _) (by decide)
  have := wn_bound h0 bs x hx
  omega
theorem word_numbers_ok {bs : List Bool} {top : Int} (o : ok 0 bs) (hl : bs.length ≤ 1000) (h0 : 0 ≤ top) (h1 : top ≤ 1000) : m_word_numbers (tx bs) top = some (wn top bs) := by
  have sl : sizeLine = 16777216 := by decide
  have d := dp_nn bs 0 (Int.le_refl 0) o
  have ll := lv_len top bs
  have ol := og_len (lv top bs)
  have wl := wn_len h0 o
  have d1 := dp_le bs 0
  have mi := imin_le top (dp 0 bs)
  have mp : 0 ≤ imin top (dp 0 bs) := by rw [imin_def]; split <;> omega
  have e1 : atI (0 :: hs 0 bs) (-(1 : Int)) = some (dp 0 bs) := by
    rw [lst_at (0 :: hs 0 bs) 0 (by simp)]
    exact congrArg some (lst_hs bs 0)
  have ab : m_levels_above (0 :: hs 0 bs) top = some (lv top bs) := by
    rw [above_ok _ top (by simp [hs_len]; omega), lv_map top h0]
  have at_ : m_word_numbers_at (0 :: hs 0 bs) top = some (wn top bs) := by
    unfold m_word_numbers_at
    rw [to_bind ab, to_bind (open_of_ok (lv_lev h0 bs) (by unfold lv; simp) (by omega)), chk_bind (line_le (by omega)).2, to_bind (comp_map (f := m_word_numbers_at_c1 top) (fun h => h + top - 1) _ fun x _ => rfl), to_bind e1]
    rw [chk_bind (show Z.CRepL ([(0 : Int)]).length (imin top (dp 0 bs)) from ⟨by omega, by omega, by rw [List.length_singleton, sl]; omega⟩), repL_one]
    rw [chk_bind (by rw [List.length_map, List.length_replicate]; exact (line_le (by omega)).1)]
    rfl
  unfold m_word_numbers
  rw [to_bind (checked_ok o hl), to_bind (top_ok h0 h1), to_bind at_]
theorem cnt_shift (s top : Int) : ∀ l : List Int, ((((l.map (fun h => h + top - 1)).filterMap fun n => if s ≤ n then some n else none).length : Nat) : Int) = cg (s - top) l
  | [] => rfl
  | h :: r => by
    have ih := cnt_shift s top r
    rw [List.map_cons, List.filterMap_cons]
    show _ = (if s - top < h then (1 : Int) else 0) + cg (s - top) r
    by_cases q : s ≤ h + top - 1
    · rw [if_pos q, if_pos (by omega), ← ih]; simp; omega
    · rw [if_neg q, if_neg (by omega), ← ih]; simp
theorem cnt_zero {s : Int} (hs : 1 ≤ s) : ∀ k : Nat, (List.replicate k (0 : Int)).filterMap (fun n => if s ≤ n then some n else none) = []
  | 0 => rfl
  | k + 1 => by rw [List.replicate_succ, List.filterMap_cons, if_neg (by omega)]; exact cnt_zero hs k
theorem wn_count {s top : Int} (hs : 1 ≤ s) (bs : List Bool) : ((((wn top bs).filterMap fun n => if s ≤ n then some n else none).length : Nat) : Int) = cg (s - top) (og (lv top bs)) := by
  unfold wn
  rw [List.filterMap_append, cnt_zero hs, List.append_nil, cnt_shift]
theorem steps_zero : ∀ k : Nat, ∀ p ∈ (List.replicate k (0 : Int)).zip (List.replicate k (0 : Int)).tail, p.1 + p.2 = 0
  | 0, p, hp => by cases hp
  | k + 1, p, hp => by
    have m1 := (List.of_mem_zip hp).1
    have m2 := List.mem_of_mem_tail (List.of_mem_zip hp).2
    rw [List.eq_of_mem_replicate m1, List.eq_of_mem_replicate m2]; rfl
theorem steps_fall {top : Int} (h0 : 0 ≤ top) {k : Nat} (hk : 0 < k → 1 ≤ top) : ∀ {l : List Int}, Falls l → (∀ h ∈ l, 1 ≤ h) → ∀ p ∈ (l.map (fun h => h + top - 1) ++ List.replicate k 0).zip (l.map (fun h => h + top - 1) ++ List.replicate k 0).tail, p.2 < p.1 ∨ p.1 + p.2 = 0
  | [], _, _, p, hp => .inr (steps_zero k p hp)
  | [x], _, h1, p, hp => by
    cases k with
    | zero => cases hp
    | succ k =>
      have := hk (by omega)
      have hx := h1 x List.mem_cons_self
      rw [List.replicate_succ] at hp
      rcases List.mem_cons.mp hp with e | e
      · subst e; left; show 0 < x + top - 1; omega
      · right; exact steps_zero (k + 1) p (by rw [List.replicate_succ]; exact e)
  | x :: y :: r, hf, h1, p, hp => by
    rcases List.mem_cons.mp hp with e | e
    · subst e; left; have := hf.1; show y + top - 1 < x + top - 1; omega
    · exact steps_fall h0 hk (l := y :: r) hf.2 (fun h hh => h1 h (List.mem_cons_of_mem _ hh)) p e
theorem wn_steps {top : Int} (h0 : 0 ≤ top) (bs : List Bool) : ∀ p ∈ (wn top bs).zip (wn top bs).tail, p.2 < p.1 ∨ p.1 + p.2 = 0 := by
  refine steps_fall h0 (fun hk => ?_) (og_falls _) fun h hh => (og_bound h0 bs h hh).1
  have mi := imin_le top (dp 0 bs)
  omega
theorem pair_fall {top : Int} {k : Nat} (h0 : 0 ≤ top) : ∀ {l : List Int}, Falls l → (∀ h ∈ l, 1 ≤ h) → (l.map (fun h => h + top - 1) ++ List.replicate k 0).Pairwise (fun a b => b ≤ a)
  | [], _, _ => by
    rw [List.map_nil, List.nil_append]
    exact List.pairwise_replicate.mpr (.inr (Int.le_refl 0))
  | x :: r, hf, h1 => by
    rw [List.map_cons, List.cons_append, List.pairwise_cons]
    refine ⟨fun y hy => ?_, pair_fall h0 (falls_tail hf) fun h hh => h1 h (List.mem_cons_of_mem _ hh)⟩
    have hx := h1 x List.mem_cons_self
    rcases List.mem_append.mp hy with z | z
    · obtain ⟨h, hh, rfl⟩ := List.mem_map.mp z
      have := falls_head hf h hh
      omega
    · rw [List.eq_of_mem_replicate z]; omega
theorem wn_sorted {top : Int} (h0 : 0 ≤ top) (bs : List Bool) : Z.sortI (wn top bs) = (wn top bs).reverse := by
  refine (sortI_of (List.reverse_perm _) ?_).symm
  rw [List.pairwise_reverse]
  exact pair_fall h0 (og_falls _) fun h hh => (og_bound h0 bs h hh).1
end Zm
/-! Greatest and least; going straight down and up behind a trace; inputs of the laws. -/
namespace Zm
open PySem PySem.Spec PyProof.Rows L2 Z
theorem lmax_mem {l : List Int} (h : l ≠ []) : Z.lmax l ∈ l ∧ ∀ y ∈ l, y ≤ Z.lmax l := by
  match l, h with
  | x :: r, _ =>
    obtain ⟨⟨a, b⟩, c⟩ := foldmax r x
    constructor
    · rcases c with e | e
      · show r.foldl _ x ∈ _; rw [e]; exact List.mem_cons_self
      · exact List.mem_cons_of_mem _ e
    · intro y hy
      rcases List.mem_cons.mp hy with e | e
      · rw [e]; exact a
      · exact b y e
theorem lmin_mem {l : List Int} (h : l ≠ []) : Z.lmin l ∈ l ∧ ∀ y ∈ l, Z.lmin l ≤ y := by
  match l, h with
  | x :: r, _ =>
    obtain ⟨⟨a, b⟩, c⟩ := foldmin r x
    constructor
    · rcases c with e | e
      · show r.foldl _ x ∈ _; rw [e]; exact List.mem_cons_self
      · exact List.mem_cons_of_mem _ e
    · intro y hy
      rcases List.mem_cons.mp hy with e | e
      · rw [e]; exact a
      · exact b y e
theorem down_df {reg top : Int} (h0 : 0 ≤ top) (h1 : top ≤ reg) : ∀ (k : Nat) (d a : Int), Pl reg top d a → (k : Int) ≤ d → ∀ y ∈ df a (lz reg top a (hs d (List.replicate k false))), -1 ≤ y ∧ y ≤ 0
  | 0, _, _, _, _, y, hy => by cases hy
  | k + 1, d, a, p, hk, y, hy => by
    obtain ⟨p1, p2, p3⟩ := id p
    rw [List.replicate_succ] at hy
    have p' := nx_pl (d := d + dl false) h0 h1 p3 (reg := reg)
    have e : d + dl false = d - 1 := rfl
    rcases List.mem_cons.mp hy with z | z
    · rw [z]
      show -1 ≤ nx reg top a (d + dl false) - a ∧ nx reg top a (d + dl false) - a ≤ 0
      rw [e]
      unfold nx
      by_cases q : 0 < a
      · have := p2 q
        (repeat' split) <;> omega
      · (repeat' split) <;> omega
    · exact down_df h0 h1 k (d + dl false) _ p' (by omega) y z
theorem up_df {reg top : Int} (h0 : 0 ≤ top) (h1 : top ≤ reg) : ∀ (k : Nat) (d a : Int), Pl reg top d a → (∀ y ∈ df a (lz reg top a (hs d (List.replicate k true))), 0 ≤ y) ∧ lst a (lz reg top a (hs d (List.replicate k true))) = imax a (d + k - reg)
  | 0, d, a, p => by
    obtain ⟨p1, p2, p3⟩ := p
    refine ⟨(fun y hy => by cases hy), ?_⟩
    show a = imax a (d + 0 - reg)
    rw [imax_of' (by omega)]
  | k + 1, d, a, p => by
    obtain ⟨p1, p2, p3⟩ := id p
    have p' := nx_pl (d := d + dl true) h0 h1 p3 (reg := reg)
    have e : d + dl true = d + 1 := rfl
    have en : nx reg top a (d + 1) = imax a (d + 1 - reg) := by
      unfold nx
      rw [imax_def]
      by_cases q : 0 < a
      · have := p2 q
        (repeat' split) <;> omega
      · (repeat' split) <;> omega
    obtain ⟨i1, i2⟩ := up_df h0 h1 k (d + dl true) (nx reg top a (d + dl true)) p'
    rw [List.replicate_succ]
    constructor
    · intro y hy
      rcases List.mem_cons.mp hy with z | z
      · rw [z]
        show 0 ≤ nx reg top a (d + dl true) - a
        rw [e, en, imax_def]; split <;> omega
      · exact i1 y z
    · refine (show _ = _ from i2).trans ?_
      rw [e, en]
      simp only [imax_def]
      (repeat' split) <;> omega
theorem la_zero {reg top : Int} (h0 : 0 ≤ top) (h1 : top ≤ reg) {bs : List Bool} (e : dp 0 bs = 0) : la reg top bs = 0 := by
  obtain ⟨p1, p2, p3⟩ := la_pl (reg := reg) (top := top) h0 h1 bs
  rw [e] at p1 p2
  by_cases q : 0 < la reg top bs
  · have := p2 q; omega
  · omega
theorem inside_ok {reg top : Int} (m : Mach reg top) (h1 : top ≤ 1000) {bs : List Bool} (o : ok 0 bs) (hl : bs.length ≤ 1000) : m__law_inside (tx bs) reg top = some (la reg top bs) := by
  obtain ⟨m1, m2, m3, m4⟩ := id m
  have wl := wn_len m3 o
  have d1 := dp_le bs 0
  unfold m__law_inside
  rw [to_bind (word_numbers_ok o hl m3 h1), chk_bind (line_le (by omega)).2, to_bind (comp_filter (f := m__law_inside_c1 reg) (fun n => if reg ≤ n then some n else none) _ fun x _ => by
    unfold m__law_inside_c1
    by_cases q : reg ≤ x
    · rw [if_pos (decide_eq_true q), if_pos q]
    · rw [if_neg (by simpa using q), if_neg q]), wn_count m1, la_eq m]
theorem pick2 {script : List Int} {R : Type} (a b : Int) (K : Int → Option R) : ∃ v, (v = a ∨ v = b) ∧ (Z.chk (Z.CEq (PyData.list (script.map PyData.int)) (PyData.list (([] : List Int).map PyData.int))) >>= fun _ => atI ([a, b]) (if (!PyData.eqv (PyData.list (script.map PyData.int)) (PyData.list (([] : List Int).map PyData.int))) = true then (1 : Int) else 0) >>= K) = K v := by
  rw [chk_bind (eq_ints _ _)]
  generalize PyData.eqv (PyData.list (script.map PyData.int)) (PyData.list (([] : List Int).map PyData.int)) = e
  cases e
  · exact ⟨b, .inr rfl, rfl⟩
  · exact ⟨a, .inl rfl, rfl⟩
theorem flag (script : List Int) (c : Bool) : ∃ b : Bool, (if c = true then Z.chk (Z.CEq (PyData.list (script.map PyData.int)) (PyData.list (([] : List Int).map PyData.int))) >>= fun _ => some (!PyData.eqv (PyData.list (script.map PyData.int)) (PyData.list (([] : List Int).map PyData.int))) else some false) = some b := by
  cases c
  · exact ⟨false, rfl⟩
  · rw [if_pos rfl, chk_bind (eq_ints _ _)]; exact ⟨_, rfl⟩
theorem size_ok {n c : Int} {s : List Int} (b : Bool) (h : Src n s) (hn : n ≤ 10 ^ 8) (c0 : 0 < c) (c1 : c ≤ 1000) : ∃ st : Int × List Int, (if b = true then some ((1000 : Int), s) else m__law_draw s c >>= fun r => some (r.1, r.2)) = some st ∧ 0 ≤ st.1 ∧ st.1 ≤ 1000 ∧ Src (n + 1) st.2 := by
  cases b
  · obtain ⟨r, s', e, r0, r1, h1⟩ := draw_ok h (by omega) c0 (by omega)
    exact ⟨(r, s'), by rw [if_neg (by decide), to_bind e], r0, by show r ≤ 1000; omega, h1⟩
  · exact ⟨(1000, s), rfl, by show (0 : Int) ≤ 1000; decide, by show (1000 : Int) ≤ 1000; decide, h.up (by omega)⟩
end Zm
/-! Plans in groups: the program's common_numbers, plan_of_groups, plan_in_blocks. -/
namespace Zm
open PySem PySem.Spec PyProof.Rows L2 Z
theorem cut_mid {α : Type} (l : List α) {i j : Nat} (h1 : i ≤ j) (h2 : j ≤ l.length) : Z.cutL l (some (i : Int)) (some (j : Int)) = (l.drop i).take (j - i) := by
  unfold Z.cutL
  rw [show HT.sIx l.length 0 (some (i : Int)) = min i l.length from HT.sIx_nat _ _ _, show HT.sIx l.length l.length (some (j : Int)) = min j l.length from HT.sIx_nat _ _ _, show min i l.length = i by omega, show min j l.length = j by omega]
abbrev en (g : Int) (x : Int) : Int × Int := (imax 0 (x - g), x)
abbrev cm (g : Int) (G : List Int) : Int × Int := (glo g G, ghi G)
theorem part {α : Type} {S G r : List α} {i : Nat} (hn : G ≠ []) (h : S.drop i = G ++ r) : Z.cutL S (some (i : Int)) (some ((i : Int) + (G.length : Int))) = G := by
  have e := congrArg List.length h
  rw [List.length_drop, List.length_append] at e
  have g0 : 0 < G.length := List.length_pos_iff.mpr hn
  rw [show (i : Int) + (G.length : Int) = ((i + G.length : Nat) : Int) by omega, cut_mid S (by omega) (by omega), h, show i + G.length - i = G.length by omega]
  exact List.take_left
theorem drop_on {α : Type} {S G r : List α} {i : Nat} (h : S.drop i = G ++ r) : S.drop (i + G.length) = r := by
  rw [← List.drop_drop, h]; exact List.drop_left
theorem commons_loop {g : Int} (g0 : 0 ≤ g) {S : List Int} (hS : S.length ≤ 100000) : ∀ (Gs : List (List Int)) (i : Nat) (fd : List (Int × Int)), S.drop i = Gs.flatten → (∀ G ∈ Gs, Gd g G) → fd.length + Gs.length ≤ 1000000 → loopM (m_common_numbers_b3 (S.map (en g))) (List.zip (bg (i : Int) Gs) (nd (i : Int) Gs)) fd = some (.go (fd ++ Gs.map (cm g)))
  | [], i, fd, _, _, _ => by show some (Step.go fd) = some (Step.go (fd ++ [])); rw [List.append_nil]
  | G :: r, i, fd, hd, hG, hl => by
    rw [List.length_cons] at hl
    rw [List.flatten_cons] at hd
    have Gg := hG G List.mem_cons_self
    have ih := commons_loop g0 hS r (i + G.length) (fd ++ [cm g G]) (drop_on hd) (fun K hK => hG K (List.mem_cons_of_mem _ hK)) (by simp; omega)
    rw [show ((i + G.length : Nat) : Int) = (i : Int) + (G.length : Int) by omega] at ih
    show loopM _ (((i : Int), (i : Int) + (G.length : Int)) :: List.zip (bg ((i : Int) + (G.length : Int)) r) (nd ((i : Int) + (G.length : Int)) r)) fd = _
    refine (loop_cons (s' := fd ++ [cm g G]) ?_).trans ?_
    · have pc : Z.cutL (S.map (en g)) (some (i : Int)) (some ((i : Int) + (G.length : Int))) = G.map (en g) := by
        have := part (S := S.map (en g)) (G := G.map (en g)) (r := r.flatten.map (en g)) (i := i) (by simpa using Gg.1) (by rw [← List.map_drop, hd, List.map_append])
        rw [List.length_map] at this
        exact this
      have gl : G.length ≤ 100000 := by
        have e := congrArg List.length hd
        rw [List.length_drop, List.length_append] at e
        omega
      unfold m_common_numbers_b3
      rw [pc, chk_bind (by rw [List.length_map]; exact (line_le (by omega)).2)]
      rw [to_bind (comp_map (f := m_common_numbers_c1) (fun p : Int × Int => p.1) (G.map (en g)) fun _ _ => rfl), to_bind (comp_map (f := m_common_numbers_c2) (fun p : Int × Int => p.2) (G.map (en g)) fun _ _ => rfl)]
      have np := List.length_pos_iff.mpr Gg.1
      rw [chk_bind (by show 0 < ((G.map (en g)).map _).length; rw [List.length_map, List.length_map]; exact np), chk_bind (by rw [List.length_map]; exact (line_le (by omega)).2), chk_bind (by show 0 < ((G.map (en g)).map _).length; rw [List.length_map, List.length_map]; exact np), chk_bind (line_le (by omega)).2]
      have e1 : Z.lmax ((G.map (en g)).map fun p => p.1) = glo g G := by
        cases G with
        | nil => exact absurd rfl Gg.1
        | cons x q =>
          obtain ⟨a, b⟩ := mx_in (x := x) (r := q)
          refine (lmax_of ?_ ?_).symm
          · rw [List.map_map]; exact List.mem_map.mpr ⟨_, a, rfl⟩
          · intro y hy
            rw [List.map_map] at hy
            obtain ⟨z, hz, rfl⟩ := List.mem_map.mp hy
            have := b z hz
            show imax 0 (z - g) ≤ imax 0 (_ - g)
            simp only [imax_def]; (repeat' split) <;> omega
      have e2 : Z.lmin ((G.map (en g)).map fun p => p.2) = ghi G := by
        rw [List.map_map]
        show Z.lmin (G.map fun x => x) = Z.lmin G
        rw [List.map_id']
      show some (Step.go (fd ++ [(Z.lmax ((G.map (en g)).map fun p => p.1), Z.lmin ((G.map (en g)).map fun p => p.2))])) = _
      rw [e1, e2]
    · rw [ih, List.append_assoc]; rfl
theorem clamp_eq {g a : Int} (g0 : 0 ≤ g) {G : List Int} (h : Gd g G) : imin (imax a (glo g G)) (ghi G) = gcl g a G := by
  have := h.le g0
  unfold gcl
  simp only [imax_def, imin_def]
  (repeat' split) <;> omega
theorem pog_loop {g : Int} (g0 : 0 ≤ g) : ∀ (Gs : List (List Int)) (i a : Int) (fd : List Int), (∀ G ∈ Gs, Gd g G) → fd.length + Gs.flatten.length ≤ 1000000 → ∃ a', loopM m_plan_of_groups_b1 (List.zip (bg i Gs) (List.zip (nd i Gs) (Gs.map (cm g)))) (a, fd) = some (.go (a', fd ++ pg g a Gs))
  | [], i, a, fd, _, _ => ⟨a, by show some (Step.go (a, fd)) = some (Step.go (a, fd ++ [])); rw [List.append_nil]⟩
  | G :: r, i, a, fd, hG, hl => by
    have sl : sizeLine = 16777216 := by decide
    rw [List.flatten_cons, List.length_append] at hl
    have Gg := hG G List.mem_cons_self
    obtain ⟨a', ih⟩ := pog_loop g0 r (i + G.length) (gcl g a G) (fd ++ List.replicate G.length (gcl g a G)) (fun K hK => hG K (List.mem_cons_of_mem _ hK)) (by rw [List.length_append, List.length_replicate]; omega)
    refine ⟨a', ?_⟩
    show loopM _ ((i, i + (G.length : Int), cm g G) :: List.zip (bg (i + (G.length : Int)) r) (List.zip (nd (i + (G.length : Int)) r) (r.map (cm g)))) (a, fd) = _
    refine (loop_cons (s' := (gcl g a G, fd ++ List.replicate G.length (gcl g a G))) ?_).trans ?_
    · unfold m_plan_of_groups_b1
      show (Z.chk (Z.CRepL ([(imin (imax a (glo g G)) (ghi G))]).length (i + (G.length : Int) - i)) >>= fun _ => Z.chk (fd.length + (Z.repL ([(imin (imax a (glo g G)) (ghi G))]) (i + (G.length : Int) - i)).length ≤ sizeLine) >>= fun _ => some (Step.go (imin (imax a (glo g G)) (ghi G), fd ++ Z.repL ([(imin (imax a (glo g G)) (ghi G))]) (i + (G.length : Int) - i)))) = _
      rw [clamp_eq g0 Gg, repL_one, show (i + (G.length : Int) - i) = (G.length : Int) by omega, chk_bind (show Z.CRepL ([gcl g a G]).length (G.length : Int) from ⟨by omega, by omega, by rw [List.length_singleton, sl]; omega⟩), chk_bind (by rw [List.length_replicate, sl]; omega)]
      rfl
    · rw [ih, List.append_assoc]; rfl
theorem bg_zip : ∀ (Gs : List (List Int)) (i : Int), (∀ G ∈ Gs, G ≠ []) → (∀ p ∈ List.zip (bg i Gs) (bg i Gs).tail, p.1 < p.2) ∧ ∀ x ∈ bg i Gs, i ≤ x ∧ x < i + (Gs.flatten.length : Int)
  | [], _, _ => ⟨(fun p hp => by cases hp), (fun x hx => by cases hx)⟩
  | [G], i, h => by
    have np := List.length_pos_iff.mpr (h G List.mem_cons_self)
    refine ⟨(fun p hp => by cases hp), fun x hx => ?_⟩
    rw [List.mem_singleton.mp hx]
    simp
    omega
  | G :: K :: r, i, h => by
    have np := List.length_pos_iff.mpr (h G List.mem_cons_self)
    obtain ⟨a, b⟩ := bg_zip (K :: r) (i + G.length) fun X hX => h X (List.mem_cons_of_mem _ hX)
    rw [List.flatten_cons, List.length_append]
    refine ⟨fun p hp => ?_, fun x hx => ?_⟩
    · have hp' : p ∈ (i, i + (G.length : Int)) :: List.zip (bg (i + (G.length : Int)) (K :: r)) (bg (i + (G.length : Int)) (K :: r)).tail := hp
      rcases List.mem_cons.mp hp' with e | e
      · rw [e]; show i < i + (G.length : Int); omega
      · exact a p e
    · have hx' : x ∈ i :: bg (i + (G.length : Int)) (K :: r) := hx
      rcases List.mem_cons.mp hx' with e | e
      · rw [e]; omega
      · have := b x e; omega
theorem cut_one (x : Int) (l : List Int) : Z.cutL (x :: l) none (some (1 : Int)) = [x] := by
  unfold Z.cutL
  rw [HT.sIx_none]
  have e : HT.sIx (x :: l).length (x :: l).length (some (1 : Int)) = min 1 (x :: l).length := HT.sIx_nat _ _ 1
  rw [e, List.length_cons, show min 1 (l.length + 1) - 0 = 1 by omega]
  rfl
theorem cut_drop (l : List Int) : Z.cutL l (some (1 : Int)) none = l.drop 1 := cut_from l 1
/-- what holds of groups of a trace's levels -/
structure Grp (g : Int) (S : List Int) (Gs : List (List Int)) : Prop where
  flat : Gs.flatten = S
  good : ∀ G ∈ Gs, Gd g G
theorem Grp.cons {g : Int} {S : List Int} {Gs : List (List Int)} (h : Grp g S Gs) (hz : S = 0 :: S.tail) : ∃ q r, Gs = (0 :: q) :: r := by
  cases Gs with
  | nil => have := h.flat; rw [hz] at this; simp at this
  | cons G r =>
    have gn := (h.good G List.mem_cons_self).1
    cases G with
    | nil => exact absurd rfl gn
    | cons x q =>
      have := h.flat
      rw [hz] at this
      simp only [List.flatten_cons, List.cons_append, List.cons.injEq] at this
      rw [this.1]
      exact ⟨q, r, rfl⟩
theorem Grp.ends {g : Int} {S : List Int} {Gs : List (List Int)} (h : Grp g S Gs) (hz : S = 0 :: S.tail) : (bg 0 Gs).drop 1 ++ [((S.length : Nat) : Int)] = nd 0 Gs := by
  obtain ⟨q, r, rfl⟩ := h.cons hz
  rw [bg_nd, h.flat, Int.zero_add, Int.zero_add]
  show bg (0 + (((0 :: q : List Int).length : Nat) : Int)) r ++ _ = _
  rw [Int.zero_add]
theorem Grp.len {g : Int} {S : List Int} {Gs : List (List Int)} (h : Grp g S Gs) : Gs.length ≤ S.length := by
  rw [← h.flat]
  have : ∀ Gs : List (List Int), (∀ G ∈ Gs, Gd g G) → Gs.length ≤ Gs.flatten.length := fun Gs => by
    induction Gs with
    | nil => intro _; exact Nat.le_refl 0
    | cons G q ih =>
      intro h
      have := ih fun K hK => h K (List.mem_cons_of_mem _ hK)
      have := List.length_pos_iff.mpr (h G List.mem_cons_self).1
      rw [List.flatten_cons, List.length_append, List.length_cons]; omega
  exact this Gs h.good
theorem check_begins_ok {g : Int} {S : List Int} {Gs : List (List Int)} (h : Grp g S Gs) (hz : S = 0 :: S.tail) (hS : S.length ≤ 100000) : m_check_begins ((S.length : Int) - 1) (bg 0 Gs) = some () := by
  obtain ⟨q, r, e⟩ := h.cons hz
  have ln := h.len
  obtain ⟨z1, z2⟩ := bg_zip Gs 0 fun G hG => (h.good G hG).1
  have bl := (bg_len Gs 0).1
  have hb : bg 0 Gs = 0 :: (bg 0 Gs).tail := by rw [e]; rfl
  have nn : bg 0 Gs ≠ [] := by rw [hb]; simp
  have la := lst_at (bg 0 Gs) 0 nn
  have lm : lst 0 (bg 0 Gs) ∈ bg 0 Gs := by
    have := lst_mem (bg 0 Gs) 0
    rcases List.mem_cons.mp this with w | w
    · rw [w, hb]; exact List.mem_cons_self
    · exact w
  have bd := z2 _ lm
  rw [h.flat] at bd
  unfold m_check_begins
  refine (to_bind (a := false) ?_ _).trans ?_
  · rw [to_bind (ints_ok (l := bg 0 Gs) (by omega)), if_neg (by decide)]
    refine (to_bind (a := false) ?_ _).trans rfl
    rw [chk_bind (eq_ints _ _)]
    refine (if_neg ?_).trans ?_
    · rw [hb, cut_one, eqv_self (PySem.W.ke_shaped_ints _)]; decide
    rw [to_bind la]
    exact congrArg some (decide_eq_false (by omega))
  refine (if_neg (by decide)).trans ?_
  rw [cut_drop, List.drop_one, to_bind (unit_loop (f := m_check_begins_b1) fun x hx => by
    have := z1 x hx
    unfold m_check_begins_b1
    exact if_neg (by simp only [decide_eq_true_eq]; omega)), after_go]
theorem fits_loop {g : Int} (g0 : 0 ≤ g) : ∀ (Gs : List (List Int)) (i : Int), (∀ G ∈ Gs, Gd g G) → loopM m_plan_in_blocks_b1 (enumFrom i (Gs.map (cm g))) () = some (.go ())
  | [], _, _ => rfl
  | G :: r, i, h => by
    have := (h G List.mem_cons_self).le g0
    show loopM _ ((i, cm g G) :: enumFrom (i + 1) (r.map (cm g))) () = _
    refine (loop_cons (s' := ()) ?_).trans (fits_loop g0 r (i + 1) fun K hK => h K (List.mem_cons_of_mem _ hK))
    unfold m_plan_in_blocks_b1
    exact if_neg (by simp only [decide_eq_true_eq]; show ¬ ghi G < glo g G; omega)
theorem lv_head (held : Int) (h0 : 0 ≤ held) (bs : List Bool) : lv held bs = 0 :: (lv held bs).tail := rfl
theorem plan_ok {bs : List Bool} {seats held : Int} {Gs : List (List Int)} (o : ok 0 bs) (hl : bs.length ≤ 1000) (m : Mach seats held) (h : Grp (seats - held) (lv held bs) Gs) : m_plan_in_blocks (tx bs) seats held (bg 0 Gs) = some (pg (seats - held) 0 Gs) := by
  have sl : sizeLine = 16777216 := by decide
  obtain ⟨m1, m2, m3, m4⟩ := id m
  have ll := lv_len held bs
  have hz := lv_head held m3 bs
  have g0 : 0 ≤ seats - held := by omega
  have em : (0 :: hs 0 bs).map (fun d => (imax 0 (d - seats), imax 0 (d - held))) = (lv held bs).map (en (seats - held)) := by
    rw [lv_map held m3, List.map_map]
    refine List.map_congr_left fun d _ => ?_
    show (imax 0 (d - seats), imax 0 (d - held)) = (imax 0 (imax 0 (d - held) - (seats - held)), imax 0 (d - held))
    have : imax 0 (d - seats) = imax 0 (imax 0 (d - held) - (seats - held)) := by simp only [imax_def]; (repeat' split) <;> omega
    rw [this]
  have cb := check_begins_ok h hz (by omega)
  rw [show ((lv held bs).length : Int) - 1 = (bs.length : Int) by omega] at cb
  have ln := h.len
  have bl := (bg_len Gs 0).1
  have cl := commons_loop g0 (S := lv held bs) (by omega) Gs 0 [] (by rw [List.drop_zero, h.flat]) h.good (by simp; omega)
  obtain ⟨a', pl⟩ := pog_loop g0 Gs 0 0 [] h.good (by rw [h.flat]; simp; omega)
  have en' := h.ends hz
  have c1 : (Z.cutL (bg 0 Gs) (some (1 : Int)) none).length + ([((((lv held bs).map (en (seats - held))).length : Nat) : Int)]).length ≤ sizeLine := by
    rw [cut_drop, List.length_drop, List.length_singleton, sl]; omega
  have lm : (((lv held bs).map (en (seats - held))).length : Nat) = (lv held bs).length := List.length_map _
  unfold m_plan_in_blocks
  rw [to_bind (ends_ok o hl m), em, chk_bind (by rw [tx_len, sl]; omega), tx_len, to_bind cb]
  refine (to_bind (a := Gs.map (cm (seats - held))) ?_ _).trans ?_
  · unfold m_common_numbers
    rw [chk_bind c1, lm, cut_drop, en']
    refine (to_bind cl _).trans ?_
    rw [after_go]
    rfl
  refine (to_bind (fits_loop g0 Gs 0 h.good) _).trans ?_
  rw [after_go]
  refine (to_bind (a := pg (seats - held) 0 Gs) ?_ _).trans rfl
  unfold m_plan_of_groups
  rw [chk_bind c1, lm, cut_drop, en']
  refine (to_bind pl _).trans ?_
  rw [after_go]
  rfl
theorem pg_len {g : Int} : ∀ (Gs : List (List Int)) (a : Int), (pg g a Gs).length = Gs.flatten.length
  | [], _ => rfl
  | G :: r, a => by
    show (List.replicate G.length (gcl g a G) ++ pg g (gcl g a G) r).length = _
    rw [List.length_append, List.length_replicate, pg_len r, List.flatten_cons, List.length_append]
theorem pg_bound {g B : Int} (g0 : 0 ≤ g) : ∀ (Gs : List (List Int)) (a : Int), (∀ G ∈ Gs, Gd g G) → (∀ G ∈ Gs, ∀ x ∈ G, x ≤ B) → ∀ x ∈ pg g a Gs, 0 ≤ x ∧ x ≤ B
  | [], _, _, _, x, hx => by cases hx
  | G :: r, a, h, hB, x, hx => by
    have Gg := h G List.mem_cons_self
    have le := Gg.le g0
    have ub : ghi G ≤ B := by
      cases G with
      | nil => exact absurd rfl Gg.1
      | cons y q => exact hB _ List.mem_cons_self _ (mn_in (x := y) (r := q)).1
    have c : 0 ≤ gcl g a G ∧ gcl g a G ≤ B := by
      unfold gcl
      simp only [imax_def, imin_def]
      (repeat' split) <;> omega
    have hx' : x ∈ List.replicate G.length (gcl g a G) ++ pg g (gcl g a G) r := hx
    rcases List.mem_append.mp hx' with z | z
    · rw [(List.mem_replicate.mp z).2]; exact c
    · exact pg_bound g0 r _ (fun K hK => h K (List.mem_cons_of_mem _ hK)) (fun K hK => hB K (List.mem_cons_of_mem _ hK)) x z
theorem pg_zero {g : Int} (g0 : 0 ≤ g) {q : List Int} {r : List (List Int)} (h : Gd g (0 :: q)) : pg g 0 ((0 :: q) :: r) = 0 :: (List.replicate q.length 0 ++ pg g 0 r) := by
  have le := h.le g0
  have u := (mn_in (x := 0) (r := q)).2 0 List.mem_cons_self
  have c : gcl g 0 (0 :: q) = 0 := by
    change ghi (0 :: q) ≤ 0 at u
    unfold gcl
    simp only [imax_def, imin_def]
    (repeat' split) <;> omega
  show List.replicate (q.length + 1) (gcl g 0 (0 :: q)) ++ pg g (gcl g 0 (0 :: q)) r = _
  rw [c]
  rfl
theorem two_sh {a b : Int} (ha : 0 ≤ a ∧ a ≤ 10 ^ 18) (hb : 0 ≤ b ∧ b ≤ 10 ^ 18) : Sh 1 47 (.tuple [.int a, .int b]) :=
  Sh.tuple (m := 2) (n := 20) (k := 0) (fun d hd => by
    rcases List.mem_cons.mp hd with e | e
    · subst e; exact Sh.int (by omega) ha.2
    · rw [List.mem_singleton.mp e]; exact Sh.int (by omega) hb.2) (by simp)
end Zm
/-! The greedy blocks as groups; no plan has fewer traps; stretches that show them. -/
namespace Zm
open PySem PySem.Spec PyProof.Rows L2 Z
/-- the blocks, each as long as possible; cur is the present one -/
def gs (r : Int) : List Int → List Int → List (List Int)
  | cur, [] => [cur]
  | cur, x :: l => if r < imax (Z.lmax cur) x - imin (Z.lmin cur) x then cur :: gs r [x] l else gs r (cur ++ [x]) l
def Mx (r : Int) : List (List Int) → Prop
  | G :: K :: R => r < imax (Z.lmax G) (K.headD 0) - imin (Z.lmin G) (K.headD 0) ∧ Mx r (K :: R)
  | _ => True
theorem lmax_one (x : Int) : Z.lmax [x] = x := rfl
theorem lmin_one (x : Int) : Z.lmin [x] = x := rfl
theorem lm_snoc {c : List Int} (h : c ≠ []) (x : Int) : Z.lmax (c ++ [x]) = imax (Z.lmax c) x ∧ Z.lmin (c ++ [x]) = imin (Z.lmin c) x := by
  match c, h with
  | y :: r, _ => exact ⟨mx_snoc y x r, mn_snoc y x r⟩
theorem gs_flat (r : Int) : ∀ (l cur : List Int), (gs r cur l).flatten = cur ++ l
  | [], cur => by show [cur].flatten = _; simp
  | x :: l, cur => by
    unfold gs
    split
    · rw [List.flatten_cons, gs_flat r l [x]]; rfl
    · rw [gs_flat r l, List.append_assoc]; rfl
theorem gs_head (r : Int) : ∀ (l cur : List Int), ∃ G R, gs r cur l = (cur ++ G) :: R
  | [], cur => ⟨[], [], by show [cur] = _; rw [List.append_nil]⟩
  | x :: l, cur => by
    unfold gs
    split
    · exact ⟨[], gs r [x] l, by rw [List.append_nil]⟩
    · obtain ⟨G, R, e⟩ := gs_head r l (cur ++ [x])
      exact ⟨x :: G, R, by rw [e, List.append_assoc]; rfl⟩
theorem gd_snoc {r x : Int} {c : List Int} (h : Gd r c) (hx : 0 ≤ x) (hs : ¬ r < imax (Z.lmax c) x - imin (Z.lmin c) x) : Gd r (c ++ [x]) := by
  obtain ⟨hn, h⟩ := h
  obtain ⟨m1, m2⟩ := lmax_mem hn
  obtain ⟨n1, n2⟩ := lmin_mem hn
  refine ⟨by simp, fun y hy => ?_⟩
  have key : ∀ z ∈ c ++ [x], imin (Z.lmin c) x ≤ z ∧ z ≤ imax (Z.lmax c) x := fun z hz => by
    rw [imin_def, imax_def]
    rcases List.mem_append.mp hz with w | w
    · have := m2 z w
      have := n2 z w
      constructor <;> split <;> omega
    · rw [List.mem_singleton.mp w]
      constructor <;> split <;> omega
  refine ⟨?_, fun z hz => ?_⟩
  · rcases List.mem_append.mp hy with w | w
    · exact (h y w).1
    · rw [List.mem_singleton.mp w]; exact hx
  · have := key y hy
    have := key z hz
    omega
theorem gs_good {r : Int} (r0 : 0 ≤ r) : ∀ (l cur : List Int), Gd r cur → (∀ x ∈ l, 0 ≤ x) → ∀ G ∈ gs r cur l, Gd r G
  | [], cur, h, _, G, hG => by rw [List.mem_singleton.mp hG]; exact h
  | x :: l, cur, h, hx, G, hG => by
    have x0 := hx x List.mem_cons_self
    have hl : ∀ y ∈ l, 0 ≤ y := fun y hy => hx y (List.mem_cons_of_mem _ hy)
    unfold gs at hG
    by_cases q : r < imax (Z.lmax cur) x - imin (Z.lmin cur) x
    · rw [if_pos q] at hG
      rcases List.mem_cons.mp hG with e | e
      · rw [e]; exact h
      · refine gs_good r0 l [x] ⟨by simp, fun y hy => ?_⟩ hl G e
        rw [List.mem_singleton.mp hy]
        exact ⟨x0, fun z hz => by rw [List.mem_singleton.mp hz]; omega⟩
    · rw [if_neg q] at hG
      exact gs_good r0 l (cur ++ [x]) (gd_snoc h x0 q) hl G hG
theorem gs_len (r : Int) : ∀ (l cur : List Int) (c : Int), cur ≠ [] → ((gs r cur l).length : Int) = 1 + ((l.foldl (gstep r) (c, Z.lmin cur, Z.lmax cur)).1 - c)
  | [], cur, c, _ => by show ((1 : Nat) : Int) = 1 + (c - c); omega
  | x :: l, cur, c, h => by
    rw [List.foldl_cons]
    unfold gs
    by_cases q : r < imax (Z.lmax cur) x - imin (Z.lmin cur) x
    · have e : gstep r (c, Z.lmin cur, Z.lmax cur) x = (c + 1, Z.lmin [x], Z.lmax [x]) := by unfold gstep; rw [if_pos q]; rfl
      rw [if_pos q, e, List.length_cons]
      have := gs_len r l [x] (c + 1) (by simp)
      omega
    · have e : gstep r (c, Z.lmin cur, Z.lmax cur) x = (c, Z.lmin (cur ++ [x]), Z.lmax (cur ++ [x])) := by
        unfold gstep; rw [if_neg q, (lm_snoc h x).1, (lm_snoc h x).2]
      rw [if_neg q, e]
      exact gs_len r l (cur ++ [x]) c (by simp)
theorem gs_mx (r : Int) : ∀ (l cur : List Int), cur ≠ [] → Mx r (gs r cur l)
  | [], _, _ => trivial
  | x :: l, cur, h => by
    unfold gs
    by_cases q : r < imax (Z.lmax cur) x - imin (Z.lmin cur) x
    · rw [if_pos q]
      obtain ⟨G, R, e⟩ := gs_head r l [x]
      have ih := gs_mx r l [x] (by simp)
      rw [e] at ih ⊢
      exact ⟨q, ih⟩
    · rw [if_neg q]; exact gs_mx r l (cur ++ [x]) (by simp)
theorem bg_head {i : Int} {G : List Int} {R : List (List Int)} : bg i (G :: R) = i :: bg (i + G.length) R := rfl
/-- the program's begins are those of the greedy blocks -/
theorem begins_run {room : Int} (r0 : 0 ≤ room) : ∀ (l : List Int) (i : Int) (cur fd : List Int), cur ≠ [] → (∀ x ∈ l, 0 ≤ x) → 0 ≤ Z.lmin cur → 0 ≤ Z.lmax cur → fd.length + l.length ≤ 1000000 →
    ∃ a b, loopM m_begins_of_b1 (enumFrom i (l.map (en room))) (imax 0 (Z.lmax cur - room), Z.lmin cur, fd) = some (.go (a, b, fd ++ (bg (i - cur.length) (gs room cur l)).tail))
  | [], i, cur, fd, _, _, _, _, _ => ⟨_, _, by show some (Step.go (_, _, fd)) = some (Step.go (_, _, fd ++ [])); rw [List.append_nil]⟩
  | x :: l, i, cur, fd, hn, hb, l0, h0, h => by
    rw [List.length_cons] at h
    have x0 := hb x List.mem_cons_self
    have hl : ∀ y ∈ l, 0 ≤ y := fun y hy => hb y (List.mem_cons_of_mem _ hy)
    obtain ⟨s1, s2⟩ := lm_snoc hn x
    generalize hhi : Z.lmax cur = hi at *
    generalize hlo : Z.lmin cur = lo at *
    have e1 : ((if (decide (imax 0 (hi - room) < imax 0 (x - room))) = true then some (imax 0 (x - room)) else some (imax 0 (hi - room))) : Option Int) = some (imax 0 (imax hi x - room)) := by
      by_cases q : imax 0 (hi - room) < imax 0 (x - room)
      · rw [if_pos (decide_eq_true q)]; refine congrArg some ?_
        simp only [imax_def] at q ⊢; (repeat' split) <;> (repeat' split at q) <;> omega
      · rw [if_neg (by simpa using q)]; refine congrArg some ?_
        simp only [imax_def] at q ⊢; (repeat' split) <;> (repeat' split at q) <;> omega
    have e2 : ((if (decide (x < lo)) = true then some x else some lo) : Option Int) = some (imin lo x) := by
      by_cases q : x < lo
      · rw [if_pos (decide_eq_true q), imin_of' (by omega)]
      · rw [if_neg (by simpa using q), imin_of (by omega)]
    have i0 : 0 ≤ imin lo x := by simp only [imin_def]; split <;> omega
    have j0 : 0 ≤ imax hi x := by simp only [imax_def]; split <;> omega
    have br : imin lo x < imax 0 (imax hi x - room) ↔ room < imax hi x - imin lo x := by
      simp only [imax_def, imin_def] at i0 j0 ⊢; (repeat' split) <;> omega
    by_cases q : room < imax hi x - imin lo x
    · obtain ⟨a, b, e⟩ := begins_run r0 l (i + 1) [x] (fd ++ [i]) (by simp) hl x0 x0 (by simp; omega)
      refine ⟨a, b, (loop_cons (s' := (imax 0 (x - room), x, fd ++ [i])) ?_).trans (e.trans ?_)⟩
      · unfold m_begins_of_b1
        refine (to_bind e1 _).trans ?_
        refine (to_bind e2 _).trans ?_
        refine (if_pos (decide_eq_true (br.mpr q))).trans ?_
        exact chk_bind (line_le (by show fd.length ≤ _; omega)).2 _
      · have eg : gs room cur (x :: l) = cur :: gs room [x] l := by
          show (if room < imax (Z.lmax cur) x - imin (Z.lmin cur) x then _ else _) = _
          rw [hhi, hlo, if_pos q]
        obtain ⟨G, R, e'⟩ := gs_head room l [x]
        rw [eg, bg_head, e', bg_head, bg_head]
        simp only [List.tail_cons, List.length_singleton]
        rw [List.append_assoc, show i + 1 - ((1 : Nat) : Int) = i by omega, show i - (cur.length : Int) + (cur.length : Int) = i by omega]
        rfl
    · obtain ⟨a, b, e⟩ := begins_run r0 l (i + 1) (cur ++ [x]) fd (by simp) hl (by rw [s2]; exact i0) (by rw [s1]; exact j0) (by omega)
      refine ⟨a, b, (loop_cons (s' := (imax 0 (imax hi x - room), imin lo x, fd)) ?_).trans ?_⟩
      · unfold m_begins_of_b1
        refine (to_bind e1 _).trans ?_
        refine (to_bind e2 _).trans ?_
        exact if_neg (by simpa using fun z => q (br.mp z))
      · rw [s1, s2] at e
        have eg : gs room cur (x :: l) = gs room (cur ++ [x]) l := by
          show (if room < imax (Z.lmax cur) x - imin (Z.lmin cur) x then _ else _) = _
          rw [hhi, hlo, if_neg q]
        rw [eg]
        refine e.trans ?_
        rw [List.length_append, List.length_singleton, show i + 1 - ((cur.length + 1 : Nat) : Int) = i - (cur.length : Int) by omega]
/-- the greedy blocks of levels -/
def gg (r : Int) (S : List Int) : List (List Int) := gs r [0] S.tail
theorem gg_grp {r : Int} (r0 : 0 ≤ r) {S : List Int} (hz : S = 0 :: S.tail) (hb : ∀ x ∈ S, 0 ≤ x) : Grp r S (gg r S) := by
  refine ⟨?_, ?_⟩
  · unfold gg; rw [gs_flat]; exact hz.symm
  · refine gs_good r0 _ _ ⟨by simp, fun y hy => ?_⟩ fun x hx => hb x (by rw [hz]; exact List.mem_cons_of_mem _ hx)
    rw [List.mem_singleton.mp hy]
    exact ⟨Int.le_refl 0, fun z hz => by rw [List.mem_singleton.mp hz]; omega⟩
theorem gg_mx (r : Int) (S : List Int) : Mx r (gg r S) := gs_mx r _ _ (by simp)
theorem gg_len {r : Int} (r0 : 0 ≤ r) {S : List Int} (hz : S = 0 :: S.tail) : ((gg r S).length : Int) = 1 + (gr r S).1 := by
  have e := gs_len r S.tail [0] 0 (by simp)
  have g : gr r S = S.tail.foldl (gstep r) (0, Z.lmin [0], Z.lmax [0]) := by
    unfold gr
    rw [hz, List.foldl_cons, gstep_same (p := 0) (show At r (0, 0, 0) 0 from ⟨Int.le_refl 0, Int.le_refl 0, by show (0 : Int) - 0 ≤ r; omega⟩)]
    rfl
  unfold gg
  rw [e, g]; omega
theorem begins_ok {r : Int} (r0 : 0 ≤ r) {S : List Int} (hz : S = 0 :: S.tail) (hb : ∀ x ∈ S, 0 ≤ x) (hS : S.length ≤ 100000) : m_begins_of (S.map (en r)) = some (bg 0 (gg r S)) := by
  have hl : S.length = S.tail.length + 1 := by rw [hz]; rfl
  obtain ⟨a, b, e⟩ := begins_run r0 S.tail 1 [0] [0] (by simp) (fun x hx => hb x (by rw [hz]; exact List.mem_cons_of_mem _ hx)) (Int.le_refl 0) (Int.le_refl 0) (by simp; omega)
  have z0 : imax 0 (0 - r) = 0 := imax_of' (by omega)
  have e' : loopM m_begins_of_b1 (Z.enumZ (S.map (en r))) (0, 0, [0]) = some (.go (a, b, [0] ++ (bg (1 - ([(0 : Int)].length : Int)) (gs r [0] S.tail)).tail)) := by
    rw [hz, List.map_cons]
    show loopM _ ((0, en r 0) :: enumFrom 1 (S.tail.map (en r))) _ = _
    refine (loop_cons (s' := (0, 0, [0])) ?_).trans ?_
    · unfold m_begins_of_b1
      rw [show en r 0 = (0, 0) by show (imax 0 (0 - r), (0 : Int)) = _; rw [z0]]
      rfl
    · rw [← hz]
      rw [lmax_one, lmin_one, z0] at e
      exact e
  unfold m_begins_of
  have a0 : atI (S.map (en r)) (0 : Int) = some (0, 0) := by
    rw [hz, List.map_cons, show en r 0 = (0, 0) by show (imax 0 (0 - r), (0 : Int)) = _; rw [z0]]
    exact atI_nat (j := 0) rfl
  rw [to_bind a0, to_bind e', after_go]
  obtain ⟨G, R, eg⟩ := gs_head r S.tail [0]
  unfold gg
  rw [eg]
  rfl
/-- no plan has fewer traps -/
def In3 (g : Int) : List Int → List Int → Prop
  | x :: l, n :: ns => x - g ≤ n ∧ n ≤ x ∧ In3 g l ns
  | [], [] => True
  | _, _ => False
theorem traps_low {g : Int} : ∀ (l ns : List Int) (c lo hi n t : Int), In3 g l ns → c ≤ t → (t = c → hi - g ≤ n ∧ n ≤ lo) → (l.foldl (gstep g) (c, lo, hi)).1 ≤ t + tp n ns
  | [], [], c, lo, hi, n, t, _, h, _ => by show c ≤ t + 0; omega
  | x :: l, m :: ns, c, lo, hi, n, t, ⟨a, b, r⟩, h, k => by
    rw [List.foldl_cons]
    show _ ≤ t + ((if (!decide (m - n = (0 : Int))) = true then (1 : Int) else 0) + tp m ns)
    by_cases q : g < imax hi x - imin lo x
    · have e : gstep g (c, lo, hi) x = (c + 1, x, x) := by unfold gstep; rw [if_pos q]
      rw [e]
      by_cases z : m - n = 0
      · rw [if_neg (by simp [z])]
        have tc : t ≠ c := fun w => by
          obtain ⟨k1, k2⟩ := k w
          rw [imax_def, imin_def] at q
          split at q <;> split at q <;> omega
        have := traps_low l ns (c + 1) x x m t r (by omega) (fun _ => ⟨a, b⟩)
        omega
      · rw [if_pos (by simp [z])]
        have := traps_low l ns (c + 1) x x m (t + 1) r (by omega) (fun _ => ⟨a, b⟩)
        omega
    · have e : gstep g (c, lo, hi) x = (c, imin lo x, imax hi x) := by unfold gstep; rw [if_neg q]
      rw [e]
      by_cases z : m - n = 0
      · rw [if_neg (by simp [z])]
        have := traps_low l ns c (imin lo x) (imax hi x) m t r h (fun w => by
          obtain ⟨k1, k2⟩ := k w
          rw [imax_def, imin_def]
          constructor <;> split <;> omega)
        omega
      · rw [if_pos (by simp [z])]
        have := traps_low l ns c (imin lo x) (imax hi x) m (t + 1) r (by omega) (fun w => by omega)
        omega
theorem pl_in3 {reg top : Int} (h1 : top ≤ reg) : ∀ {ds ns : List Int}, Pl2 reg top ds ns → In3 (reg - top) (ds.map fun d => imax 0 (d - top)) ns
  | [], [], _ => trivial
  | d :: ds, n :: ns, h => by
    have := (pl_iff h1).mp h.1
    refine ⟨?_, this.2, pl_in3 h1 h.2⟩
    show imax 0 (d - top) - (reg - top) ≤ n
    have e := imax_def 0 (imax 0 (d - top) - (reg - top))
    split at e <;> omega
theorem plan_traps {reg top : Int} (h0 : 0 ≤ top) (h1 : top ≤ reg) {bs : List Bool} {ns : List Int} (h : Pl2 reg top (0 :: hs 0 bs) ns) : (gr (reg - top) (lv top bs)).1 ≤ tp 0 ns := by
  have := pl_in3 h1 h
  rw [← lv_map top h0] at this
  have := traps_low (lv top bs) ns 0 0 0 0 0 this (Int.le_refl 0) fun _ => ⟨by omega, Int.le_refl 0⟩
  unfold gr
  omega
theorem gcl_in {g a : Int} (g0 : 0 ≤ g) {G : List Int} (h : Gd g G) : glo g G ≤ gcl g a G ∧ gcl g a G ≤ ghi G := by
  have := h.le g0
  unfold gcl
  simp only [imax_def, imin_def]
  (repeat' split) <;> omega
/-- the best plan has a trap from each block to the next -/
theorem pg_tp {g : Int} (g0 : 0 ≤ g) : ∀ (R : List (List Int)) (G : List Int) (a : Int), (∀ K ∈ G :: R, Gd g K) → Mx g (G :: R) → tp a (pg g a (G :: R)) = (if gcl g a G = a then 0 else 1) + R.length
  | [], G, a, h, _ => by
    have Gg := h G List.mem_cons_self
    show tp a (List.replicate G.length (gcl g a G) ++ []) = _
    rw [List.append_nil, (rep_counts _ _ _ (fun z => Gg.1 (List.length_eq_zero_iff.mp z))).2.2.2]
    by_cases q : gcl g a G = a
    · rw [if_pos q, if_neg (by simp; omega)]; rfl
    · rw [if_neg q, if_pos (by simp; omega)]; rfl
  | K :: R, G, a, h, m => by
    have Gg := h G List.mem_cons_self
    have Kg := h K (List.mem_cons_of_mem _ List.mem_cons_self)
    have ih := pg_tp g0 R K (gcl g a G) (fun X hX => h X (List.mem_cons_of_mem _ hX)) m.2
    obtain ⟨c1, c2, c3, c4⟩ := rep_counts (gcl g a G) G.length a (fun z => Gg.1 (List.length_eq_zero_iff.mp z))
    have ne : gcl g (gcl g a G) K ≠ gcl g a G := fun z => by
      have i1 := gcl_in (a := a) g0 Gg
      have i2 := gcl_in (a := gcl g a G) g0 Kg
      rw [z] at i2
      have m1 := m.1
      match K, Kg with
      | [], Kg => exact Kg.1 rfl
      | y :: K, Kg =>
        have y1 := (mx_in (x := y) (r := K)).2 y List.mem_cons_self
        have y2 := (mn_in (x := y) (r := K)).2 y List.mem_cons_self
        unfold glo ghi at i1 i2
        change g < imax (Z.lmax G) y - imin (Z.lmin G) y at m1
        simp only [imax_def, imin_def] at i1 i2 m1
        split at i1 <;> split at i2 <;> split at m1 <;> split at m1 <;> omega
    show tp a (List.replicate G.length (gcl g a G) ++ pg g (gcl g a G) (K :: R)) = _
    rw [(wr_app _ _ _).2.2, c1, c4, ih, if_neg ne, List.length_cons]
    by_cases q : gcl g a G = a
    · rw [if_pos q, if_neg (by simp; omega)]; omega
    · rw [if_neg q, if_pos (by simp; omega)]; omega
end Zm
/-! Best plans, blocks and stretches. -/
namespace Zm
open PySem PySem.Spec PyProof.Rows L2 Z
theorem ends_en {reg top : Int} (h0 : 0 ≤ top) (h1 : top ≤ reg) (bs : List Bool) : (0 :: hs 0 bs).map (fun d => (imax 0 (d - reg), imax 0 (d - top))) = (lv top bs).map (en (reg - top)) := by
  rw [lv_map top h0, List.map_map]
  refine List.map_congr_left fun d _ => ?_
  show (imax 0 (d - reg), imax 0 (d - top)) = (imax 0 (imax 0 (d - top) - (reg - top)), imax 0 (d - top))
  have : imax 0 (d - reg) = imax 0 (imax 0 (d - top) - (reg - top)) := by simp only [imax_def]; (repeat' split) <;> omega
  rw [this]
section
variable {bs : List Bool} {reg top : Int}
abbrev GB (reg top : Int) (bs : List Bool) : List (List Int) := gg (reg - top) (lv top bs)
theorem gb_grp (m : Mach reg top) : Grp (reg - top) (lv top bs) (GB reg top bs) := by
  obtain ⟨m1, m2, m3, m4⟩ := m
  exact gg_grp (by omega) (lv_head top m3 bs) fun x hx => (lv_bound m3 x hx).1
theorem gb_len (m : Mach reg top) : ((GB reg top bs).length : Int) = 1 + (gr (reg - top) (lv top bs)).1 := by
  obtain ⟨m1, m2, m3, m4⟩ := m
  exact gg_len (by omega) (lv_head top m3 bs)
theorem gb_begins (hl : bs.length ≤ 1000) (m : Mach reg top) : m_begins_of ((lv top bs).map (en (reg - top))) = some (bg 0 (GB reg top bs)) := by
  obtain ⟨m1, m2, m3, m4⟩ := m
  exact begins_ok (by omega) (lv_head top m3 bs) (fun x hx => (lv_bound m3 x hx).1) (by rw [lv_len]; omega)
theorem gb_cons (m : Mach reg top) : ∃ q r, GB reg top bs = (0 :: q) :: r := (gb_grp m).cons (lv_head top m.2.2.1 bs)
/-- common numbers and the plan, for any blocks -/
theorem commons_ok {Gs : List (List Int)} (hl : bs.length ≤ 1000) (m : Mach reg top) (h : Grp (reg - top) (lv top bs) Gs) : m_common_numbers ((lv top bs).map (en (reg - top))) (bg 0 Gs) = some (Gs.map (cm (reg - top))) ∧ m_plan_of_groups ((lv top bs).map (en (reg - top))) (bg 0 Gs) (Gs.map (cm (reg - top))) = some (pg (reg - top) 0 Gs) := by
  have sl : sizeLine = 16777216 := by decide
  obtain ⟨m1, m2, m3, m4⟩ := id m
  have ll := lv_len top bs
  have hz := lv_head top m3 bs
  have g0 : 0 ≤ reg - top := by omega
  have ln := h.len
  have bl := (bg_len Gs 0).1
  have cl := commons_loop g0 (S := lv top bs) (by omega) Gs 0 [] (by rw [List.drop_zero, h.flat]) h.good (by simp; omega)
  obtain ⟨a', pl⟩ := pog_loop g0 Gs 0 0 [] h.good (by rw [h.flat]; simp; omega)
  have en' := h.ends hz
  have c1 : (Z.cutL (bg 0 Gs) (some (1 : Int)) none).length + ([((((lv top bs).map (en (reg - top))).length : Nat) : Int)]).length ≤ sizeLine := by
    rw [cut_drop, List.length_drop, List.length_singleton, sl]; omega
  have lm : (((lv top bs).map (en (reg - top))).length : Nat) = (lv top bs).length := List.length_map _
  constructor
  · unfold m_common_numbers
    rw [chk_bind c1, lm, cut_drop, en']
    refine (to_bind cl _).trans ?_
    rw [after_go]
    rfl
  · unfold m_plan_of_groups
    rw [chk_bind c1, lm, cut_drop, en']
    refine (to_bind pl _).trans ?_
    rw [after_go]
    rfl
abbrev BP (reg top : Int) (bs : List Bool) : List Int := pg (reg - top) 0 (GB reg top bs)
theorem best_ok (o : ok 0 bs) (hl : bs.length ≤ 1000) (m : Mach reg top) : m_best_plan (tx bs) reg top = some (BP reg top bs) := by
  obtain ⟨c1, c2⟩ := commons_ok hl m (gb_grp (bs := bs) m)
  unfold m_best_plan
  rw [to_bind (ends_ok o hl m), ends_en m.2.2.1 m.2.2.2, to_bind (gb_begins hl m), to_bind c1, to_bind c2]
theorem blocks_ok (o : ok 0 bs) (hl : bs.length ≤ 1000) (m : Mach reg top) : m_blocks_of (tx bs) reg top = some ((List.zip (bg 0 (GB reg top bs)) (nd 0 (GB reg top bs))).map fun x => (x.1, x.2 - 1)) := by
  have G := gb_grp (bs := bs) m
  have ll := lv_len top bs
  have ln := G.len
  have bl := bg_len (GB reg top bs) 0
  have en' := G.ends (lv_head top m.2.2.1 bs)
  rw [ll] at en'
  unfold m_blocks_of
  rw [to_bind (ends_ok o hl m), ends_en m.2.2.1 m.2.2.2, to_bind (gb_begins hl m), tx_len, chk_bind (line_le (by omega)).1, cut_drop, chk_bind (by rw [List.length_drop, List.length_singleton]; exact (line_le (by omega)).1)]
  rw [show (((bs.length : Nat) : Int) + 1) = ((bs.length + 1 : Nat) : Int) by omega, en', chk_bind (by rw [List.length_zip]; exact (line_le (by omega)).2), to_bind (comp_map (f := m_blocks_of_c1) (fun x => (x.1, x.2 - 1)) _ fun x _ => rfl)]
theorem stretches_ok (o : ok 0 bs) (hl : bs.length ≤ 1000) (m : Mach reg top) : m_stretches_of (tx bs) reg top = some (List.zip (bg 0 (GB reg top bs)) ((bg 0 (GB reg top bs)).drop 1)) := by
  unfold m_stretches_of
  rw [to_bind (ends_ok o hl m), ends_en m.2.2.1 m.2.2.2, to_bind (gb_begins hl m), cut_drop]
end
/-! ### plans in groups are plans -/
theorem pl2_of {reg top : Int} (h1 : top ≤ reg) : ∀ {ds ns : List Int}, In3 (reg - top) (ds.map fun d => imax 0 (d - top)) ns → (∀ n ∈ ns, 0 ≤ n) → Pl2 reg top ds ns
  | [], [], _, _ => trivial
  | d :: ds, n :: ns, h, z => by
    obtain ⟨a, b, c⟩ := h
    refine ⟨(pl_iff h1).mpr ⟨?_, b⟩, pl2_of h1 c fun x hx => z x (List.mem_cons_of_mem _ hx)⟩
    have := z n List.mem_cons_self
    change imax 0 (d - top) - (reg - top) ≤ n at a
    have e := imax_def 0 (imax 0 (d - top) - (reg - top))
    split at e <;> omega
theorem in3_app {g : Int} : ∀ {l ns l' ns' : List Int}, In3 g l ns → In3 g l' ns' → In3 g (l ++ l') (ns ++ ns')
  | [], [], _, _, _, h => h
  | x :: l, n :: ns, _, _, ⟨a, b, c⟩, h => ⟨a, b, in3_app c h⟩
theorem in3_rep {g c : Int} : ∀ {G : List Int}, (∀ x ∈ G, x - g ≤ c ∧ c ≤ x) → In3 g G (List.replicate G.length c)
  | [], _ => trivial
  | x :: G, h => ⟨(h x List.mem_cons_self).1, (h x List.mem_cons_self).2, in3_rep fun y hy => h y (List.mem_cons_of_mem _ hy)⟩
theorem pg_in3 {g : Int} (g0 : 0 ≤ g) : ∀ (Gs : List (List Int)) (a : Int), (∀ G ∈ Gs, Gd g G) → In3 g Gs.flatten (pg g a Gs)
  | [], _, _ => trivial
  | G :: r, a, h => by
    have Gg := h G List.mem_cons_self
    have i := gcl_in (a := a) g0 Gg
    rw [List.flatten_cons]
    refine in3_app (in3_rep fun x hx => ?_) (pg_in3 g0 r _ fun K hK => h K (List.mem_cons_of_mem _ hK))
    have m1 := (lmax_mem Gg.1).2 x hx
    have m2 := (lmin_mem Gg.1).2 x hx
    unfold glo ghi at i
    have e := imax_def 0 (Z.lmax G - g)
    split at e <;> omega
theorem pg_plan {reg top : Int} {bs : List Bool} {Gs : List (List Int)} (m : Mach reg top) (h : Grp (reg - top) (lv top bs) Gs) : Pl2 reg top (0 :: hs 0 bs) (pg (reg - top) 0 Gs) := by
  obtain ⟨m1, m2, m3, m4⟩ := id m
  have p := pg_in3 (g := reg - top) (by omega) Gs 0 h.good
  rw [h.flat, lv_map top m3] at p
  refine pl2_of m4 p fun n hn => ?_
  exact (pg_bound (B := bs.length) (by omega) Gs 0 h.good (fun K hK x hx => by
    have : x ∈ lv top bs := by rw [← h.flat]; exact List.mem_flatten.mpr ⟨K, hK, hx⟩
    exact (lv_bound m3 x this).2) n hn).1
/-- the best plan's counts: those of the lazy plan, and the fewest traps -/
theorem best_counts {reg top : Int} {bs : List Bool} (o : ok 0 bs) (hl : bs.length ≤ 1000) (m : Mach reg top) : m_counts_of (tx bs) reg top (BP reg top bs) = some (wr 0 (lz reg top 0 (0 :: hs 0 bs)), rd 0 (lz reg top 0 (0 :: hs 0 bs)), (gr (reg - top) (lv top bs)).1) := by
  obtain ⟨m1, m2, m3, m4⟩ := id m
  have G := gb_grp (bs := bs) m
  have g0 : 0 ≤ reg - top := by omega
  obtain ⟨q, r, eG⟩ := gb_cons (bs := bs) m
  have pc := pg_counts g0 (GB reg top bs) 0 G.good
  rw [G.flat, ← lz_lv m3 m4] at pc
  have gm := gg_mx (reg - top) (lv top bs)
  have gl := gb_len (bs := bs) m
  have gd := G.good
  have t : tp 0 (pg (reg - top) 0 (GB reg top bs)) = (gr (reg - top) (lv top bs)).1 := by
    change Mx (reg - top) (GB reg top bs) at gm
    rw [eG] at gm gl gd ⊢
    rw [pg_tp g0 r (0 :: q) 0 gd gm]
    have le := (gd (0 :: q) List.mem_cons_self).le g0
    have u := (mn_in (x := 0) (r := q)).2 0 List.mem_cons_self
    have c : gcl (reg - top) 0 (0 :: q) = 0 := by
      change ghi (0 :: q) ≤ 0 at u
      unfold gcl
      simp only [imax_def, imin_def]
      (repeat' split) <;> omega
    rw [if_pos c]
    rw [List.length_cons] at gl
    omega
  rw [counts_ok o hl m (pg_plan m G), pc.1, pc.2.1, t]
/-! ### stretches -/
def StrOk (S : List Int) (g : Int) (p : Int × Int) : Prop := ∃ i j : Nat, p = ((i : Int), (j : Int)) ∧ i < j ∧ j < S.length ∧ g < Z.lmax ((S.drop i).take (j + 1 - i)) - Z.lmin ((S.drop i).take (j + 1 - i))
def Ch : Int → List (Int × Int) → Prop
  | _, [] => True
  | a, p :: r => a ≤ p.1 ∧ p.1 < p.2 ∧ Ch p.2 r
theorem ch_le : ∀ {l : List (Int × Int)} {a b : Int}, Ch b l → a ≤ b → Ch a l
  | [], _, _, _, _ => trivial
  | p :: r, a, b, ⟨h1, h2, h3⟩, h => ⟨by omega, h2, h3⟩
theorem ch_out : ∀ {l1 l2 : List (Int × Int)} {s : Int × Int} {a : Int}, Ch a (l1 ++ s :: l2) → Ch a (l1 ++ l2)
  | [], _, s, a, ⟨h1, h2, h3⟩ => ch_le h3 (by omega)
  | p :: r, l2, s, a, ⟨h1, h2, h3⟩ => ⟨h1, h2, ch_out (l1 := r) h3⟩
theorem shows_step {S : List Int} {bs : List Bool} {reg top a : Int} {p : Int × Int} (hS : S.length = bs.length + 1) (hl : bs.length ≤ 1000) (h : StrOk S (reg - top) p) : m_shows_traps_b1 (tx bs) reg top S p a = if p.1 < a then some (.ret false) else some (.go p.2) := by
  obtain ⟨i, j, rfl, h1, h2, h3⟩ := h
  have ii : ∀ x : Int, m_is_integer x = some true := fun x => rfl
  have pm : m_is_pair_of_moments ((i : Int), (j : Int)) (bs.length : Int) = some true := by
    unfold m_is_pair_of_moments
    rw [if_neg (by decide)]
    refine (to_bind (a := false) (congrArg some (by decide)) _).trans ?_
    rw [if_neg (by decide)]
    refine (to_bind (a := true) ?_ _).trans rfl
    rw [to_bind (ii _), if_pos rfl, to_bind (ii _)]
    exact congrArg some (by simp; omega)
  have cut : Z.cutL S (some (i : Int)) (some ((j : Int) + 1)) = (S.drop i).take (j + 1 - i) := by
    rw [show ((j : Int) + 1) = ((j + 1 : Nat) : Int) by omega]
    exact cut_mid S (by omega) (by omega)
  have ne : 0 < ((S.drop i).take (j + 1 - i)).length := by rw [List.length_take, List.length_drop]; omega
  unfold m_shows_traps_b1
  rw [tx_len]
  by_cases q : (i : Int) < a
  · rw [if_pos q]
    refine (to_bind (a := true) ?_ _).trans (if_pos rfl)
    rw [chk_bind (line_le (by omega)).1, to_bind pm, if_neg (by decide)]
    exact congrArg some (decide_eq_true q)
  · rw [if_neg q]
    refine (to_bind (a := false) ?_ _).trans ?_
    · rw [chk_bind (line_le (by omega)).1, to_bind pm, if_neg (by decide)]
      exact congrArg some (decide_eq_false q)
    rw [if_neg (by decide), cut, chk_bind ne, chk_bind ne]
    exact if_neg (by simp only [decide_eq_true_eq]; omega)
theorem shows_loop {S : List Int} {bs : List Bool} {reg top : Int} (hS : S.length = bs.length + 1) (hl : bs.length ≤ 1000) : ∀ (ps : List (Int × Int)) (a : Int), (∀ p ∈ ps, StrOk S (reg - top) p) → Ch a ps → ∃ a', loopM (m_shows_traps_b1 (tx bs) reg top S) ps a = some (.go a')
  | [], a, _, _ => ⟨a, rfl⟩
  | p :: r, a, h, ⟨c1, c2, c3⟩ => by
    obtain ⟨a', e⟩ := shows_loop hS hl r p.2 (fun x hx => h x (List.mem_cons_of_mem _ hx)) c3
    refine ⟨a', (loop_cons ?_).trans e⟩
    rw [shows_step hS hl (h p List.mem_cons_self), if_neg (by omega)]
theorem shows_bad {S : List Int} {bs : List Bool} {reg top : Int} (hS : S.length = bs.length + 1) (hl : bs.length ≤ 1000) {s : Int × Int} {l2 : List (Int × Int)} : ∀ (l1 : List (Int × Int)) (a : Int), (∀ p ∈ l1 ++ s :: l2, StrOk S (reg - top) p) → Ch a (l1 ++ s :: l2) → loopM (m_shows_traps_b1 (tx bs) reg top S) (l1 ++ s :: s :: l2) a = some (.ret false)
  | [], a, h, ⟨c1, c2, c3⟩ => by
    have hs := h s List.mem_cons_self
    refine (loop_cons (s' := s.2) ?_).trans ?_
    · rw [shows_step hS hl hs, if_neg (by omega)]
    · unfold loopM
      rw [shows_step hS hl hs, if_pos c2]
  | p :: r, a, h, ⟨c1, c2, c3⟩ => by
    have e := shows_bad hS hl r p.2 (fun x hx => h x (List.mem_cons_of_mem _ hx)) c3
    refine (loop_cons (s' := p.2) ?_).trans e
    rw [shows_step hS hl (h p List.mem_cons_self), if_neg (by omega)]
theorem shows_true {bs : List Bool} {reg top : Int} {ps : List (Int × Int)} (o : ok 0 bs) (hl : bs.length ≤ 1000) (m : Mach reg top) (h : ∀ p ∈ ps, StrOk (lv top bs) (reg - top) p) (c : Ch 0 ps) : m_shows_traps (tx bs) reg top ps = some true := by
  obtain ⟨a', e⟩ := shows_loop (reg := reg) (top := top) (lv_len top bs) hl ps 0 h c
  unfold m_shows_traps
  rw [to_bind (checked_ok o hl), to_bind (mach_ok m), if_neg (by decide), to_bind (above_ok _ top (by simp [hs_len]; omega)), ← lv_map top m.2.2.1, to_bind e, after_go]
theorem shows_false {bs : List Bool} {reg top : Int} {l1 l2 : List (Int × Int)} {s : Int × Int} (o : ok 0 bs) (hl : bs.length ≤ 1000) (m : Mach reg top) (h : ∀ p ∈ l1 ++ s :: l2, StrOk (lv top bs) (reg - top) p) (c : Ch 0 (l1 ++ s :: l2)) : m_shows_traps (tx bs) reg top (l1 ++ s :: s :: l2) = some false := by
  have e := shows_bad (reg := reg) (top := top) (lv_len top bs) hl l1 0 h c
  unfold m_shows_traps
  rw [to_bind (checked_ok o hl), to_bind (mach_ok m), if_neg (by decide), to_bind (above_ok _ top (by simp [hs_len]; omega)), ← lv_map top m.2.2.1, to_bind e]
  rfl
theorem str_ok {g : Int} {S : List Int} : ∀ (R : List (List Int)) (G : List Int) (i : Nat), S.drop i = (G :: R).flatten → i < S.length → (∀ K ∈ G :: R, K ≠ []) → Mx g (G :: R) → (∀ p ∈ List.zip (bg (i : Int) (G :: R)) ((bg (i : Int) (G :: R)).drop 1), StrOk S g p) ∧ Ch i (List.zip (bg (i : Int) (G :: R)) ((bg (i : Int) (G :: R)).drop 1))
  | [], G, i, _, _, _, _ => ⟨(fun p hp => by cases hp), trivial⟩
  | K :: R, G, i, hd, hi, hn, hm => by
    have gn := List.length_pos_iff.mpr (hn G List.mem_cons_self)
    have hd2 : S.drop (i + G.length) = (K :: R).flatten := drop_on (by rw [hd, List.flatten_cons])
    match hK : K, hn K (List.mem_cons_of_mem _ List.mem_cons_self) with
    | y :: K', _ =>
      subst hK
      have len := congrArg List.length hd
      rw [List.length_drop, List.flatten_cons, List.flatten_cons, List.length_append, List.length_append, List.length_cons] at len
      obtain ⟨ih1, ih2⟩ := str_ok R (y :: K') (i + G.length) hd2 (by omega) (fun X hX => hn X (List.mem_cons_of_mem _ hX)) hm.2
      rw [show ((i + G.length : Nat) : Int) = (i : Int) + (G.length : Int) by omega] at ih1 ih2
      have first : StrOk S g ((i : Int), (i : Int) + (G.length : Int)) := by
        refine ⟨i, i + G.length, by rw [show ((i + G.length : Nat) : Int) = (i : Int) + (G.length : Int) by omega], by omega, by omega, ?_⟩
        have e : (S.drop i).take (i + G.length + 1 - i) = G ++ [y] := by
          rw [hd, List.flatten_cons, List.flatten_cons, show i + G.length + 1 - i = G.length + 1 by omega, List.take_length_add_append]
          rfl
        rw [e, (lm_snoc (hn G List.mem_cons_self) y).1, (lm_snoc (hn G List.mem_cons_self) y).2]
        exact hm.1
      have ez : List.zip (bg (i : Int) (G :: (y :: K') :: R)) ((bg (i : Int) (G :: (y :: K') :: R)).drop 1) = ((i : Int), (i : Int) + (G.length : Int)) :: List.zip (bg ((i : Int) + (G.length : Int)) ((y :: K') :: R)) ((bg ((i : Int) + (G.length : Int)) ((y :: K') :: R)).drop 1) := rfl
      rw [ez]
      refine ⟨fun p hp => ?_, Int.le_refl _, by show (i : Int) < (i : Int) + (G.length : Int); omega, ih2⟩
      rcases List.mem_cons.mp hp with e | e
      · rw [e]; exact first
      · exact ih1 p e
theorem gb_str {bs : List Bool} {reg top : Int} (m : Mach reg top) : (∀ p ∈ List.zip (bg 0 (GB reg top bs)) ((bg 0 (GB reg top bs)).drop 1), StrOk (lv top bs) (reg - top) p) ∧ Ch 0 (List.zip (bg 0 (GB reg top bs)) ((bg 0 (GB reg top bs)).drop 1)) := by
  have G := gb_grp (bs := bs) m
  obtain ⟨q, r, e⟩ := gb_cons (bs := bs) m
  have gm := gg_mx (reg - top) (lv top bs)
  change Mx (reg - top) (GB reg top bs) at gm
  have gd := G.good
  have fl := G.flat
  rw [e] at gm gd fl ⊢
  exact str_ok r (0 :: q) 0 (by rw [List.drop_zero]; exact fl.symm) (by rw [lv_len]; omega) (fun K hK => (gd K hK).1) gm
end Zm
/-! Rounds: what the lazy plan moves in a trace that is repeated. -/
namespace Zm
open PySem PySem.Spec PyProof.Rows L2 Z
/-! ### the calls of shifted levels -/
/-- closed and open calls higher than g, and above a base -/
def rc (g t : Int) : List Rec → Int
  | [] => 0
  | c :: r => (if c.2.1 ≠ none ∧ g < c.2.2.2 ∧ t < c.2.2.1 then 1 else 0) + rc g t r
def oc (g t : Int) : List Rec → Int
  | [] => 0
  | c :: r => (if c.2.1 = none ∧ g < c.2.2.2 ∧ t < c.2.2.1 then 1 else 0) + oc g t r
theorem rc_low {g t : Int} {c : Rec} {r : List Rec} (h : ¬ t < c.2.2.1) : rc g t (c :: r) = rc g t r ∧ oc g t (c :: r) = oc g t r := by
  constructor
  · show (if c.2.1 ≠ none ∧ g < c.2.2.2 ∧ t < c.2.2.1 then (1 : Int) else 0) + rc g t r = _
    rw [if_neg (fun k => h k.2.2)]; omega
  · show (if c.2.1 = none ∧ g < c.2.2.2 ∧ t < c.2.2.1 then (1 : Int) else 0) + oc g t r = _
    rw [if_neg (fun k => h k.2.2)]; omega
def lf (t : Int) (z : Int) : Int := imax 0 (z - t)
theorem lf_lt {t y z : Int} (h : t < y) : lf t z < lf t y ↔ z < y := by
  unfold lf; simp only [imax_def]; (repeat' split) <;> omega
theorem mx_lf {t y : Int} (h : t < y) : ∀ (l : List Int) (b : Int), y ≤ b → mx (lf t y) (lf t b) (l.map (lf t)) = lf t (mx y b l) ∧ y ≤ mx y b l
  | [], b, hb => ⟨rfl, hb⟩
  | x :: r, b, hb => by
    show (if lf t x < lf t y then lf t b else mx (lf t y) (imax (lf t b) (lf t x)) (r.map (lf t))) = lf t (if x < y then b else mx y (imax b x) r) ∧ y ≤ (if x < y then b else mx y (imax b x) r)
    by_cases q : x < y
    · rw [if_pos ((lf_lt h).mpr q), if_pos q]; exact ⟨rfl, hb⟩
    · rw [if_neg (fun z => q ((lf_lt h).mp z)), if_neg q]
      have e : imax (lf t b) (lf t x) = lf t (imax b x) := by unfold lf; simp only [imax_def]; (repeat' split) <;> omega
      rw [e]
      exact mx_lf h r (imax b x) (by rw [imax_def]; split <;> omega)
/-- counts of the calls of lifted levels -/
theorem cls_lf (g t : Int) : ∀ (l : List Int) (i : Int), Good l → rc g 0 (cls i (l.map (lf t))) = rc g t (cls i l) ∧ oc g 0 (cls i (l.map (lf t))) = oc g t (cls i l)
  | [], _, _ => ⟨rfl, rfl⟩
  | [_], _, _ => ⟨rfl, rfl⟩
  | x :: y :: R, i, hg => by
    obtain ⟨ih1, ih2⟩ := cls_lf g t (y :: R) (i + 1) hg.2
    have e1 : cls i (x :: y :: R) = if x < y then crec i y R :: cls (i + 1) (y :: R) else cls (i + 1) (y :: R) := rfl
    have e2 : cls i ((x :: y :: R).map (lf t)) = if lf t x < lf t y then crec i (lf t y) (R.map (lf t)) :: cls (i + 1) ((y :: R).map (lf t)) else cls (i + 1) ((y :: R).map (lf t)) := rfl
    rw [e1, e2]
    by_cases q : x < y
    · rw [if_pos q]
      by_cases z : t < y
      · rw [if_pos ((lf_lt z).mpr q)]
        have f := fe_map (c := y) (d := lf t y) (f := lf t) (l := y :: R) (e := i + 1) fun w _ => lf_lt z
        obtain ⟨m1, m2⟩ := mx_lf z (y :: R) y (Int.le_refl y)
        have cr : crec i (lf t y) (R.map (lf t)) = (i, (fe y (i + 1) (y :: R)).map (· - 1), lf t y, mx y y (y :: R) - y + 1) := by
          unfold crec
          have m1' : mx (lf t y) (lf t y) (lf t y :: R.map (lf t)) = lf t (mx y y (y :: R)) := m1
          have f' : fe (lf t y) (i + 1) (lf t y :: R.map (lf t)) = fe y (i + 1) (y :: R) := f
          rw [m1', f', show lf t (mx y y (y :: R)) - lf t y + 1 = mx y y (y :: R) - y + 1 by unfold lf; simp only [imax_def]; (repeat' split) <;> omega]
        rw [cr]
        have p : 0 < lf t y := by unfold lf; rw [imax_def]; split <;> omega
        constructor
        · show (if (fe y (i + 1) (y :: R)).map (· - 1) ≠ none ∧ g < mx y y (y :: R) - y + 1 ∧ 0 < lf t y then (1 : Int) else 0) + rc g 0 _ = (if (fe y (i + 1) (y :: R)).map (· - 1) ≠ none ∧ g < mx y y (y :: R) - y + 1 ∧ t < y then (1 : Int) else 0) + _
          rw [ih1]
          by_cases w : (fe y (i + 1) (y :: R)).map (· - 1) ≠ none ∧ g < mx y y (y :: R) - y + 1
          · rw [if_pos ⟨w.1, w.2, p⟩, if_pos ⟨w.1, w.2, z⟩]
          · rw [if_neg (fun k => w ⟨k.1, k.2.1⟩), if_neg (fun k => w ⟨k.1, k.2.1⟩)]
        · show (if (fe y (i + 1) (y :: R)).map (· - 1) = none ∧ g < mx y y (y :: R) - y + 1 ∧ 0 < lf t y then (1 : Int) else 0) + oc g 0 _ = (if (fe y (i + 1) (y :: R)).map (· - 1) = none ∧ g < mx y y (y :: R) - y + 1 ∧ t < y then (1 : Int) else 0) + _
          rw [ih2]
          by_cases w : (fe y (i + 1) (y :: R)).map (· - 1) = none ∧ g < mx y y (y :: R) - y + 1
          · rw [if_pos ⟨w.1, w.2, p⟩, if_pos ⟨w.1, w.2, z⟩]
          · rw [if_neg (fun k => w ⟨k.1, k.2.1⟩), if_neg (fun k => w ⟨k.1, k.2.1⟩)]
      · have nl : ¬ lf t x < lf t y := by unfold lf; simp only [imax_def]; (repeat' split) <;> omega
        rw [if_neg nl, ih1, ih2]
        have lo := rc_low (g := g) (t := t) (c := crec i y R) (r := cls (i + 1) (y :: R)) z
        exact ⟨lo.1.symm, lo.2.symm⟩
    · have nl : ¬ lf t x < lf t y := by unfold lf; simp only [imax_def]; (repeat' split) <;> omega
      rw [if_neg q, if_neg nl]
      exact ⟨ih1, ih2⟩
/-- closed and open ones are all -/
theorem cls_split {g : Int} : ∀ {l : List Int} {i : Int}, Lev l → rc g 0 (cls i l) + oc g 0 (cls i l) = cg g (hts (plv l)) ∧ oc g 0 (cls i l) = cg g (og l)
  | [], _, _ => ⟨rfl, rfl⟩
  | [_], _, _ => ⟨rfl, rfl⟩
  | x :: y :: R, i, h => by
    obtain ⟨ih1, ih2⟩ := cls_split (g := g) (l := y :: R) (i := i + 1) h.2.2
    have y0 := lev_head h.2.2
    have e1 : cls i (x :: y :: R) = if x < y then crec i y R :: cls (i + 1) (y :: R) else cls (i + 1) (y :: R) := rfl
    have o := opn_cls (l := x :: y :: R) (i := i) h
    have o2 := opn_cls (l := y :: R) (i := i + 1) h.2.2
    rw [e1] at o
    have e2 : plv (x :: y :: R) = if x < y then y :: plv (y :: R) else plv (y :: R) := rfl
    rw [e1, e2]
    by_cases q : x < y
    · rw [if_pos q] at o ⊢
      rw [if_pos q]
      have ht := height_eq h.2.2
      have x0 : 0 ≤ x := h.2.1
      rw [List.filterMap_cons] at o
      have hh : hts (y :: plv (y :: R)) = (Hs y (plv (y :: R)) + 1) :: hts (plv (y :: R)) := rfl
      rw [hh, ← ht]
      have a1 : rc g 0 (crec i y R :: cls (i + 1) (y :: R)) = (if (fe y (i + 1) (y :: R)).map (· - 1) ≠ none ∧ g < mx y y (y :: R) - y + 1 ∧ 0 < y then (1 : Int) else 0) + rc g 0 (cls (i + 1) (y :: R)) := rfl
      have a2 : oc g 0 (crec i y R :: cls (i + 1) (y :: R)) = (if (fe y (i + 1) (y :: R)).map (· - 1) = none ∧ g < mx y y (y :: R) - y + 1 ∧ 0 < y then (1 : Int) else 0) + oc g 0 (cls (i + 1) (y :: R)) := rfl
      have a3 : cg g ((mx y y (y :: R) - y + 1) :: hts (plv (y :: R))) = (if g < mx y y (y :: R) - y + 1 then (1 : Int) else 0) + cg g (hts (plv (y :: R))) := rfl
      have op : opn (crec i y R) = if (fe y (i + 1) (y :: R)).map (· - 1) = none then some (mx y y (y :: R) - y + 1) else none := rfl
      rw [op] at o
      rw [a1, a2, a3]
      by_cases w : (fe y (i + 1) (y :: R)).map (· - 1) = none
      · rw [if_pos w] at o
        have o' : (mx y y (y :: R) - y + 1) :: List.filterMap opn (cls (i + 1) (y :: R)) = og (x :: y :: R) := o
        rw [← o', o2]
        have z1 : (if (fe y (i + 1) (y :: R)).map (· - 1) ≠ none ∧ g < mx y y (y :: R) - y + 1 ∧ 0 < y then (1 : Int) else 0) = 0 := if_neg (fun k => k.1 w)
        rw [z1]
        have a4 : cg g ((mx y y (y :: R) - y + 1) :: og (y :: R)) = (if g < mx y y (y :: R) - y + 1 then (1 : Int) else 0) + cg g (og (y :: R)) := rfl
        have a5 : (if (fe y (i + 1) (y :: R)).map (· - 1) = none ∧ g < mx y y (y :: R) - y + 1 ∧ 0 < y then (1 : Int) else 0) = if g < mx y y (y :: R) - y + 1 then (1 : Int) else 0 := by
          by_cases v : g < mx y y (y :: R) - y + 1
          · rw [if_pos ⟨w, v, by omega⟩, if_pos v]
          · rw [if_neg (fun k => v k.2.1), if_neg v]
        rw [a5]
        refine ⟨by omega, ?_⟩
        show _ = cg g ((mx y y (y :: R) - y + 1) :: og (y :: R))
        rw [a4]; omega
      · rw [if_neg w] at o
        have o' : List.filterMap opn (cls (i + 1) (y :: R)) = og (x :: y :: R) := o
        rw [← o', o2]
        have z1 : (if (fe y (i + 1) (y :: R)).map (· - 1) = none ∧ g < mx y y (y :: R) - y + 1 ∧ 0 < y then (1 : Int) else 0) = 0 := if_neg (fun k => w k.1)
        rw [z1]
        have a5 : (if (fe y (i + 1) (y :: R)).map (· - 1) ≠ none ∧ g < mx y y (y :: R) - y + 1 ∧ 0 < y then (1 : Int) else 0) = if g < mx y y (y :: R) - y + 1 then (1 : Int) else 0 := by
          by_cases v : g < mx y y (y :: R) - y + 1
          · rw [if_pos ⟨w, v, by omega⟩, if_pos v]
          · rw [if_neg (fun k => v k.2.1), if_neg v]
        rw [a5]
        exact ⟨by omega, by omega⟩
    · rw [if_neg q] at o ⊢
      rw [if_neg q, ← o, o2]
      exact ⟨ih1, ih2⟩
end Zm
/-! Rounds: the words of a trace that is repeated, and the program's words_in_rounds. -/
namespace Zm
open PySem PySem.Spec PyProof.Rows L2 Z
def rp (bs : List Bool) : Nat → List Bool
  | 0 => []
  | n + 1 => rp bs n ++ bs
theorem rp_len (bs : List Bool) : ∀ n, (rp bs n).length = n * bs.length
  | 0 => by simp [rp]
  | n + 1 => by show (rp bs n ++ bs).length = _; rw [List.length_append, rp_len bs n, Nat.succ_mul]
theorem dp_add (l : List Bool) : ∀ d, dp d l = d + dp 0 l := by
  induction l with
  | nil => intro d; show d = d + 0; omega
  | cons b r ih => intro d; show dp (d + dl b) r = d + dp (0 + dl b) r; rw [ih (d + dl b), ih (0 + dl b)]; omega
theorem hs_add (l : List Bool) : ∀ d e, hs (d + e) l = (hs d l).map (· + e) := by
  induction l with
  | nil => intro d e; rfl
  | cons b r ih =>
    intro d e
    show (d + e + dl b) :: hs (d + e + dl b) r = (d + dl b + e) :: (hs (d + dl b) r).map (· + e)
    rw [show d + e + dl b = d + dl b + e by omega, ih]
theorem ok_add {l : List Bool} {e : Int} (o : ok 0 l) (he : 0 ≤ e) : ok e l := by
  refine (ok_iff l e).mpr fun h hh => ?_
  have e1 := hs_add l 0 e
  rw [Int.zero_add] at e1
  rw [e1] at hh
  obtain ⟨x, hx, rfl⟩ := List.mem_map.mp hh
  have := (ok_iff l 0).mp o x hx
  show 0 ≤ x + e
  omega
theorem dp_rp (bs : List Bool) : ∀ n : Nat, dp 0 (rp bs n) = n * dp 0 bs
  | 0 => by show (0 : Int) = ((0 : Nat) : Int) * _; simp
  | n + 1 => by
    show dp 0 (rp bs n ++ bs) = _
    rw [dp_app, dp_add, dp_rp bs n, show ((n + 1 : Nat) : Int) = (n : Int) + 1 by omega, Int.add_mul, Int.one_mul]
theorem ok_rp {bs : List Bool} (o : ok 0 bs) : ∀ n, ok 0 (rp bs n)
  | 0 => trivial
  | n + 1 => (ok_app _ _ _).mpr ⟨ok_rp o n, by
      rw [dp_rp]
      exact ok_add o (Int.mul_nonneg (by omega) (dp_nn bs 0 (Int.le_refl 0) o))⟩
/-- the greatest depth -/
def mD (bs : List Bool) : Int := mxa (0 :: hs 0 bs)
theorem mxa_ge : ∀ {l : List Int}, ∀ y ∈ l, y ≤ mxa l
  | [], y, h => by cases h
  | [x], y, h => by rw [List.mem_singleton.mp h]; exact Int.le_refl x
  | x :: z :: r, y, h => by
    show y ≤ imax (mxa (z :: r)) x
    rcases List.mem_cons.mp h with e | e
    · rw [e, imax_def]; split <;> omega
    · have := mxa_ge (l := z :: r) y e
      rw [imax_def]; split <;> omega
theorem mD_ge (bs : List Bool) : 0 ≤ mD bs ∧ ∀ d ∈ hs 0 bs, d ≤ mD bs := ⟨mxa_ge 0 List.mem_cons_self, fun d hd => mxa_ge d (List.mem_cons_of_mem _ hd)⟩
theorem rp_high {bs : List Bool} (o : ok 0 bs) : ∀ (n : Nat), ∀ d ∈ hs 0 (rp bs n), d ≤ (n : Int) * dp 0 bs + mD bs
  | 0, d, hd => by cases hd
  | n + 1, d, hd => by
    have r0 := dp_nn bs 0 (Int.le_refl 0) o
    have hd' : d ∈ hs 0 (rp bs n ++ bs) := hd
    rw [hs_app, dp_rp] at hd'
    have step : ((n + 1 : Nat) : Int) * dp 0 bs = (n : Int) * dp 0 bs + dp 0 bs := by rw [show ((n + 1 : Nat) : Int) = (n : Int) + 1 by omega, Int.add_mul, Int.one_mul]
    rw [step]
    rcases List.mem_append.mp hd' with z | z
    · have := rp_high o n d z; omega
    · have e1 := hs_add bs 0 ((n : Int) * dp 0 bs)
      rw [Int.zero_add] at e1
      rw [e1] at z
      obtain ⟨x, hx, rfl⟩ := List.mem_map.mp z
      have := (mD_ge bs).2 x hx
      show x + (n : Int) * dp 0 bs ≤ _
      omega
/-- the calls of one round, seen by themselves -/
abbrev CL (bs : List Bool) : List Rec := cls 0 (0 :: hs 0 bs)
theorem lv_lf (top : Int) (bs : List Bool) : lv top bs = 0 :: (hs 0 bs).map (lf top) := rfl
theorem lf_add (top e z : Int) : lf top (z + e) = lf (top - e) z := by unfold lf; congr 1; omega
theorem lv_rp (top : Int) (bs : List Bool) (n : Nat) : lv top (rp bs (n + 1)) = lv top (rp bs n) ++ (hs 0 bs).map (lf (top - n * dp 0 bs)) := by
  rw [lv_lf, lv_lf]
  show 0 :: (hs 0 (rp bs n ++ bs)).map (lf top) = _
  rw [hs_app, dp_rp, List.map_append]
  have e1 := hs_add bs 0 ((n : Int) * dp 0 bs)
  rw [Int.zero_add] at e1
  rw [e1, List.map_map]
  have : (hs 0 bs).map (lf top ∘ fun x => x + (n : Int) * dp 0 bs) = (hs 0 bs).map (lf (top - n * dp 0 bs)) := List.map_congr_left fun x _ => lf_add top _ x
  rw [this]
  rfl
theorem lev_lf (t : Int) (bs : List Bool) : Lev ((0 :: hs 0 bs).map (lf t)) := lev_map (hs_good bs 0)
theorem mn_all : ∀ {l : List Int} {c : Int}, l ≠ [] → (∀ y ∈ l, c ≤ y) → c ≤ mn l
  | [x], c, _, h => h x List.mem_cons_self
  | x :: y :: r, c, _, h => by
    have := mn_all (l := y :: r) (c := c) (by simp) fun z hz => h z (List.mem_cons_of_mem _ hz)
    have hx := h x List.mem_cons_self
    show c ≤ imin x (mn (y :: r))
    rw [imin_def]; split <;> omega
theorem mn_first {x : Int} {r : List Int} (h : ∀ y ∈ r, x ≤ y) : mn (x :: r) = x := by
  have a := (mn_le x r).1
  have b := mn_all (l := x :: r) (c := x) (by simp) fun y hy => by
    rcases List.mem_cons.mp hy with e | e
    · omega
    · exact h y e
  omega
theorem mxa_lf (t : Int) : ∀ {l : List Int}, l ≠ [] → mxa (l.map (lf t)) = lf t (mxa l)
  | [x], _ => rfl
  | x :: y :: r, _ => by
    have ih := mxa_lf t (l := y :: r) (by simp)
    show imax (mxa ((y :: r).map (lf t))) (lf t x) = lf t (imax (mxa (y :: r)) x)
    rw [ih]
    unfold lf; simp only [imax_def]; (repeat' split) <;> omega
theorem ct_low (B : Int) (a : Int) : ∀ n : Nat, ct (fun k => decide (k ≤ B)) a n = imax 0 (imin (a + n) B - a)
  | 0 => by show (0 : Int) = _; rw [imax_def, imin_def]; (repeat' split) <;> omega
  | n + 1 => by
    have e : ct (fun k => decide (k ≤ B)) a (n + 1) = ct (fun k => decide (k ≤ B)) a n + (if decide (a + n + 1 ≤ B) = true then 1 else 0) := by
      rw [ct_add _ a n 1]
      by_cases q : a + n + 1 ≤ B
      · have c1 : ct (fun k => decide (k ≤ B)) (a + n) 1 = ((1 : Nat) : Int) := ct_all fun k k1 k2 => decide_eq_true (by omega)
        rw [if_pos (decide_eq_true q), c1]; rfl
      · have c1 : ct (fun k => decide (k ≤ B)) (a + n) 1 = 0 := ct_none fun k k1 k2 => decide_eq_false (by omega)
        rw [if_neg (by simpa using q), c1]
    rw [e, ct_low B a n]
    by_cases q : a + n + 1 ≤ B
    · rw [if_pos (decide_eq_true q)]; simp only [imax_def, imin_def]; (repeat' split) <;> omega
    · rw [if_neg (by simpa using q)]; simp only [imax_def, imin_def]; (repeat' split) <;> omega
/-- one round, from a number that the lazy plan can have -/
theorem round_step {g t a : Int} (g0 : 0 ≤ g) {bs : List Bool} (o : ok 0 bs) (a0 : 0 ≤ a) (a1 : a ≤ lf t 0) (a2 : lf t 0 - g ≤ a) (a3 : a ≤ imax 0 (lf t (mD bs) - g)) :
    rd a (lzl g a ((hs 0 bs).map (lf t))) = rc g t (CL bs) ∧ lst a (lzl g a ((hs 0 bs).map (lf t))) = oc g t (CL bs) + imax 0 (imin (lf t 0) (lf t (mD bs) - g)) := by
  have lev : Lev (lf t 0 :: (hs 0 bs).map (lf t)) := lev_lf t bs
  have hw := words g0 ((hs 0 bs).map (lf t)) (lf t 0) a lev a0 a1 a2
  have hm := mems g0 ((hs 0 bs).map (lf t)) (lf t 0) a lev a0 a1 a2
  have up : ∀ y ∈ (hs 0 bs).map (lf t), lf t 0 ≤ y := fun y hy => by
    obtain ⟨x, hx, rfl⟩ := List.mem_map.mp hy
    have := (ok_iff bs 0).mp o x hx
    unfold lf; simp only [imax_def]; (repeat' split) <;> omega
  have mf := mn_first up
  rw [mf] at hm
  obtain ⟨s1, s2⟩ := cls_split (g := g) (i := 0) lev
  obtain ⟨f1, f2⟩ := cls_lf g t (0 :: hs 0 bs) 0 (hs_good bs 0)
  have f1' : rc g 0 (cls 0 (lf t 0 :: (hs 0 bs).map (lf t))) = rc g t (CL bs) := f1
  have f2' : oc g 0 (cls 0 (lf t 0 :: (hs 0 bs).map (lf t))) = oc g t (CL bs) := f2
  rw [f1', f2'] at s1
  rw [f2'] at s2
  have key := wr_rd (lzl g a ((hs 0 bs).map (lf t))) a
  have c1 : ct (fun k => decide (k ≤ lf t 0)) 0 a.toNat = a := by
    rw [ct_all fun k k1 k2 => decide_eq_true (by omega)]; omega
  have c2 : ct (fun k => decide (k ≤ lf t 0) && above g (lf t 0) ((hs 0 bs).map (lf t)) k) a (lf t 0 - a).toNat = ct (above g (lf t 0) ((hs 0 bs).map (lf t))) a (lf t 0 - a).toNat := ct_congr fun k k1 k2 => by
    rw [decide_eq_true (show k ≤ lf t 0 by omega), Bool.true_and]
  rw [c1, c2] at hm
  refine ⟨by omega, ?_⟩
  have mm : mxa (lf t 0 :: (hs 0 bs).map (lf t)) = lf t (mD bs) := mxa_lf t (l := 0 :: hs 0 bs) (by simp)
  have c3 : ct (above g (lf t 0) ((hs 0 bs).map (lf t))) a (lf t 0 - a).toNat = imax 0 (imin (lf t 0) (lf t (mD bs) - g) - a) := by
    have : ct (above g (lf t 0) ((hs 0 bs).map (lf t))) a (lf t 0 - a).toNat = ct (fun k => decide (k ≤ lf t (mD bs) - g)) a (lf t 0 - a).toNat := ct_congr fun k k1 k2 => by
      have kk : k ≤ lf t 0 := by omega
      have e : mx k (lf t 0) ((hs 0 bs).map (lf t)) = lf t (mD bs) := by
        rw [← mm]
        cases hq : (hs 0 bs).map (lf t) with
        | nil => rfl
        | cons x r =>
          rw [mx_all (mn_all (by simp) fun y hy => by have := up y (by rw [hq]; exact hy); omega)]
          show imax (lf t 0) (mxa (x :: r)) = imax (mxa (x :: r)) (lf t 0)
          simp only [imax_def]; (repeat' split) <;> omega
      unfold above
      rw [e]
      by_cases q : k ≤ lf t (mD bs) - g
      · rw [decide_eq_true q, decide_eq_true (by omega)]
      · rw [decide_eq_false q, decide_eq_false (by omega)]
    rw [this, ct_low, show a + (((lf t 0 - a).toNat : Nat) : Int) = lf t 0 by omega]
  rw [hm, c3, ← s2]
  simp only [imax_def, imin_def] at a3 ⊢
  split at a3 <;> (repeat' split) <;> omega
theorem lzl_hi {g B : Int} : ∀ {L : List Int} {a : Int}, (∀ y ∈ L, y ≤ B) → a ≤ imax 0 (B - g) → lst a (lzl g a L) ≤ imax 0 (B - g)
  | [], a, _, h => h
  | y :: r, a, hy, h => by
    have := hy y List.mem_cons_self
    refine lzl_hi (L := r) (a := nl g a y) (fun z hz => hy z (List.mem_cons_of_mem _ hz)) ?_
    unfold nl
    simp only [imax_def, imin_def] at h ⊢
    split at h <;> (repeat' split) <;> omega
def TT (g top ρ : Int) (cl : List Rec) : Nat → Int
  | 0 => 0
  | n + 1 => TT g top ρ cl n + rc g (top - n * ρ) cl
def LL (g top ρ : Int) (D : Int) (cl : List Rec) (b : Int) : Int := imax (imin b (b + D - g) - top) 0 + oc g (top - b) cl
theorem LL_eq {g top ρ b : Int} (g0 : 0 ≤ g) (b0 : 0 ≤ b) (D : Int) (D0 : 0 ≤ D) (cl : List Rec) : oc g (top - b) cl + imax 0 (imin (lf (top - b) 0) (lf (top - b) D - g)) = LL g top ρ D cl b := by
  unfold LL lf
  simp only [imax_def, imin_def]
  (repeat' split) <;> omega
/-- the words of n rounds -/
theorem rounds_words {reg top : Int} (m : Mach reg top) {bs : List Bool} (o : ok 0 bs) (n : Nat) : rd 0 (lzl (reg - top) 0 (lv top (rp bs n))) = TT (reg - top) top (dp 0 bs) (CL bs) n ∧ lst 0 (lzl (reg - top) 0 (lv top (rp bs (n + 1)))) = LL (reg - top) top (dp 0 bs) (mD bs) (CL bs) (n * dp 0 bs) := by
  obtain ⟨m1, m2, m3, m4⟩ := id m
  have g0 : 0 ≤ reg - top := by omega
  have r0 := dp_nn bs 0 (Int.le_refl 0) o
  have step : ∀ n : Nat, rd (la reg top (rp bs n)) (lzl (reg - top) (la reg top (rp bs n)) ((hs 0 bs).map (lf (top - n * dp 0 bs)))) = rc (reg - top) (top - n * dp 0 bs) (CL bs) ∧ lst (la reg top (rp bs n)) (lzl (reg - top) (la reg top (rp bs n)) ((hs 0 bs).map (lf (top - n * dp 0 bs)))) = oc (reg - top) (top - n * dp 0 bs) (CL bs) + imax 0 (imin (lf (top - n * dp 0 bs) 0) (lf (top - n * dp 0 bs) (mD bs) - (reg - top))) := fun n => by
    have np : 0 ≤ (n : Int) * dp 0 bs := Int.mul_nonneg (by omega) r0
    obtain ⟨p1, p2, p3⟩ := la_pl (reg := reg) (top := top) m3 m4 (rp bs n)
    rw [dp_rp] at p1 p2
    have hi : la reg top (rp bs n) ≤ imax 0 (lf (top - n * dp 0 bs) (mD bs) - (reg - top)) := by
      unfold la
      rw [lz_lv m3 m4]
      refine lzl_hi (fun y hy => ?_) (by rw [imax_def]; split <;> omega)
      rw [lv_lf] at hy
      have D0 := (mD_ge bs).1
      rcases List.mem_cons.mp hy with e | e
      · rw [e]; unfold lf; rw [imax_def]; split <;> omega
      · obtain ⟨x, hx, rfl⟩ := List.mem_map.mp e
        have := rp_high o n x hx
        unfold lf; simp only [imax_def]; (repeat' split) <;> omega
    refine round_step g0 o p3 ?_ ?_ hi
    · unfold lf
      rw [imax_def]
      by_cases q : 0 < la reg top (rp bs n)
      · have := p2 q; split <;> omega
      · split <;> omega
    · unfold lf
      rw [imax_def]
      split <;> omega
  have la_lst : ∀ n : Nat, lst 0 (lzl (reg - top) 0 (lv top (rp bs n))) = la reg top (rp bs n) := fun n => by unfold la; rw [lz_lv m3 m4]
  have split_ : ∀ n : Nat, lzl (reg - top) 0 (lv top (rp bs (n + 1))) = lzl (reg - top) 0 (lv top (rp bs n)) ++ lzl (reg - top) (la reg top (rp bs n)) ((hs 0 bs).map (lf (top - n * dp 0 bs))) := fun n => by
    rw [lv_rp, lzl_app, la_lst]
  have rdn : ∀ n : Nat, rd 0 (lzl (reg - top) 0 (lv top (rp bs n))) = TT (reg - top) top (dp 0 bs) (CL bs) n := fun n => by
    induction n with
    | zero =>
      show rd 0 (lzl (reg - top) 0 [0]) = 0
      show imax 0 (-(nl (reg - top) 0 0 - 0)) + 0 = 0
      have : nl (reg - top) 0 0 = 0 := by unfold nl; simp only [imax_def, imin_def]; (repeat' split) <;> omega
      rw [this]; rfl
    | succ n ih =>
      rw [split_ n, (wr_app _ _ _).2.1, ih, la_lst, (step n).1]
      rfl
  refine ⟨rdn n, ?_⟩
  rw [split_ n, lst_app, la_lst, (step n).2]
  exact LL_eq g0 (Int.mul_nonneg (by omega) r0) _ (mD_ge bs).1 _
end Zm
/-! The program's words_in_rounds. -/
namespace Zm
open PySem PySem.Spec PyProof.Rows L2 Z
def cnt (ρ top d : Int) : Nat → Int
  | 0 => 0
  | n + 1 => cnt ρ top d n + if top - n * ρ < d then 1 else 0
theorem cnt_all {ρ top d : Int} (r0 : 0 ≤ ρ) (h : top < d) : ∀ n : Nat, cnt ρ top d n = n
  | 0 => rfl
  | n + 1 => by
    have : 0 ≤ (n : Int) * ρ := Int.mul_nonneg (by omega) r0
    show cnt ρ top d n + (if top - n * ρ < d then (1 : Int) else 0) = _
    rw [cnt_all r0 h n, if_pos (by omega)]; omega
theorem cnt_none {top d : Int} (h : d ≤ top) : ∀ n : Nat, cnt 0 top d n = 0
  | 0 => rfl
  | n + 1 => by
    show cnt 0 top d n + (if top - n * 0 < d then (1 : Int) else 0) = _
    rw [cnt_none h n, Int.mul_zero, if_neg (by omega)]; rfl
theorem cnt_div {ρ top d q m : Int} (r0 : 0 < ρ) (e : top - d = q * ρ + m) (m0 : 0 ≤ m) (m1 : m < ρ) (q0 : 0 ≤ q) : ∀ n : Nat, cnt ρ top d n = n - imin n (q + 1)
  | 0 => by show (0 : Int) = ((0 : Nat) : Int) - imin ((0 : Nat) : Int) (q + 1); rw [imin_def]; split <;> omega
  | n + 1 => by
    show cnt ρ top d n + (if top - n * ρ < d then (1 : Int) else 0) = _
    rw [cnt_div r0 e m0 m1 q0 n]
    by_cases h : (n : Int) ≤ q
    · have : (n : Int) * ρ ≤ q * ρ := Int.mul_le_mul_of_nonneg_right h (by omega)
      rw [if_neg (by omega)]
      simp only [imin_def]; (repeat' split) <;> omega
    · have : (q + 1) * ρ ≤ (n : Int) * ρ := Int.mul_le_mul_of_nonneg_right (by omega) (by omega)
      rw [Int.add_mul, Int.one_mul] at this
      rw [if_pos (by omega)]
      simp only [imin_def]; (repeat' split) <;> omega
theorem below_ok {ρ top d : Int} (r0 : 0 ≤ ρ) (r1 : ρ ≤ 100000) (n : Nat) : m_rounds_below d ρ (n : Int) top = some ((n : Int) - cnt ρ top d n) := by
  unfold m_rounds_below
  by_cases h : top < d
  · rw [if_pos (decide_eq_true h), cnt_all r0 h]; exact congrArg some (by omega)
  · rw [if_neg (by simpa using h)]
    by_cases z : ρ = 0
    · subst z
      rw [if_pos (by decide), cnt_none (by omega)]; exact congrArg some (by omega)
    · obtain ⟨q, m, e, m0, m1, eq⟩ := split_div (x := top - d) (n := ρ) (by omega)
      have q0 : 0 ≤ q := by rw [← eq]; exact Int.ediv_nonneg (by omega) (by omega)
      rw [if_neg (by simpa using z), chk_bind (show CDivW (top - d) ρ from ⟨by omega, Nat.lt_of_le_of_lt (log_le (k := 30) (i := ρ) (by omega) (by omega)) (by decide)⟩), eq, cnt_div (by omega) e m0 m1 q0]
      exact congrArg some (by omega)
def TC (g top ρ : Int) (n : Nat) : List Rec → Int
  | [] => 0
  | c :: r => (if c.2.1 ≠ none ∧ g < c.2.2.2 then cnt ρ top c.2.2.1 n else 0) + TC g top ρ n r
theorem TC_zero (g top ρ : Int) : ∀ cl : List Rec, TC g top ρ 0 cl = 0
  | [] => rfl
  | c :: r => by
    show (if c.2.1 ≠ none ∧ g < c.2.2.2 then (0 : Int) else 0) + TC g top ρ 0 r = 0
    rw [TC_zero g top ρ r]; split <;> rfl
theorem TC_succ (g top ρ : Int) (n : Nat) : ∀ cl : List Rec, TC g top ρ (n + 1) cl = TC g top ρ n cl + rc g (top - n * ρ) cl
  | [] => rfl
  | c :: r => by
    have ih := TC_succ g top ρ n r
    show (if c.2.1 ≠ none ∧ g < c.2.2.2 then cnt ρ top c.2.2.1 n + (if top - n * ρ < c.2.2.1 then 1 else 0) else 0) + TC g top ρ (n + 1) r = (if c.2.1 ≠ none ∧ g < c.2.2.2 then cnt ρ top c.2.2.1 n else 0) + TC g top ρ n r + ((if c.2.1 ≠ none ∧ g < c.2.2.2 ∧ top - n * ρ < c.2.2.1 then (1 : Int) else 0) + rc g (top - n * ρ) r)
    rw [ih]
    by_cases h : c.2.1 ≠ none ∧ g < c.2.2.2
    · rw [if_pos h, if_pos h]
      by_cases z : top - n * ρ < c.2.2.1
      · rw [if_pos z, if_pos ⟨h.1, h.2, z⟩]; omega
      · rw [if_neg z, if_neg (fun k => z k.2.2)]; omega
    · rw [if_neg h, if_neg h, if_neg (fun k => h ⟨k.1, k.2.1⟩)]; omega
theorem TC_TT (g top ρ : Int) (cl : List Rec) : ∀ n : Nat, TC g top ρ n cl = TT g top ρ cl n
  | 0 => TC_zero g top ρ cl
  | n + 1 => by rw [TC_succ, TC_TT g top ρ cl n]; rfl
theorem vO_non (x : Option Int) : decide (Z.vO x = V.non) = decide (x = none) := by
  cases x with
  | none => rfl
  | some q => simp [Z.vO]
theorem read_loop {reg top ρ : Int} (r0 : 0 ≤ ρ) (r1 : ρ ≤ 100000) (n : Nat) : ∀ (cl : List Rec) (s : Int), loopM (m_words_read_b1 ρ (n : Int) reg top) cl s = some (.go (s + TC (reg - top) top ρ n cl))
  | [], s => by show some (Z.Step.go s) = some (Z.Step.go (s + 0)); rw [Int.add_zero]
  | c :: r, s => by
    by_cases h : c.2.1 ≠ none ∧ reg - top < c.2.2.2
    · refine (loop_cons (s' := s + cnt ρ top c.2.2.1 n) ?_).trans ?_
      · unfold m_words_read_b1
        rw [vO_non, if_pos (by rw [decide_eq_false h.1, decide_eq_true h.2]; rfl), to_bind (below_ok r0 r1 n)]
        congr 2; omega
      · rw [read_loop r0 r1 n r]
        show _ = some (Z.Step.go (s + ((if c.2.1 ≠ none ∧ reg - top < c.2.2.2 then cnt ρ top c.2.2.1 n else 0) + TC (reg - top) top ρ n r)))
        rw [if_pos h, Int.add_assoc]
    · refine (loop_cons (s' := s) ?_).trans ?_
      · unfold m_words_read_b1
        rw [vO_non, if_neg (by
          intro k
          rw [Bool.and_eq_true] at k
          exact h ⟨by simpa using k.1, of_decide_eq_true k.2⟩)]
      · rw [read_loop r0 r1 n r]
        show _ = some (Z.Step.go (s + ((if c.2.1 ≠ none ∧ reg - top < c.2.2.2 then cnt ρ top c.2.2.1 n else 0) + TC (reg - top) top ρ n r)))
        rw [if_neg h, Int.zero_add]
theorem left_loop {reg top ρ t : Int} : ∀ (cl : List Rec) (s : Int), loopM (m_words_left_b2 ρ t reg top) cl s = some (.go (s + oc (reg - top) (top - (t - 1) * ρ) cl))
  | [], s => by show some (Z.Step.go s) = some (Z.Step.go (s + 0)); rw [Int.add_zero]
  | c :: r, s => by
    by_cases h : c.2.1 = none ∧ reg - top < c.2.2.2 ∧ top - (t - 1) * ρ < c.2.2.1
    · refine (loop_cons (s' := s + 1) ?_).trans ?_
      · unfold m_words_left_b2
        rw [vO_non, if_pos (by rw [decide_eq_true h.1, decide_eq_true h.2.1, decide_eq_true (by omega)]; rfl)]
      · rw [left_loop r]
        show _ = some (Z.Step.go (s + ((if c.2.1 = none ∧ reg - top < c.2.2.2 ∧ top - (t - 1) * ρ < c.2.2.1 then 1 else 0) + oc (reg - top) (top - (t - 1) * ρ) r)))
        rw [if_pos h, Int.add_assoc]
    · refine (loop_cons (s' := s) ?_).trans ?_
      · unfold m_words_left_b2
        rw [vO_non, if_neg (by
          intro k
          rw [Bool.and_eq_true, Bool.and_eq_true] at k
          have k2 := of_decide_eq_true k.2.1
          exact h ⟨of_decide_eq_true k.1, of_decide_eq_true k.2.2, by omega⟩)]
      · rw [left_loop r]
        show _ = some (Z.Step.go (s + ((if c.2.1 = none ∧ reg - top < c.2.2.2 ∧ top - (t - 1) * ρ < c.2.2.1 then 1 else 0) + oc (reg - top) (top - (t - 1) * ρ) r)))
        rw [if_neg h, Int.zero_add]
theorem cls_lvl : ∀ (l : List Int) (i : Int), (cls i l).map (fun c => c.2.2.1) = plv l
  | [], _ => rfl
  | [_], _ => rfl
  | x :: y :: R, i => by
    have e1 : cls i (x :: y :: R) = if x < y then crec i y R :: cls (i + 1) (y :: R) else cls (i + 1) (y :: R) := rfl
    have e2 : plv (x :: y :: R) = if x < y then y :: plv (y :: R) else plv (y :: R) := rfl
    rw [e1, e2]
    by_cases q : x < y
    · rw [if_pos q, if_pos q, List.map_cons, cls_lvl (y :: R)]; rfl
    · rw [if_neg q, if_neg q, cls_lvl (y :: R)]
theorem mxa_plv : ∀ (r : List Int) (x : Int), (∀ y ∈ plv (x :: r), y ≤ mxa (x :: r)) ∧ (mxa (x :: r) = x ∨ mxa (x :: r) ∈ plv (x :: r))
  | [], x => ⟨(fun y hy => by cases hy), .inl rfl⟩
  | y :: R, x => by
    obtain ⟨a, b⟩ := mxa_plv R y
    have em : mxa (x :: y :: R) = imax (mxa (y :: R)) x := rfl
    have e2 : plv (x :: y :: R) = if x < y then y :: plv (y :: R) else plv (y :: R) := rfl
    have yb := mxa_ge (l := y :: R) y List.mem_cons_self
    rw [em, e2]
    by_cases q : x < y
    · rw [if_pos q, imax_of' (by omega)]
      refine ⟨fun z hz => ?_, .inr ?_⟩
      · rcases List.mem_cons.mp hz with e | e
        · omega
        · exact a z e
      · rcases b with e | e
        · rw [e]; exact List.mem_cons_self
        · exact List.mem_cons_of_mem _ e
    · rw [if_neg q]
      refine ⟨fun z hz => by have := a z hz; rw [imax_def]; split <;> omega, ?_⟩
      rw [imax_def]
      split
      · exact .inl rfl
      · rcases b with e | e
        · left; omega
        · exact .inr e
theorem opn_len {f : Rec → Unit → Option (Option (Option Int) × Unit)} (hf : ∀ c, f c () = some (if c.2.1 = none then some c.2.1 else none, ())) : ∀ cl : List Rec, ∃ l, compM f cl () = some (l, ()) ∧ l.length = (cl.filterMap opn).length
  | [] => ⟨[], rfl, rfl⟩
  | c :: r => by
    obtain ⟨l, e, h⟩ := opn_len hf r
    by_cases q : c.2.1 = none
    · refine ⟨c.2.1 :: l, (comp_cons ((hf c).trans (by rw [if_pos q])) e).trans rfl, ?_⟩
      rw [List.filterMap_cons, show opn c = some c.2.2.2 by unfold opn; rw [if_pos q]]
      rw [List.length_cons, List.length_cons, h]
    · refine ⟨l, (comp_cons ((hf c).trans (by rw [if_neg q])) e).trans rfl, ?_⟩
      rw [List.filterMap_cons, show opn c = none by unfold opn; rw [if_neg q]]
      exact h
/-- the words of n rounds, as the program tells them -/
theorem words_rounds_ok {reg top : Int} {bs : List Bool} (m : Mach reg top) (o : ok 0 bs) (hl : bs.length ≤ 1000) (n : Nat) (n1 : (n : Int) + 1 ≤ 10 ^ 30 - 1) :
    m_words_in_rounds (tx bs) ((n + 1 : Nat) : Int) reg top = some (TT (reg - top) top (dp 0 bs) (CL bs) (n + 1) + (if dp 0 bs = 0 then 0 else LL (reg - top) top (dp 0 bs) (mD bs) (CL bs) (n * dp 0 bs)), TT (reg - top) top (dp 0 bs) (CL bs) (n + 1)) := by
  have r0 := dp_nn bs 0 (Int.le_refl 0) o
  have r1 := dp_le bs 0
  have lz0 : lv 0 bs = 0 :: hs 0 bs := Zm.lv_zero o
  have ca := calls_ok (top := 0) o hl (by decide) (by decide)
  rw [lz0] at ca
  have clen2 : (cls 0 (0 :: hs 0 bs)).length ≤ 1001 := by
    have := congrArg List.length (cls_lvl (0 :: hs 0 bs) 0)
    rw [List.length_map] at this
    have p := plv_len (0 :: hs 0 bs)
    rw [List.length_cons, hs_len] at p
    omega
  have clen : (CL bs).length ≤ 1001 := clen2
  obtain ⟨l, e1, el⟩ := opn_len (f := m_words_in_rounds_c1) (fun c => by
    unfold m_words_in_rounds_c1
    rw [vO_non]
    by_cases q : c.2.1 = none
    · rw [if_pos (decide_eq_true q), if_pos q]
    · rw [if_neg (by simpa using q), if_neg q]) (CL bs)
  have oc1 := opn_cls (l := lv 0 bs) (i := 0) (lv_lev (Int.le_refl 0) bs)
  rw [lz0] at oc1
  have ol := og_level (top := 0) (Int.le_refl 0) bs
  rw [lz0, ← oc1, ← el, Int.sub_zero, imax_of r0] at ol
  have rd_ : m_words_read (CL bs) (dp 0 bs) ((n + 1 : Nat) : Int) reg top = some (TT (reg - top) top (dp 0 bs) (CL bs) (n + 1)) := by
    unfold m_words_read
    rw [to_bind (read_loop r0 (by omega) (n + 1) (CL bs) 0), after_go, Int.zero_add, TC_TT]
  have lf_ : m_words_left (CL bs) (dp 0 bs) ((n + 1 : Nat) : Int) reg top = some (if dp 0 bs = 0 then 0 else LL (reg - top) top (dp 0 bs) (mD bs) (CL bs) (n * dp 0 bs)) := by
    unfold m_words_left
    by_cases z : dp 0 bs = 0
    · rw [if_pos (decide_eq_true z), if_pos z]
    · rw [if_neg (by simpa using z), if_neg z]
      have nn : ((n + 1 : Nat) : Int) - 1 = (n : Int) := by omega
      have hD : dp 0 bs ≤ mD bs := by
        have : dp 0 bs ∈ 0 :: hs 0 bs := by
          have := lst_mem (hs 0 bs) 0
          rw [lst_hs] at this
          exact this
        rcases List.mem_cons.mp this with e | e
        · omega
        · exact (mD_ge bs).2 _ e
      obtain ⟨a, b⟩ := mxa_plv (hs 0 bs) 0
      have b' : mD bs ∈ plv (0 :: hs 0 bs) := by
        rcases b with e | e
        · exfalso
          have : mD bs = 0 := e
          omega
        · exact e
      have lm : Z.lmax ((CL bs).map fun c => c.2.2.1) = mD bs := by
        rw [cls_lvl]
        exact (lmax_of b' a).symm
      have lg : ∀ {i : Int}, 0 ≤ i → i ≤ 10 ^ 30 → i.natAbs.log2 ≤ 100 := fun h0 h1 => log_le (k := 100) h0 (Int.lt_of_le_of_lt h1 (by decide))
      rw [chk_bind (show CMulW (((n + 1 : Nat) : Int) - 1) (dp 0 bs) from by
        have a1 := lg (i := ((n + 1 : Nat) : Int) - 1) (by omega) (by omega)
        have a2 := lg (i := dp 0 bs) r0 (by omega)
        unfold CMulW
        omega), chk_bind (line_le (by omega)).2, to_bind (comp_map (f := m_words_left_c1) (fun c => c.2.2.1) _ fun c _ => rfl)]
      rw [chk_bind (by
        show 0 < ((CL bs).map fun c => c.2.2.1).length
        rw [cls_lvl]
        exact List.length_pos_of_mem b')]
      rw [lm, to_bind (left_loop (CL bs) _), after_go, nn]
      rfl
  unfold m_words_in_rounds
  rw [to_bind ca, to_bind (number_ok' (by omega) (by omega)), to_bind (mach_ok m), chk_bind (line_le (by omega)).2, to_bind e1, ol, to_bind rd_, to_bind lf_]
/-- the same, by the lazy plan of the trace written out -/
theorem words_rounds_lazy {reg top : Int} {bs : List Bool} (m : Mach reg top) (o : ok 0 bs) (n : Nat) :
    wr 0 (lzl (reg - top) 0 (lv top (rp bs (n + 1)))) = TT (reg - top) top (dp 0 bs) (CL bs) (n + 1) + (if dp 0 bs = 0 then 0 else LL (reg - top) top (dp 0 bs) (mD bs) (CL bs) (n * dp 0 bs)) ∧ rd 0 (lzl (reg - top) 0 (lv top (rp bs (n + 1)))) = TT (reg - top) top (dp 0 bs) (CL bs) (n + 1) := by
  obtain ⟨m1, m2, m3, m4⟩ := id m
  have a := (rounds_words m o (n + 1)).1
  have b := (rounds_words m o n).2
  have key := wr_rd (lzl (reg - top) 0 (lv top (rp bs (n + 1)))) 0
  refine ⟨?_, a⟩
  by_cases z : dp 0 bs = 0
  · rw [if_pos z]
    have l0 : la reg top (rp bs (n + 1)) = 0 := la_zero m3 m4 (bs := rp bs (n + 1)) (by rw [dp_rp, z, Int.mul_zero])
    unfold la at l0
    rw [lz_lv m3 m4] at l0
    omega
  · rw [if_neg z]
    omega
end Zm
/-! Texts repeated; what is written and read by differences. -/
namespace Zm
open PySem PySem.Spec PyProof.Rows L2 Z
theorem rp_comm (bs : List Bool) : ∀ n, bs ++ rp bs n = rp bs n ++ bs
  | 0 => by show bs ++ [] = [] ++ bs; simp
  | n + 1 => by
    show bs ++ (rp bs n ++ bs) = rp bs n ++ bs ++ bs
    rw [← List.append_assoc, rp_comm bs n]
theorem fold_rp (bs : List Bool) : ∀ (n : Nat) (acc : Array Nat), (List.replicate n (bs.map cd).toArray).foldl (· ++ ·) acc = acc ++ ((rp bs n).map cd).toArray
  | 0, acc => by simp [rp]
  | n + 1, acc => by
    rw [List.replicate_succ, List.foldl_cons, fold_rp bs n]
    show acc ++ (bs.map cd).toArray ++ ((rp bs n).map cd).toArray = acc ++ ((rp bs n ++ bs).map cd).toArray
    rw [← rp_comm, List.map_append, Array.append_assoc]
    congr 1
    simp
theorem tx_rep (bs : List Bool) (n : Nat) : Txt.mul (tx bs) ((n + 1 : Nat) : Int) = tx (rp bs (n + 1)) := by
  unfold Txt.mul
  rw [if_neg (by omega)]
  by_cases h : (((n + 1 : Nat) : Int) == 1 || (tx bs).length == 0) = true
  · rw [if_pos h]
    rw [Bool.or_eq_true] at h
    rcases h with e | e
    · have : n = 0 := by have := of_decide_eq_true e; omega
      subst this
      show tx bs = tx ([] ++ bs)
      rfl
    · have : bs = [] := by
        rw [tx_len] at e
        exact List.length_eq_zero_iff.mp (by simpa using e)
      subst this
      have : ∀ n, rp ([] : List Bool) n = [] := fun n => List.length_eq_zero_iff.mp (by rw [rp_len]; simp)
      rw [this]
  · rw [if_neg h]
    unfold tx
    rw [Int.toNat_natCast]
    have := fold_rp bs (n + 1) #[]
    simp only at this ⊢
    rw [this]
    simp
theorem df_pos : ∀ (l : List Int) (a : Int), ((df a l).filterMap fun x => if 0 < x then some x else none).sum = wr a l
  | [], _ => rfl
  | x :: r, a => by
    show (((x - a) :: df x r).filterMap _).sum = imax 0 (x - a) + wr x r
    rw [List.filterMap_cons]
    by_cases h : 0 < x - a
    · rw [if_pos h]; show ((x - a) :: (df x r).filterMap _).sum = _; rw [List.sum_cons, df_pos r, imax_of (by omega)]
    · rw [if_neg h]; show ((df x r).filterMap _).sum = _; rw [df_pos r, imax_of' (by omega)]; omega
theorem df_neg : ∀ (l : List Int) (a : Int), -((df a l).filterMap fun x => if x < 0 then some x else none).sum = rd a l
  | [], _ => rfl
  | x :: r, a => by
    show -(((x - a) :: df x r).filterMap _).sum = imax 0 (-(x - a)) + rd x r
    rw [List.filterMap_cons]
    have ih := df_neg r x
    by_cases h : x - a < 0
    · rw [if_pos h]; show -((x - a) :: (df x r).filterMap _).sum = _; rw [List.sum_cons, imax_of (by omega)]; omega
    · rw [if_neg h]; show -((df x r).filterMap _).sum = _; rw [imax_of' (by omega)]; omega
end Zm
/-! Words of many rounds. -/
namespace Zm
open PySem PySem.Spec PyProof.Rows L2 Z
theorem Sh.big {i : Int} (h1 : -(10 ^ 40) ≤ i) (h2 : i ≤ 10 ^ 40) : Sh 0 42 (.int i) := by
  have hb : i.natAbs < 10 ^ 41 := by omega
  refine ⟨?_, by simp [PyData.canLay0], by simp [PyData.depth], ?_⟩
  · have hl : i.natAbs.log2 < 1920 := by
      by_cases e : i.natAbs = 0
      · rw [e]; decide
      · exact Nat.lt_trans ((Nat.log2_lt e).mpr (Nat.lt_of_lt_of_le hb (by decide : 10 ^ 41 ≤ 2 ^ 140))) (by decide)
    simp [PyData.showable, hl]
  · have := int_text_length_le10 (k := 41) (by decide) hb
    show (Str.ofString (toString i)).length ≤ 42
    rw [PySem.ofString_length]; omega
theorem big_sh {a b : Int} (ha : 0 ≤ a ∧ a ≤ 10 ^ 40) (hb : 0 ≤ b ∧ b ≤ 10 ^ 40) : Sh 1 91 (.tuple [.int a, .int b]) :=
  Sh.tuple (m := 2) (n := 42) (k := 0) (fun d hd => by
    rcases List.mem_cons.mp hd with e | e
    · subst e; exact Sh.big (by omega) ha.2
    · rw [List.mem_singleton.mp e]; exact Sh.big (by omega) hb.2) (by simp)
theorem rc_nn (g t : Int) : ∀ cl : List Rec, (0 ≤ rc g t cl ∧ rc g t cl ≤ cl.length) ∧ 0 ≤ oc g t cl ∧ oc g t cl ≤ cl.length
  | [] => ⟨⟨Int.le_refl 0, Int.le_refl 0⟩, Int.le_refl 0, Int.le_refl 0⟩
  | c :: r => by
    obtain ⟨⟨a, b⟩, d, e⟩ := rc_nn g t r
    constructor
    · show 0 ≤ (if _ then (1 : Int) else 0) + rc g t r ∧ (if _ then (1 : Int) else 0) + rc g t r ≤ ((r.length + 1 : Nat) : Int)
      split <;> omega
    · show 0 ≤ (if _ then (1 : Int) else 0) + oc g t r ∧ (if _ then (1 : Int) else 0) + oc g t r ≤ ((r.length + 1 : Nat) : Int)
      split <;> omega
theorem rc_cons (g t : Int) (c : Rec) (r : List Rec) : rc g t (c :: r) = (if c.2.1 ≠ none ∧ g < c.2.2.2 ∧ t < c.2.2.1 then 1 else 0) + rc g t r ∧ oc g t (c :: r) = (if c.2.1 = none ∧ g < c.2.2.2 ∧ t < c.2.2.1 then 1 else 0) + oc g t r := ⟨rfl, rfl⟩
theorem rc_same {g t t' : Int} : ∀ {cl : List Rec}, (∀ c ∈ cl, t < c.2.2.1 ↔ t' < c.2.2.1) → rc g t cl = rc g t' cl ∧ oc g t cl = oc g t' cl
  | [], _ => ⟨rfl, rfl⟩
  | c :: r, h => by
    obtain ⟨a, b⟩ := rc_same (g := g) fun x hx => h x (List.mem_cons_of_mem _ hx)
    have hc := h c List.mem_cons_self
    rw [(rc_cons g t c r).1, (rc_cons g t c r).2, (rc_cons g t' c r).1, (rc_cons g t' c r).2, a, b]
    constructor
    · congr 1
      by_cases q : c.2.1 ≠ none ∧ g < c.2.2.2 ∧ t < c.2.2.1
      · rw [if_pos q, if_pos ⟨q.1, q.2.1, hc.mp q.2.2⟩]
      · rw [if_neg q, if_neg (fun k => q ⟨k.1, k.2.1, hc.mpr k.2.2⟩)]
    · congr 1
      by_cases q : c.2.1 = none ∧ g < c.2.2.2 ∧ t < c.2.2.1
      · rw [if_pos q, if_pos ⟨q.1, q.2.1, hc.mp q.2.2⟩]
      · rw [if_neg q, if_neg (fun k => q ⟨k.1, k.2.1, hc.mpr k.2.2⟩)]
theorem rc_high {g t : Int} : ∀ {cl : List Rec}, (∀ c ∈ cl, c.2.2.1 ≤ t) → rc g t cl = 0
  | [], _ => rfl
  | c :: r, h => by
    rw [(rc_low (fun z => by have := h c List.mem_cons_self; omega)).1]
    exact rc_high fun x hx => h x (List.mem_cons_of_mem _ hx)
theorem rc_zero {g t t' : Int} : ∀ {cl : List Rec}, t' ≤ t → rc g t' cl = 0 → oc g t' cl = 0 → rc g t cl = 0 ∧ oc g t cl = 0
  | [], _, _, _ => ⟨rfl, rfl⟩
  | c :: r, h, h1, h2 => by
    rw [(rc_cons g t' c r).1] at h1
    rw [(rc_cons g t' c r).2] at h2
    obtain ⟨⟨a, _⟩, b, _⟩ := rc_nn g t' r
    have e1 : rc g t' r = 0 ∧ ¬ (c.2.1 ≠ none ∧ g < c.2.2.2 ∧ t' < c.2.2.1) := by split at h1 <;> (first | (rename_i q; exact ⟨by omega, q⟩) | omega)
    have e2 : oc g t' r = 0 ∧ ¬ (c.2.1 = none ∧ g < c.2.2.2 ∧ t' < c.2.2.1) := by split at h2 <;> (first | (rename_i q; exact ⟨by omega, q⟩) | omega)
    obtain ⟨i1, i2⟩ := rc_zero (g := g) (cl := r) h e1.1 e2.1
    rw [(rc_cons g t c r).1, (rc_cons g t c r).2, i1, i2, if_neg (fun k => e1.2 ⟨k.1, k.2.1, by omega⟩), if_neg (fun k => e2.2 ⟨k.1, k.2.1, by omega⟩)]
    exact ⟨rfl, rfl⟩
theorem lv_cl {bs : List Bool} (o : ok 0 bs) : ∀ c ∈ CL bs, 1 ≤ c.2.2.1 ∧ c.2.2.1 ≤ mD bs := fun c hc => by
  have : c.2.2.1 ∈ plv (0 :: hs 0 bs) := by rw [← cls_lvl (0 :: hs 0 bs) 0]; exact List.mem_map.mpr ⟨c, hc, rfl⟩
  have lz0 : lv 0 bs = 0 :: hs 0 bs := Zm.lv_zero o
  have b := plv_bound (l := 0 :: hs 0 bs) (by rw [← lz0]; exact lv_lev (Int.le_refl 0) bs) _ this
  exact ⟨b.1, (mxa_plv (hs 0 bs) 0).1 _ this⟩
theorem cl_len (bs : List Bool) : (CL bs).length ≤ bs.length + 1 := by
  have := congrArg List.length (cls_lvl (0 :: hs 0 bs) 0)
  rw [List.length_map] at this
  have p := plv_len (0 :: hs 0 bs)
  rw [List.length_cons, hs_len] at p
  show (cls 0 (0 :: hs 0 bs)).length ≤ _
  omega
theorem mD_le (bs : List Bool) : mD bs ≤ bs.length := mxa_le (by omega) fun x hx => by
  rcases List.mem_cons.mp hx with e | e
  · omega
  · have := hs_le bs 0 x e; omega
/-- no call is higher than the greatest depth -/
theorem rc_far {g t : Int} {bs : List Bool} (o : ok 0 bs) (h : mD bs ≤ g) : rc g t (CL bs) = 0 ∧ oc g t (CL bs) = 0 := by
  have lz0 : lv 0 bs = 0 :: hs 0 bs := Zm.lv_zero o
  have lev : Lev (0 :: hs 0 bs) := by rw [← lz0]; exact lv_lev (Int.le_refl 0) bs
  obtain ⟨s1, s2⟩ := cls_split (g := g) (i := 0) lev
  have z : cg g (hts (plv (0 :: hs 0 bs))) = 0 := cg_none fun x hx => by
    have := hts_le2 (B := mD bs) (fun y hy => ⟨(plv_bound lev y hy).1, (mxa_plv (hs 0 bs) 0).1 _ hy⟩) x hx
    omega
  obtain ⟨⟨a, _⟩, b, _⟩ := rc_nn g 0 (CL bs)
  have s1' : rc g 0 (CL bs) + oc g 0 (CL bs) = cg g (hts (plv (0 :: hs 0 bs))) := s1
  have e1 : rc g 0 (CL bs) = 0 := by omega
  have e2 : oc g 0 (CL bs) = 0 := by omega
  by_cases q : 0 ≤ t
  · exact rc_zero q e1 e2
  · have := rc_same (g := g) (t := t) (t' := 0) (cl := CL bs) fun c hc => by have := lv_cl o c hc; constructor <;> intro _ <;> omega
    rw [this.1, this.2]; exact ⟨e1, e2⟩
theorem TT_line {g top ρ c : Int} {cl : List Rec} {f : Nat} (h : ∀ j : Nat, f ≤ j → rc g (top - j * ρ) cl = c) : ∀ k : Nat, TT g top ρ cl (f + k) = TT g top ρ cl f + k * c
  | 0 => by rw [Nat.add_zero]; show _ = _ + ((0 : Nat) : Int) * c; simp
  | k + 1 => by
    show TT g top ρ cl (f + k) + rc g (top - ((f + k : Nat) : Int) * ρ) cl = _
    rw [TT_line h k, h (f + k) (by omega), show ((k + 1 : Nat) : Int) = (k : Int) + 1 by omega, Int.add_mul, Int.one_mul]
    omega
theorem TT_zero {g top ρ : Int} {cl : List Rec} : ∀ n : Nat, (∀ j : Nat, j < n → rc g (top - j * ρ) cl = 0) → TT g top ρ cl n = 0
  | 0, _ => rfl
  | n + 1, h => by
    show TT g top ρ cl n + rc g (top - n * ρ) cl = 0
    rw [TT_zero n fun j hj => h j (by omega), h n (by omega)]; rfl
theorem TT_bound (g top ρ : Int) (cl : List Rec) : ∀ n : Nat, 0 ≤ TT g top ρ cl n ∧ TT g top ρ cl n ≤ n * (cl.length : Int)
  | 0 => by show (0 : Int) ≤ 0 ∧ (0 : Int) ≤ ((0 : Nat) : Int) * _; simp
  | n + 1 => by
    have ih := TT_bound g top ρ cl n
    have b := (rc_nn g (top - n * ρ) cl).1
    show 0 ≤ TT g top ρ cl n + rc g (top - n * ρ) cl ∧ TT g top ρ cl n + rc g (top - n * ρ) cl ≤ _
    rw [show ((n + 1 : Nat) : Int) = (n : Int) + 1 by omega, Int.add_mul, Int.one_mul]
    omega
theorem TT_shift {g top ρ : Int} {cl : List Rec} {m : Nat} (h : TT g (top + m * ρ) ρ cl m = 0) : ∀ n : Nat, TT g (top + m * ρ) ρ cl (m + n) = TT g top ρ cl n
  | 0 => h
  | n + 1 => by
    show TT g (top + m * ρ) ρ cl (m + n) + rc g (top + m * ρ - ((m + n : Nat) : Int) * ρ) cl = TT g top ρ cl n + rc g (top - n * ρ) cl
    rw [TT_shift h n, show ((m + n : Nat) : Int) = (m : Int) + n by omega, Int.add_mul, show top + (m : Int) * ρ - ((m : Int) * ρ + (n : Int) * ρ) = top - n * ρ by omega]
/-- written and read words of n + 1 rounds -/
def WR (g top : Int) (bs : List Bool) (n : Nat) : Int := TT g top (dp 0 bs) (CL bs) (n + 1) + if dp 0 bs = 0 then 0 else LL g top (dp 0 bs) (mD bs) (CL bs) (n * dp 0 bs)
def RR (g top : Int) (bs : List Bool) (n : Nat) : Int := TT g top (dp 0 bs) (CL bs) (n + 1)
theorem wr_bound2 {g top : Int} (g0 : 0 ≤ g) (h0 : 0 ≤ top) {bs : List Bool} (o : ok 0 bs) (hl : bs.length ≤ 1000) {n : Nat} (hn : (n : Int) ≤ 10 ^ 30) : (0 ≤ WR g top bs n ∧ WR g top bs n ≤ 10 ^ 40) ∧ 0 ≤ RR g top bs n ∧ RR g top bs n ≤ 10 ^ 40 := by
  have r0 := dp_nn bs 0 (Int.le_refl 0) o
  have r1 := dp_le bs 0
  have t := TT_bound g top (dp 0 bs) (CL bs) (n + 1)
  have cl := cl_len bs
  have D := (mD_ge bs).1
  have D1 := mD_le bs
  have up : ((n + 1 : Nat) : Int) * ((CL bs).length : Int) ≤ (10 ^ 30 + 1) * 1001 := Int.mul_le_mul (by omega) (by omega) (by omega) (by decide)
  have up2 : (n : Int) * dp 0 bs ≤ 10 ^ 30 * 1000 := Int.mul_le_mul hn (by omega) r0 (by decide)
  have lo2 : 0 ≤ (n : Int) * dp 0 bs := Int.mul_nonneg (by omega) r0
  have o1 := (rc_nn g (top - n * dp 0 bs) (CL bs)).2
  have L : 0 ≤ LL g top (dp 0 bs) (mD bs) (CL bs) (n * dp 0 bs) ∧ LL g top (dp 0 bs) (mD bs) (CL bs) (n * dp 0 bs) ≤ 10 ^ 30 * 1000 + 1001 := by
    unfold LL
    simp only [imax_def, imin_def]
    (repeat' split) <;> omega
  unfold WR RR
  refine ⟨?_, by omega, by omega⟩
  split <;> omega
/-- from some round on each one moves the same -/
theorem rounds_line {g top : Int} (g0 : 0 ≤ g) (h0 : 0 ≤ top) {bs : List Bool} (o : ok 0 bs) {f : Nat} (hf : dp 0 bs = 0 ∨ g + top + mD bs < (f : Int) * dp 0 bs) (k : Nat) : WR g top bs (f + k) = WR g top bs f + k * (WR g top bs (f + 1) - WR g top bs f) ∧ RR g top bs (f + k) = RR g top bs f + k * (RR g top bs (f + 1) - RR g top bs f) := by
  have r0 := dp_nn bs 0 (Int.le_refl 0) o
  have D0 := (mD_ge bs).1
  have mono : ∀ j : Nat, f ≤ j → (f : Int) * dp 0 bs ≤ (j : Int) * dp 0 bs := fun j hj => Int.mul_le_mul_of_nonneg_right (by omega) r0
  have base : ∀ j : Nat, f ≤ j → rc g (top - j * dp 0 bs) (CL bs) = rc g (top - f * dp 0 bs) (CL bs) ∧ oc g (top - j * dp 0 bs) (CL bs) = oc g (top - f * dp 0 bs) (CL bs) := fun j hj => by
    rcases hf with z | z
    · rw [z, Int.mul_zero, Int.mul_zero]; exact ⟨rfl, rfl⟩
    · have mj := mono j hj
      exact rc_same fun c hc => by have := lv_cl o c hc; constructor <;> intro _ <;> omega
  have tl := TT_line (g := g) (top := top) (ρ := dp 0 bs) (cl := CL bs) (f := f + 1) (c := rc g (top - f * dp 0 bs) (CL bs)) fun j hj => (base j (by omega)).1
  have t1 := tl 1
  have tk := tl k
  rw [show f + 1 + k = f + k + 1 by omega] at tk
  have ll : ∀ k : Nat, (if dp 0 bs = 0 then 0 else LL g top (dp 0 bs) (mD bs) (CL bs) (((f + k : Nat) : Int) * dp 0 bs)) = (if dp 0 bs = 0 then 0 else LL g top (dp 0 bs) (mD bs) (CL bs) ((f : Int) * dp 0 bs)) + k * dp 0 bs := fun k => by
    by_cases z : dp 0 bs = 0
    · rw [if_pos z, if_pos z, z, Int.mul_zero]; rfl
    · rw [if_neg z, if_neg z]
      have zz := hf.resolve_left z
      unfold LL
      rw [(base (f + k) (by omega)).2, show ((f + k : Nat) : Int) = (f : Int) + k by omega, Int.add_mul]
      have kp : 0 ≤ (k : Int) * dp 0 bs := Int.mul_nonneg (by omega) r0
      simp only [imax_def, imin_def]
      (repeat' split) <;> omega
  have l1 := ll 1
  have lk := ll k
  rw [show ((1 : Nat) : Int) * dp 0 bs = dp 0 bs by simp] at l1
  rw [show ((1 : Nat) : Int) * rc g (top - f * dp 0 bs) (CL bs) = rc g (top - f * dp 0 bs) (CL bs) by simp] at t1
  unfold WR RR
  rw [tk, lk, l1, show f + 1 + 1 = f + 1 + 1 from rfl, t1]
  generalize TT g top (dp 0 bs) (CL bs) (f + 1) = A
  generalize (if dp 0 bs = 0 then 0 else LL g top (dp 0 bs) (mD bs) (CL bs) ((f : Int) * dp 0 bs)) = B
  generalize rc g (top - f * dp 0 bs) (CL bs) = c
  have e1 : A + c + (B + dp 0 bs) - (A + B) = c + dp 0 bs := by omega
  have e2 : A + c - A = c := by omega
  rw [e1, e2, Int.mul_add]
  exact ⟨by omega, rfl⟩
theorem rounds_far {g top : Int} {bs : List Bool} (o : ok 0 bs) (hg : mD bs ≤ g) (n m : Nat) : WR (g + dp 0 bs * m) top bs (n + m) = WR g top bs n ∧ RR (g + dp 0 bs * m) top bs (n + m) = RR g top bs n := by
  have r0 := dp_nn bs 0 (Int.le_refl 0) o
  have D0 := (mD_ge bs).1
  have mp : 0 ≤ dp 0 bs * m := Int.mul_nonneg r0 (by omega)
  have z1 : ∀ n, TT g top (dp 0 bs) (CL bs) n = 0 := fun n => TT_zero n fun j _ => (rc_far o hg).1
  have z2 : ∀ n, TT (g + dp 0 bs * m) top (dp 0 bs) (CL bs) n = 0 := fun n => TT_zero n fun j _ => (rc_far o (by omega)).1
  unfold WR RR
  rw [z1, z2]
  refine ⟨?_, rfl⟩
  by_cases z : dp 0 bs = 0
  · rw [if_pos z, if_pos z]
  · rw [if_neg z, if_neg z]
    unfold LL
    rw [(rc_far o hg).2, (rc_far (g := g + dp 0 bs * m) o (by omega)).2, show ((n + m : Nat) : Int) = (n : Int) + m by omega, Int.add_mul, Int.mul_comm (m : Int)]
    simp only [imax_def, imin_def]
    (repeat' split) <;> omega
theorem rounds_deep {g top : Int} {bs : List Bool} (o : ok 0 bs) (hD : mD bs ≤ top + dp 0 bs) (n m : Nat) : WR g (top + dp 0 bs * m) bs (n + m) = WR g top bs n ∧ RR g (top + dp 0 bs * m) bs (n + m) = RR g top bs n := by
  have r0 := dp_nn bs 0 (Int.le_refl 0) o
  rw [Int.mul_comm (dp 0 bs)]
  have z : TT g (top + m * dp 0 bs) (dp 0 bs) (CL bs) m = 0 := TT_zero m fun j hj => rc_high fun c hc => by
    have b := lv_cl o c hc
    have e : ((j : Int) + 1) * dp 0 bs ≤ (m : Int) * dp 0 bs := Int.mul_le_mul_of_nonneg_right (by omega) r0
    rw [Int.add_mul, Int.one_mul] at e
    omega
  have t := TT_shift z (n + 1)
  rw [show m + (n + 1) = n + m + 1 by omega] at t
  unfold WR RR
  rw [t]
  refine ⟨?_, rfl⟩
  by_cases z : dp 0 bs = 0
  · rw [if_pos z, if_pos z]
  · rw [if_neg z, if_neg z]
    unfold LL
    rw [show ((n + m : Nat) : Int) = (n : Int) + m by omega, Int.add_mul, show top + (m : Int) * dp 0 bs - ((n : Int) * dp 0 bs + (m : Int) * dp 0 bs) = top - n * dp 0 bs by omega]
    congr 1
    simp only [imax_def, imin_def]
    (repeat' split) <;> omega
end Zm
/-! The levels at which a trace turns, from any block on; runs along them. -/
namespace Zm
open PySem PySem.Spec PyProof.Rows L2 Z
/-- what the walk along levels knows, whatever the block is at first -/
def TI3 (c0 cur : Int) (G : Int → GS → GS) (rising : Bool) (turns : List Int) : Prop := (∀ r s, 0 ≤ r → At r s c0 → At r (G r s) cur ∧ turns.foldl (tstep r) s = G r s) ∧
  (turns ≠ [] → ∃ T p, turns = T ++ [cur] ∧ (∀ r s, 0 ≤ r → At r s c0 → At r (T.foldl (tstep r) s) p) ∧ (rising = true → p < cur) ∧ (rising = false → cur < p))
theorem turn_new3 {c0 cur y : Int} {G : Int → GS → GS} {rising : Bool} {turns : List Int} (h : TI3 c0 cur G rising turns) (hy : y = cur + 1 ∨ y = cur - 1) : TI3 c0 y (fun r s => gstep r (G r s) y) (decide (cur < y)) (turns ++ [y]) := by
  refine ⟨fun r s r0 s0 => ?_, fun _ => ⟨turns, cur, rfl, fun r s r0 s0 => by rw [(h.1 r s r0 s0).2]; exact (h.1 r s r0 s0).1, fun z => of_decide_eq_true z, fun z => ?_⟩⟩
  · obtain ⟨a, b⟩ := h.1 r s r0 s0
    refine ⟨gstep_at r0 a, ?_⟩
    rw [List.foldl_append, b]
    have ta := tstep_at a
    show tstep r (G r s) y = gstep r (G r s) y
    generalize G r s = g at a ta ⊢
    obtain ⟨c, lo, hi⟩ := g
    obtain ⟨a1, a2, a3⟩ := a
    dsimp only at a1 a2 a3
    rcases hy with e | e
    · subst e
      have := up_step (c := c) r0 a3 (y := cur) a1 (by omega)
      rw [ta] at this
      exact this.symm
    · subst e
      have := down_step (c := c) r0 a3 (y := cur) a2 (by omega)
      rw [ta] at this
      exact this.symm
  · have := of_decide_eq_false z
    omega
theorem turn_on3 {c0 cur y : Int} {G : Int → GS → GS} {rising : Bool} {turns : List Int} (h : TI3 c0 cur G rising turns) (ht : turns ≠ []) (hd : rising = decide (cur < y)) (hy : y = cur + 1 ∨ y = cur - 1) :
    ∃ T, turns = T ++ [cur] ∧ TI3 c0 y (fun r s => gstep r (G r s) y) (decide (cur < y)) (T ++ [y]) := by
  obtain ⟨T, p, e, hT, d1, d2⟩ := h.2 ht
  refine ⟨T, e, fun r s r0 s0 => ?_, fun _ => ⟨T, p, rfl, hT, fun z => ?_, fun z => ?_⟩⟩
  · obtain ⟨a, b⟩ := h.1 r s r0 s0
    refine ⟨gstep_at r0 a, ?_⟩
    rw [List.foldl_append]
    rw [e, List.foldl_append] at b
    show tstep r (T.foldl (tstep r) s) y = gstep r (G r s) y
    rw [← b]
    have at_ := hT r s r0 s0
    generalize T.foldl (tstep r) s = g at at_ ⊢
    obtain ⟨c, lo, hi⟩ := g
    obtain ⟨a1, a2, a3⟩ := at_
    dsimp only at a1 a2 a3
    rcases hy with q | q
    · subst q
      have := d1 (by rw [hd]; exact decide_eq_true (by omega))
      exact (up_step (c := c) r0 a3 (y := cur) (by omega) (by omega)).symm
    · subst q
      have := d2 (by rw [hd]; exact decide_eq_false (by omega))
      exact (down_step (c := c) r0 a3 (y := cur) (by omega) (by omega)).symm
  · have := of_decide_eq_true z
    have := d1 (by rw [hd]; exact z)
    omega
  · have := of_decide_eq_false z
    have := d2 (by rw [hd]; exact z)
    omega
theorem turns_loop3 {c0 : Int} : ∀ (l : List Int) (cur : Int) (G : Int → GS → GS) (rising : Bool) (turns : List Int), Lev (cur :: l) → TI3 c0 cur G rising turns → turns.length + l.length ≤ 100000 →
    ∃ ris' tl, loopM m_turns_of_b1 (List.zip (cur :: l) l) (rising, turns) = some (.go (ris', tl)) ∧ tl.length ≤ turns.length + l.length ∧ (∀ r s, 0 ≤ r → At r s c0 → tl.foldl (tstep r) s = l.foldl (gstep r) (G r s)) ∧ ∀ x ∈ tl, x ∈ turns ∨ x ∈ l
  | [], cur, G, rising, turns, _, h, _ => ⟨rising, turns, rfl, by simp, fun r s r0 s0 => (h.1 r s r0 s0).2, fun x hx => .inl hx⟩
  | y :: l, cur, G, rising, turns, lv, h, hl => by
    rw [List.length_cons] at hl
    show ∃ ris' tl, loopM m_turns_of_b1 ((cur, y) :: List.zip (y :: l) l) (rising, turns) = _ ∧ _
    rcases (show y = cur ∨ (y = cur + 1 ∨ y = cur - 1) by rcases lv.1 with e | e | e <;> omega) with e | hy
    · subst e
      obtain ⟨ris', tl, e1, e2, e3, e4⟩ := turns_loop3 l y (fun r s => gstep r (G r s) y) rising turns lv.2.2 ⟨fun r s r0 s0 => by
        have := gstep_same (h.1 r s r0 s0).1
        dsimp only
        rw [this]; exact h.1 r s r0 s0, h.2⟩ (by omega)
      refine ⟨ris', tl, (loop_cons (s' := (rising, turns)) ?_).trans e1, by rw [List.length_cons]; omega, e3, fun x hx => (e4 x hx).imp id fun z => List.mem_cons_of_mem _ z⟩
      unfold m_turns_of_b1
      exact if_pos (decide_eq_true rfl)
    · have ne : cur ≠ y := by omega
      by_cases q : turns ≠ [] ∧ rising = decide (cur < y)
      · obtain ⟨T, eT, hT⟩ := turn_on3 h q.1 q.2 hy
        have tlen : turns.length = T.length + 1 := by rw [eT]; simp
        obtain ⟨ris', tl, e1, e2, e3, e4⟩ := turns_loop3 l y _ (decide (cur < y)) (T ++ [y]) lv.2.2 hT (by simp; omega)
        refine ⟨ris', tl, (loop_cons (s' := (decide (cur < y), T ++ [y])) ?_).trans e1, by rw [List.length_cons]; simp at e2; omega, e3, fun x hx => ?_⟩
        · unfold m_turns_of_b1
          refine (if_neg (by simpa using ne)).trans ?_
          refine (to_bind (a := T) ?_ _).trans ?_
          · refine (if_pos ?_).trans ?_
            · rw [Bool.and_eq_true]
              refine ⟨?_, decide_eq_true (by show V.bl rising = V.bl (decide (cur < y)); rw [q.2])⟩
              show (!turns.isEmpty) = true
              rw [eT]; simp
            · show (Z.lastZ turns >>= fun _ => some turns.dropLast) = some T
              rw [eT, to_bind (last_app T cur), drop_snoc]
          · exact chk_bind (line_le (by omega)).2 _
        · rcases e4 x hx with z | z
          · rcases List.mem_append.mp z with z | z
            · exact .inl (by rw [eT]; exact List.mem_append_left _ z)
            · rw [List.mem_singleton.mp z]; exact .inr List.mem_cons_self
          · exact .inr (List.mem_cons_of_mem _ z)
      · have hn := turn_new3 h hy
        obtain ⟨ris', tl, e1, e2, e3, e4⟩ := turns_loop3 l y _ (decide (cur < y)) (turns ++ [y]) lv.2.2 hn (by simp; omega)
        refine ⟨ris', tl, (loop_cons (s' := (decide (cur < y), turns ++ [y])) ?_).trans e1, by rw [List.length_cons]; simp at e2; omega, e3, fun x hx => ?_⟩
        · unfold m_turns_of_b1
          refine (if_neg (by simpa using ne)).trans ?_
          refine (to_bind (a := turns) ?_ _).trans ?_
          · refine if_neg fun z => q ?_
            rw [Bool.and_eq_true] at z
            refine ⟨fun e => ?_, ?_⟩
            · have z1 := z.1
              change (!turns.isEmpty) = true at z1
              rw [e] at z1; cases z1
            · have z2 : V.bl rising = V.bl (decide (cur < y)) := of_decide_eq_true z.2
              injection z2
          · exact chk_bind (line_le (by show turns.length ≤ _; omega)).2 _
        · rcases e4 x hx with z | z
          · rcases List.mem_append.mp z with z | z
            · exact .inl z
            · rw [List.mem_singleton.mp z]; exact .inr List.mem_cons_self
          · exact .inr (List.mem_cons_of_mem _ z)
theorem turns_ok3 {c0 : Int} {l : List Int} (lv : Lev (c0 :: l)) (hl : l.length ≤ 2000) : ∃ tl, m_turns_of (c0 :: l) = some tl ∧ (∀ r s, 0 ≤ r → At r s c0 → tl.foldl (tstep r) s = l.foldl (gstep r) s) ∧ ∀ x ∈ tl, x ∈ l := by
  obtain ⟨ris, tl, e1, e2, e3, e4⟩ := turns_loop3 (c0 := c0) l c0 (fun _ s => s) false [] lv ⟨fun r s r0 s0 => ⟨s0, rfl⟩, fun z => absurd rfl z⟩ (by simp; omega)
  refine ⟨tl, ?_, e3, fun x hx => (e4 x hx).resolve_left (fun z => by cases z)⟩
  unfold m_turns_of
  rw [cut_tail]
  show (loopM m_turns_of_b1 (List.zip (c0 :: l) l) (false, []) >>= _) = _
  rw [to_bind e1, after_go]
theorem tstep_add (r k : Int) (s : GS) (x : Int) : tstep r (s.1 + k, s.2) x = ((tstep r s x).1 + k, (tstep r s x).2) := by
  unfold tstep
  dsimp only
  (repeat' split) <;> first | rfl | (dsimp only; first | rfl | (congr 1; omega))
theorem gstep_add (r k : Int) (s : GS) (x : Int) : gstep r (s.1 + k, s.2) x = ((gstep r s x).1 + k, (gstep r s x).2) := by
  unfold gstep
  dsimp only
  split <;> first | rfl | (dsimp only; first | rfl | (congr 1; omega))
theorem gfold_add (r k : Int) : ∀ (l : List Int) (s : GS), l.foldl (gstep r) (s.1 + k, s.2) = ((l.foldl (gstep r) s).1 + k, (l.foldl (gstep r) s).2)
  | [], _ => rfl
  | x :: l, s => by rw [List.foldl_cons, List.foldl_cons, gstep_add, gfold_add r k l]
def sh3 (e : Int) (s : GS) : GS := (s.1, s.2.1 + e, s.2.2 + e)
theorem gstep_sh (r e : Int) (s : GS) (x : Int) : gstep r (sh3 e s) (x + e) = sh3 e (gstep r s x) := by
  unfold gstep sh3
  dsimp only
  have a : imax (s.2.2 + e) (x + e) = imax s.2.2 x + e := by simp only [imax_def]; (repeat' split) <;> omega
  have b : imin (s.2.1 + e) (x + e) = imin s.2.1 x + e := by simp only [imin_def]; (repeat' split) <;> omega
  rw [a, b]
  by_cases q : r < imax s.2.2 x - imin s.2.1 x
  · rw [if_pos q, if_pos (by omega)]
  · rw [if_neg q, if_neg (by omega)]
theorem gfold_sh (r e : Int) : ∀ (l : List Int) (s : GS), (l.map (· + e)).foldl (gstep r) (sh3 e s) = sh3 e (l.foldl (gstep r) s)
  | [], _ => rfl
  | x :: l, s => by
    rw [List.map_cons, List.foldl_cons, List.foldl_cons]
    show (l.map (· + e)).foldl (gstep r) (gstep r (sh3 e s) (x + e)) = _
    rw [gstep_sh, gfold_sh r e l]
theorem gfold_at {r : Int} (r0 : 0 ≤ r) : ∀ (l : List Int) (s : GS) (p : Int), At r s p → At r (l.foldl (gstep r) s) (lst p l)
  | [], _, _, h => h
  | x :: l, s, p, h => gfold_at r0 l _ x (gstep_at r0 h)
theorem gfold_le (r : Int) : ∀ (l : List Int) (s : GS), s.1 ≤ (l.foldl (gstep r) s).1 ∧ (l.foldl (gstep r) s).1 ≤ s.1 + l.length
  | [], s => ⟨Int.le_refl _, by show s.1 ≤ s.1 + ((0 : Nat) : Int); omega⟩
  | x :: l, s => by
    have ih := gfold_le r l (gstep r s x)
    have e : s.1 ≤ (gstep r s x).1 ∧ (gstep r s x).1 ≤ s.1 + 1 := by unfold gstep; split <;> (dsimp only; omega)
    rw [List.foldl_cons, List.length_cons]
    omega
/-- the program's runs, from any block on -/
theorem along3_ok {r lo hi p : Int} (r0 : 0 ≤ r) (r1 : r ≤ 100000) {l tl : List Int} (hb : ∀ x ∈ tl, 0 ≤ x ∧ x ≤ 1000) (h : At r (0, lo, hi) p) (p0 : 0 ≤ p) (p1 : p ≤ 1000) (e : ∀ r s, 0 ≤ r → At r s p → tl.foldl (tstep r) s = l.foldl (gstep r) s) :
    m_traps_along tl r lo hi = some ((l.foldl (gstep r) (0, lo, hi)).1, (l.foldl (gstep r) (0, lo, hi)).2.1, (l.foldl (gstep r) (0, lo, hi)).2.2) := by
  obtain ⟨h1, h2, h3⟩ := id h
  dsimp only at h1 h2 h3
  unfold m_traps_along
  have b := between_loop r0 r1 tl (0, lo, hi) hb (by show -(10 ^ 6) ≤ lo; omega) (by show hi ≤ 10 ^ 6; omega) ⟨p, h, p0, p1⟩
  rw [to_bind b, after_go, e r (0, lo, hi) r0 h]
end Zm
/-! Rounds that are alike: the program's traps_of_like_rounds. -/
namespace Zm
open PySem PySem.Spec PyProof.Rows L2 Z
theorem php : ∀ (N n : Nat) (f : Nat → Nat), (∀ i, i < n → f i < N) → (∀ i j, i < j → j < n → f i ≠ f j) → n ≤ N
  | 0, n, f, h, _ => by
    rcases Nat.eq_zero_or_pos n with e | e
    · omega
    · have := h 0 e; omega
  | N + 1, n, f, h, hi => by
    by_cases q : ∃ i, i < n ∧ f i = N
    · obtain ⟨i0, h0, e0⟩ := q
      have := php N (n - 1) (fun i => if i < i0 then f i else f (i + 1)) (fun i hin => by
        by_cases c : i < i0
        · rw [if_pos c]
          have a := h i (by omega)
          have b := hi i i0 c h0
          omega
        · rw [if_neg c]
          have a := h (i + 1) (by omega)
          have b := hi i0 (i + 1) (by omega) (by omega)
          omega) (fun i j hij hj => by
        by_cases c : i < i0
        · rw [if_pos c]
          by_cases d : j < i0
          · rw [if_pos d]; exact hi i j hij (by omega)
          · rw [if_neg d]; exact hi i (j + 1) (by omega) (by omega)
        · rw [if_neg c, if_neg (by omega)]; exact hi (i + 1) (j + 1) (by omega) (by omega))
      omega
    · have := php N n f (fun i hin => by
        have a := h i hin
        have : f i ≠ N := fun z => q ⟨i, hin, z⟩
        omega) hi
      omega
section
variable (r ρ : Int) (l : List Int) (b : Int × Int)
/-- one round, from a block -/
def F3 (σ : Int × Int) : GS := l.foldl (gstep r) (0, σ.1, σ.2)
def sgm : Nat → Int × Int
  | 0 => b
  | n + 1 => ((F3 r l (sgm n)).2.1 - ρ, (F3 r l (sgm n)).2.2 - ρ)
def tq : Nat → Int
  | 0 => 0
  | n + 1 => tq n + (F3 r l (sgm r ρ l b n)).1
end
section
variable {r ρ : Int} {l : List Int} {b : Int × Int}
theorem sg_at (r0 : 0 ≤ r) (hl : lst 0 l = ρ) (h : At r (0, b) 0) : ∀ n, At r (0, sgm r ρ l b n) 0
  | 0 => h
  | n + 1 => by
    have a := gfold_at r0 l (0, sgm r ρ l b n) 0 (sg_at r0 hl h n)
    rw [hl] at a
    obtain ⟨a1, a2, a3⟩ := a
    refine ⟨?_, ?_, ?_⟩
    · show (F3 r l (sgm r ρ l b n)).2.1 - ρ ≤ 0
      have : (F3 r l (sgm r ρ l b n)).2.1 ≤ ρ := a1
      omega
    · show 0 ≤ (F3 r l (sgm r ρ l b n)).2.2 - ρ
      have : ρ ≤ (F3 r l (sgm r ρ l b n)).2.2 := a2
      omega
    · show (F3 r l (sgm r ρ l b n)).2.2 - ρ - ((F3 r l (sgm r ρ l b n)).2.1 - ρ) ≤ r
      have : (F3 r l (sgm r ρ l b n)).2.2 - (F3 r l (sgm r ρ l b n)).2.1 ≤ r := a3
      omega
theorem tq_bound : ∀ n : Nat, 0 ≤ tq r ρ l b n ∧ tq r ρ l b n ≤ n * (l.length : Int)
  | 0 => by show (0 : Int) ≤ 0 ∧ (0 : Int) ≤ ((0 : Nat) : Int) * _; simp
  | n + 1 => by
    have ih := tq_bound n
    have g := gfold_le r l (0, (sgm r ρ l b n).1, (sgm r ρ l b n).2)
    show 0 ≤ tq r ρ l b n + (F3 r l (sgm r ρ l b n)).1 ∧ tq r ρ l b n + (F3 r l (sgm r ρ l b n)).1 ≤ _
    have g' : 0 ≤ (F3 r l (sgm r ρ l b n)).1 ∧ (F3 r l (sgm r ρ l b n)).1 ≤ 0 + (l.length : Int) := g
    rw [show ((n + 1 : Nat) : Int) = (n : Int) + 1 by omega, Int.add_mul, Int.one_mul]
    omega
theorem tq_mono : ∀ (k n : Nat), tq r ρ l b n ≤ tq r ρ l b (n + k)
  | 0, n => Int.le_refl _
  | k + 1, n => by
    have ih := tq_mono k n
    have g := gfold_le r l (0, (sgm r ρ l b (n + k)).1, (sgm r ρ l b (n + k)).2)
    have g' : 0 ≤ (F3 r l (sgm r ρ l b (n + k))).1 := g.1
    show _ ≤ tq r ρ l b (n + k) + (F3 r l (sgm r ρ l b (n + k))).1
    omega
/-- a block that comes again -/
theorem again {f n : Nat} (e : sgm r ρ l b f = sgm r ρ l b n) : ∀ k : Nat, sgm r ρ l b (n + k) = sgm r ρ l b (f + k) ∧ tq r ρ l b (n + k) = tq r ρ l b (f + k) + (tq r ρ l b n - tq r ρ l b f)
  | 0 => ⟨e.symm, by show tq r ρ l b n = tq r ρ l b f + _; omega⟩
  | k + 1 => by
    obtain ⟨a, c⟩ := again e k
    constructor
    · show ((F3 r l (sgm r ρ l b (n + k))).2.1 - ρ, (F3 r l (sgm r ρ l b (n + k))).2.2 - ρ) = ((F3 r l (sgm r ρ l b (f + k))).2.1 - ρ, (F3 r l (sgm r ρ l b (f + k))).2.2 - ρ)
      rw [a]
    · show tq r ρ l b (n + k) + (F3 r l (sgm r ρ l b (n + k))).1 = tq r ρ l b (f + k) + (F3 r l (sgm r ρ l b (f + k))).1 + _
      rw [a, c]; omega
theorem turns_on {f n : Nat} (hf : f < n) (e : sgm r ρ l b f = sgm r ρ l b n) (k : Nat) : ∀ q : Nat, tq r ρ l b (f + (q * (n - f) + k)) = tq r ρ l b (f + k) + q * (tq r ρ l b n - tq r ρ l b f)
  | 0 => by rw [Nat.zero_mul, Nat.zero_add]; show _ = _ + ((0 : Nat) : Int) * _; simp
  | q + 1 => by
    rw [show f + ((q + 1) * (n - f) + k) = n + (q * (n - f) + k) by rw [Nat.succ_mul]; omega, (again e _).2, turns_on hf e k q, show ((q + 1 : Nat) : Int) = (q : Int) + 1 by omega, Int.add_mul, Int.one_mul]
    omega
def kn (r ρ : Int) (l : List Int) (b : Int × Int) (n : Nat) : List ((Int × Int) × Int) := (List.range n).map fun i => (sgm r ρ l b i, (i : Int))
def tt (r ρ : Int) (l : List Int) (b : Int × Int) (n : Nat) : List Int := (List.range n).map (tq r ρ l b)
theorem kn_len (n : Nat) : (kn r ρ l b n).length = n ∧ (tt r ρ l b n).length = n := by unfold kn tt; simp
theorem kn_get (n : Nat) (σ : Int × Int) : (∀ v, Z.dget (kn r ρ l b n) σ = some v → ∃ f : Nat, f < n ∧ sgm r ρ l b f = σ ∧ v = (f : Int)) ∧ (Z.dget (kn r ρ l b n) σ = none → ∀ f, f < n → sgm r ρ l b f ≠ σ) := by
  unfold Z.dget
  constructor
  · intro v h
    obtain ⟨e, he, rfl⟩ := Option.map_eq_some_iff.mp h
    have m := List.mem_of_find?_eq_some he
    have p := List.find?_some he
    unfold kn at m
    obtain ⟨f, hf, rfl⟩ := List.mem_map.mp m
    exact ⟨f, List.mem_range.mp hf, of_decide_eq_true p, rfl⟩
  · intro h f hf z
    have h' := Option.map_eq_none_iff.mp h
    rw [List.find?_eq_none] at h'
    exact h' (sgm r ρ l b f, (f : Int)) (by unfold kn; exact List.mem_map.mpr ⟨f, List.mem_range.mpr hf, rfl⟩) (decide_eq_true z)
theorem kn_put (n : Nat) (h : Z.dget (kn r ρ l b n) (sgm r ρ l b n) = none) : Z.dput (kn r ρ l b n) (sgm r ρ l b n) (n : Int) = kn r ρ l b (n + 1) := by
  have hn := (kn_get n (sgm r ρ l b n)).2 h
  unfold Z.dput
  rw [if_neg ?_]
  · unfold kn; rw [List.range_succ, List.map_append]; rfl
  · intro z
    obtain ⟨e, he, p⟩ := List.any_eq_true.mp z
    unfold kn at he
    obtain ⟨f, hf, rfl⟩ := List.mem_map.mp he
    exact hn f (List.mem_range.mp hf) (of_decide_eq_true p)
theorem tt_at {n i : Nat} (h : i < n) : atI (tt r ρ l b n) (i : Int) = some (tq r ρ l b i) := atI_nat (by unfold tt; rw [List.getElem?_map, List.getElem?_range h]; rfl)
def St3 (r ρ : Int) (l : List Int) (b : Int × Int) (n : Nat) : Int × Int × Int × (List ((Int × Int) × Int)) × (List Int) := ((sgm r ρ l b n).1, (sgm r ρ l b n).2, tq r ρ l b n, kn r ρ l b n, tt r ρ l b n)
/-- the traps of T rounds -/
theorem like_ok {tl : List Int} {R : Nat} (hR : r = (R : Int)) (hR2 : R ≤ 400) (hl : lst 0 l = ρ) (h : At r (0, b) 0) (hb : ∀ x ∈ tl, 0 ≤ x ∧ x ≤ 1000) (hll : l.length ≤ 1000) (e : ∀ r s, 0 ≤ r → At r s 0 → tl.foldl (tstep r) s = l.foldl (gstep r) s) (T : Nat) (hT : (T : Int) ≤ 10 ^ 30) :
    m_traps_of_like_rounds tl ρ (T : Int) r b = some (tq r ρ l b T) := by
  have r0 : 0 ≤ r := by omega
  have box : ∀ n, -r ≤ (sgm r ρ l b n).1 ∧ (sgm r ρ l b n).1 ≤ 0 ∧ 0 ≤ (sgm r ρ l b n).2 ∧ (sgm r ρ l b n).2 ≤ r := fun n => by
    obtain ⟨a1, a2, a3⟩ := sg_at r0 hl h n
    dsimp only at a1 a2 a3
    omega
  have pig : ∀ n, (∀ i j, i < j → j < n → sgm r ρ l b i ≠ sgm r ρ l b j) → n ≤ (R + 1) * (R + 1) := fun n hd => by
    refine php _ n (fun i => (-(sgm r ρ l b i).1).toNat * (R + 1) + (sgm r ρ l b i).2.toNat) (fun i _ => ?_) (fun i j hij hj z => ?_)
    · have bx := box i
      have h1 : (-(sgm r ρ l b i).1).toNat * (R + 1) ≤ R * (R + 1) := Nat.mul_le_mul_right _ (by omega)
      have h2 : (R + 1) * (R + 1) = R * (R + 1) + (R + 1) := Nat.succ_mul _ _
      omega
    · have bi := box i
      have bj := box j
      have d1 : ((-(sgm r ρ l b i).1).toNat * (R + 1) + (sgm r ρ l b i).2.toNat) / (R + 1) = (-(sgm r ρ l b i).1).toNat := by
        rw [Nat.add_comm, Nat.add_mul_div_right _ _ (by omega), Nat.div_eq_of_lt (by omega), Nat.zero_add]
      have d2 : ((-(sgm r ρ l b j).1).toNat * (R + 1) + (sgm r ρ l b j).2.toNat) / (R + 1) = (-(sgm r ρ l b j).1).toNat := by
        rw [Nat.add_comm, Nat.add_mul_div_right _ _ (by omega), Nat.div_eq_of_lt (by omega), Nat.zero_add]
      rw [z, d2] at d1
      rw [d1] at z
      exact hd i j hij hj (Prod.ext (by omega) (by omega))
  have NN : (R + 1) * (R + 1) ≤ 160801 := Nat.mul_le_mul (show R + 1 ≤ 401 by omega) (show R + 1 ≤ 401 by omega)
  obtain ⟨s', ew, n, hn, rfl, hd, hx⟩ := while_run (f := m_traps_of_like_rounds_b1 tl ρ (T : Int) r)
    (fun s => ∃ n, n ≤ T ∧ s = St3 r ρ l b n ∧ ∀ i j, i < j → j < n → sgm r ρ l b i ≠ sgm r ρ l b j)
    (fun s => (R + 1) * (R + 1) + 1 - s.2.2.2.2.length)
    (fun s => ∃ n, n ≤ T ∧ s = St3 r ρ l b n ∧ (∀ i j, i < j → j < n → sgm r ρ l b i ≠ sgm r ρ l b j) ∧ (n = T ∨ (n < T ∧ Z.dget (kn r ρ l b n) (sgm r ρ l b n) ≠ none)))
    (fun s ⟨n, hn, es, hd⟩ => by
      subst es
      obtain ⟨k1, k2⟩ := kn_len (r := r) (ρ := ρ) (l := l) (b := b) n
      have np := pig n hd
      have tl_ : ((St3 r ρ l b n).2.2.2.2.length : Nat) = n := k2
      by_cases q : n < T
      · cases g : Z.dget (kn r ρ l b n) (sgm r ρ l b n) with
        | none =>
          have hd2 : ∀ i j, i < j → j < n + 1 → sgm r ρ l b i ≠ sgm r ρ l b j := fun i j hij hj => by
            by_cases c : j = n
            · rw [c]; exact (kn_get n (sgm r ρ l b n)).2 g i (by omega)
            · exact hd i j hij (by omega)
          have np2 := pig (n + 1) hd2
          refine .inl ⟨St3 r ρ l b (n + 1), ?_, ⟨n + 1, by omega, rfl, hd2⟩, ?_⟩
          · unfold m_traps_of_like_rounds_b1
            refine (to_bind (a := true) ?_ _).trans ?_
            · refine (if_pos (by rw [tl_]; exact decide_eq_true (by omega))).trans ?_
              show some (!(Z.dget (kn r ρ l b n) (sgm r ρ l b n)).isSome) = _
              rw [g]; rfl
            refine (if_pos rfl).trans ?_
            refine (chk_bind (line_le (by show (kn r ρ l b n).length ≤ _; omega)).2 _).trans ?_
            refine (chk_bind (line_le (by show (tt r ρ l b n).length ≤ _; omega)).2 _).trans ?_
            refine (to_bind (along3_ok r0 (by omega) (l := l) hb (sg_at r0 hl h n) (Int.le_refl 0) (by decide) e) _).trans ?_
            rw [tl_]
            show some (Z.Step.go ((F3 r l (sgm r ρ l b n)).2.1 - ρ, (F3 r l (sgm r ρ l b n)).2.2 - ρ, tq r ρ l b n + (F3 r l (sgm r ρ l b n)).1, Z.dput (kn r ρ l b n) (sgm r ρ l b n) (n : Int), tt r ρ l b n ++ [tq r ρ l b n])) = _
            rw [kn_put n g]
            have : tt r ρ l b n ++ [tq r ρ l b n] = tt r ρ l b (n + 1) := by unfold tt; rw [List.range_succ, List.map_append]; rfl
            rw [this]
            rfl
          · obtain ⟨_, k3⟩ := kn_len (r := r) (ρ := ρ) (l := l) (b := b) (n + 1)
            show (R + 1) * (R + 1) + 1 - (tt r ρ l b (n + 1)).length < (R + 1) * (R + 1) + 1 - (tt r ρ l b n).length
            omega
        | some v =>
          refine .inr ⟨St3 r ρ l b n, ?_, n, hn, rfl, hd, .inr ⟨q, by rw [g]; simp⟩⟩
          unfold m_traps_of_like_rounds_b1
          refine (to_bind (a := false) ?_ _).trans ?_
          · refine (if_pos (by rw [tl_]; exact decide_eq_true (by omega))).trans ?_
            show some (!(Z.dget (kn r ρ l b n) (sgm r ρ l b n)).isSome) = _
            rw [g]; rfl
          exact if_neg (by decide)
      · refine .inr ⟨St3 r ρ l b n, ?_, n, hn, rfl, hd, .inl (by omega)⟩
        unfold m_traps_of_like_rounds_b1
        refine (to_bind (a := false) ?_ _).trans ?_
        · exact if_neg (by rw [tl_]; simp; omega)
        exact if_neg (by decide))
    Z.FUEL (b.1, b.2, (0 : Int), ([] : List ((Int × Int) × Int)), []) ⟨0, by omega, rfl, fun i j _ hj => by omega⟩ (by
      show (R + 1) * (R + 1) + 1 - 0 < 1000000
      omega)
  obtain ⟨k1, k2⟩ := kn_len (r := r) (ρ := ρ) (l := l) (b := b) n
  have np := pig n hd
  unfold m_traps_of_like_rounds
  rw [to_bind ew, after_go]
  have tl_ : ((St3 r ρ l b n).2.2.2.2.length : Nat) = n := k2
  rw [tl_]
  rcases hx with e1 | ⟨q, g⟩
  · subst e1
    rw [if_pos (decide_eq_true rfl)]
    rfl
  · rw [if_neg (by simp; omega)]
    cases gg : Z.dget (kn r ρ l b n) (sgm r ρ l b n) with
    | none => exact absurd gg g
    | some v =>
      obtain ⟨f, hf, es, rfl⟩ := (kn_get n (sgm r ρ l b n)).1 v gg
      obtain ⟨Q, M, eq, M0, M1, ed⟩ := split_div (x := (T : Int) - (n : Int)) (n := (n : Int) - (f : Int)) (by omega)
      have Q0 : 0 ≤ Q := by rw [← ed]; exact Int.ediv_nonneg (by omega) (by omega)
      have Q1 : Q ≤ (T : Int) - (n : Int) := by rw [← ed]; exact Int.ediv_le_self _ (by omega)
      have em : ((T : Int) - (n : Int)) % ((n : Int) - (f : Int)) = M := by
        have := Int.mul_ediv_add_emod ((T : Int) - (n : Int)) ((n : Int) - (f : Int))
        rw [ed, Int.mul_comm] at this
        omega
      obtain ⟨q', rfl⟩ : ∃ q' : Nat, Q = (q' : Int) := ⟨Q.toNat, by omega⟩
      obtain ⟨m', rfl⟩ : ∃ m' : Nat, M = (m' : Int) := ⟨M.toNat, by omega⟩
      have tb := tq_bound (r := r) (ρ := ρ) (l := l) (b := b) n
      have tb2 : tq r ρ l b n ≤ 160801 * 1000 := Int.le_trans tb.2 (Int.mul_le_mul (by omega) (by omega) (by omega) (by decide))
      have tm := tq_mono (r := r) (ρ := ρ) (l := l) (b := b) (n - f) f
      rw [show f + (n - f) = n by omega] at tm
      have tf := (tq_bound (r := r) (ρ := ρ) (l := l) (b := b) f).1
      have lg : ∀ {i : Int}, 0 ≤ i → i ≤ 10 ^ 30 → i.natAbs.log2 ≤ 100 := fun h0 h1 => log_le (k := 100) h0 (Int.lt_of_le_of_lt h1 (by decide))
      have l1 := lg (i := (n : Int) - (f : Int)) (by omega) (by omega)
      have l2 := lg (i := (q' : Int)) (by omega) (by omega)
      have l3 := lg (i := tq r ρ l b n - tq r ρ l b f) (by omega) (by omega)
      have gg' : Z.dget (St3 r ρ l b n).2.2.2.1 ((St3 r ρ l b n).1, (St3 r ρ l b n).2.1) = some (f : Int) := gg
      rw [to_bind gg', chk_bind (show CDivW _ _ from ⟨by omega, by omega⟩), ed, em]
      have t1 : atI (St3 r ρ l b n).2.2.2.2 (f : Int) = some (tq r ρ l b f) := tt_at hf
      have t2 : atI (St3 r ρ l b n).2.2.2.2 ((f : Int) + (m' : Int)) = some (tq r ρ l b (f + m')) := by
        rw [show (f : Int) + (m' : Int) = ((f + m' : Nat) : Int) by omega]
        exact tt_at (by omega)
      rw [to_bind t1]
      refine (chk_bind (show CMulW (q' : Int) (tq r ρ l b n - tq r ρ l b f) by unfold CMulW; omega) _).trans ?_
      rw [chk_bind (by omega), to_bind t2, to_bind t1]
      have fin := turns_on (r := r) (ρ := ρ) (l := l) (b := b) hf es m' (q' + 1)
      have eT : f + ((q' + 1) * (n - f) + m') = T := by
        have : (((q' + 1) * (n - f) + m' + f : Nat) : Int) = (T : Int) := by
          rw [show (((q' + 1) * (n - f) + m' + f : Nat) : Int) = ((q' : Int) + 1) * ((n - f : Nat) : Int) + m' + f by simp, show ((n - f : Nat) : Int) = (n : Int) - f by omega, Int.add_mul, Int.one_mul]
          omega
        omega
      rw [eT, show ((q' + 1 : Nat) : Int) = (q' : Int) + 1 by omega, Int.add_mul, Int.one_mul] at fin
      rw [fin]
      refine congrArg some ?_
      show tq r ρ l b n + (q' : Int) * (tq r ρ l b n - tq r ρ l b f) + tq r ρ l b (f + m') - tq r ρ l b f = _
      omega
end
end Zm
/-! The program's traps_in_rounds: the fewest traps of the trace written out. -/
namespace Zm
open PySem PySem.Spec PyProof.Rows L2 Z
theorem lmax_mD (bs : List Bool) (o : ok 0 bs) : Z.lmax (0 :: hs 0 bs) = mD bs := by
  refine (lmax_of ?_ fun y hy => mxa_ge y hy).symm
  rcases (mxa_plv (hs 0 bs) 0).2 with e | e
  · show mxa (0 :: hs 0 bs) ∈ _
    rw [e]; exact List.mem_cons_self
  · have lz0 : lv 0 bs = 0 :: hs 0 bs := Zm.lv_zero o
    exact (plv_bound (l := 0 :: hs 0 bs) (by rw [← lz0]; exact lv_lev (Int.le_refl 0) bs) _ e).2
/-- the rounds below: all these are, and the next one is not -/
theorem below_facts {ρ top D : Int} (r0 : 0 ≤ ρ) (T : Nat) : ∃ d : Nat, (T : Int) - cnt ρ top D T = (d : Int) ∧ d ≤ T ∧ (∀ j : Nat, j < d → (j : Int) * ρ + D ≤ top) ∧ (d = T ∨ top < (d : Int) * ρ + D) := by
  by_cases h : top < D
  · refine ⟨0, by rw [cnt_all r0 h]; omega, by omega, (fun j hj => by omega), .inr (by simp; omega)⟩
  · by_cases z : ρ = 0
    · subst z
      refine ⟨T, by rw [cnt_none (by omega)]; omega, Nat.le_refl _, (fun j _ => by rw [Int.mul_zero]; omega), .inl rfl⟩
    · obtain ⟨q, m, e, m0, m1, eq⟩ := split_div (x := top - D) (n := ρ) (by omega)
      have q0 : 0 ≤ q := by rw [← eq]; exact Int.ediv_nonneg (by omega) (by omega)
      have im := imin_def (T : Int) (q + 1)
      refine ⟨(imin (T : Int) (q + 1)).toNat, ?_, ?_, fun j hj => ?_, ?_⟩
      · rw [cnt_div (by omega) e m0 m1 q0]; split at im <;> omega
      · split at im <;> omega
      · have jq : (j : Int) ≤ q := by split at im <;> omega
        have := Int.mul_le_mul_of_nonneg_right jq r0
        omega
      · by_cases c : q + 1 < (T : Int)
        · right
          rw [if_pos c] at im
          rw [show (((imin (T : Int) (q + 1)).toNat : Nat) : Int) = q + 1 by omega, Int.add_mul, Int.one_mul]
          omega
        · left
          rw [if_neg c] at im
          omega
/-- the blocks of n rounds -/
def ST (r top : Int) (bs : List Bool) (n : Nat) : GS := gr r (lv top (rp bs n))
theorem ST_succ (r top : Int) (bs : List Bool) (n : Nat) : ST r top bs (n + 1) = ((hs 0 bs).map (lf (top - n * dp 0 bs))).foldl (gstep r) (ST r top bs n) := by
  unfold ST gr
  rw [lv_rp, List.foldl_append]
theorem ST_zero {r : Int} (r0 : 0 ≤ r) (top : Int) (bs : List Bool) : ST r top bs 0 = (0, 0, 0) := by
  show [(0 : Int)].foldl (gstep r) (0, 0, 0) = _
  exact gstep_same (p := 0) ⟨Int.le_refl 0, Int.le_refl 0, by show (0 : Int) - 0 ≤ r; omega⟩
theorem lst_lf (t : Int) (bs : List Bool) : lst (lf t 0) ((hs 0 bs).map (lf t)) = lf (t - dp 0 bs) 0 := by
  rw [lst_map, lst_hs]
  unfold lf; congr 1; omega
theorem ST_at {r top : Int} (r0 : 0 ≤ r) (h0 : 0 ≤ top) (bs : List Bool) : ∀ n : Nat, At r (ST r top bs n) (lf (top - n * dp 0 bs) 0)
  | 0 => by
    rw [ST_zero r0]
    have : lf (top - ((0 : Nat) : Int) * dp 0 bs) 0 = 0 := by unfold lf; rw [show ((0 : Nat) : Int) = 0 from rfl, Int.zero_mul, imax_of' (by omega)]
    rw [this]
    exact ⟨Int.le_refl 0, Int.le_refl 0, by show (0 : Int) - 0 ≤ r; omega⟩
  | n + 1 => by
    have a := gfold_at r0 ((hs 0 bs).map (lf (top - n * dp 0 bs))) _ _ (ST_at r0 h0 bs n)
    rw [lst_lf] at a
    rw [ST_succ, show top - ((n + 1 : Nat) : Int) * dp 0 bs = top - n * dp 0 bs - dp 0 bs by rw [show ((n + 1 : Nat) : Int) = (n : Int) + 1 by omega, Int.add_mul, Int.one_mul]; omega]
    exact a
theorem zero_fold {r : Int} (r0 : 0 ≤ r) : ∀ {l : List Int}, (∀ x ∈ l, x = 0) → l.foldl (gstep r) (0, 0, 0) = (0, 0, 0)
  | [], _ => rfl
  | x :: l, h => by
    rw [h x List.mem_cons_self, List.foldl_cons, gstep_same (p := 0) (show At r (0, 0, 0) 0 from ⟨Int.le_refl 0, Int.le_refl 0, by show (0 : Int) - 0 ≤ r; omega⟩)]
    exact zero_fold r0 fun y hy => h y (List.mem_cons_of_mem _ hy)
theorem ST_low {r top : Int} (r0 : 0 ≤ r) (bs : List Bool) {d : Nat} (h : ∀ j : Nat, j < d → (j : Int) * dp 0 bs + mD bs ≤ top) : ∀ n : Nat, n ≤ d → ST r top bs n = (0, 0, 0)
  | 0, _ => ST_zero r0 top bs
  | n + 1, hn => by
    rw [ST_succ, ST_low r0 bs h n (by omega)]
    refine zero_fold r0 fun x hx => ?_
    obtain ⟨y, hy, rfl⟩ := List.mem_map.mp hx
    have := (mD_ge bs).2 y hy
    have := h n (by omega)
    unfold lf
    exact imax_of' (by omega)
/-- rounds that go on alike -/
theorem ST_like {r top ρ : Int} {bs : List Bool} {l : List Int} {k : Nat} {β : Nat → Int} (h : ∀ j : Nat, (hs 0 bs).map (lf (top - ((k + j : Nat) : Int) * dp 0 bs)) = l.map (· + β j) ∧ β (j + 1) = β j + ρ) : ∀ j : Nat, ST r top bs (k + j) = sh3 (β j) ((ST r top bs k).1 + tq r ρ l ((ST r top bs k).2.1 - β 0, (ST r top bs k).2.2 - β 0) j, sgm r ρ l ((ST r top bs k).2.1 - β 0, (ST r top bs k).2.2 - β 0) j)
  | 0 => by
    show ST r top bs k = (_, _, _)
    show ST r top bs k = ((ST r top bs k).1 + 0, (ST r top bs k).2.1 - β 0 + β 0, (ST r top bs k).2.2 - β 0 + β 0)
    rw [Int.add_zero, show (ST r top bs k).2.1 - β 0 + β 0 = (ST r top bs k).2.1 by omega, show (ST r top bs k).2.2 - β 0 + β 0 = (ST r top bs k).2.2 by omega]
  | j + 1 => by
    obtain ⟨h1, h2⟩ := h j
    have ih := ST_like (r := r) h j
    generalize ((ST r top bs k).2.1 - β 0, (ST r top bs k).2.2 - β 0) = b at *
    rw [show k + (j + 1) = (k + j) + 1 by omega, ST_succ, h1, ih, gfold_sh]
    have ga := gfold_add r ((ST r top bs k).1 + tq r ρ l b j) l (0, sgm r ρ l b j)
    rw [show ((0 : Int) + ((ST r top bs k).1 + tq r ρ l b j), sgm r ρ l b j) = ((ST r top bs k).1 + tq r ρ l b j, sgm r ρ l b j) by rw [Int.zero_add]] at ga
    rw [ga]
    show ((F3 r l (sgm r ρ l b j)).1 + ((ST r top bs k).1 + tq r ρ l b j), (F3 r l (sgm r ρ l b j)).2.1 + β j, (F3 r l (sgm r ρ l b j)).2.2 + β j) = ((ST r top bs k).1 + (tq r ρ l b j + (F3 r l (sgm r ρ l b j)).1), (F3 r l (sgm r ρ l b j)).2.1 - ρ + β (j + 1), (F3 r l (sgm r ρ l b j)).2.2 - ρ + β (j + 1))
    rw [h2]
    refine Prod.ext ?_ (Prod.ext ?_ ?_) <;> dsimp only <;> omega
theorem lf_zero {t x : Int} (h : 0 ≤ x) (ht : t ≤ 0) : lf t x = x + lf t 0 := by
  unfold lf; simp only [imax_def]; (repeat' split) <;> omega
theorem traps_rounds_ok {reg top : Int} {bs : List Bool} {R : Nat} (m : Mach reg top) (o : ok 0 bs) (hl : bs.length ≤ 1000) (hR : reg - top = (R : Int)) (hR2 : R ≤ 400) (T : Nat) (T1 : 1 ≤ T) (T2 : (T : Int) ≤ 10 ^ 30 - 1) : m_traps_in_rounds (tx bs) (T : Int) reg top = some (gr (reg - top) (lv top (rp bs T))).1 := by
  obtain ⟨m1, m2, m3, m4⟩ := id m
  have r0 : 0 ≤ reg - top := by omega
  have p0 := dp_nn bs 0 (Int.le_refl 0) o
  have p1 := dp_le bs 0
  have D0 := (mD_ge bs).1
  have D1 := mD_le bs
  have hb : ∀ x ∈ hs 0 bs, 0 ≤ x ∧ x ≤ bs.length := fun x hx => ⟨(ok_iff bs 0).mp o x hx, by have := hs_le bs 0 x hx; omega⟩
  have hsl := hs_len bs 0
  have lg : ∀ {i : Int}, 0 ≤ i → i ≤ 10 ^ 30 → i.natAbs.log2 ≤ 100 := fun h0 h1 => log_le (k := 100) h0 (Int.lt_of_le_of_lt h1 (by decide))
  have cm : ∀ k : Nat, k ≤ T → CMulW (k : Int) (dp 0 bs) := fun k hk => by
    have a := lg (i := (k : Int)) (by omega) (by omega)
    have b := lg (i := dp 0 bs) p0 (by omega)
    unfold CMulW; omega
  have e1 : atI (0 :: hs 0 bs) (-(1 : Int)) = some (dp 0 bs) := by
    rw [lst_at (0 :: hs 0 bs) 0 (by simp)]
    exact congrArg some (lst_hs bs 0)
  obtain ⟨d, ed, dT, dlow, dend⟩ := below_facts (ρ := dp 0 bs) (top := top) (D := mD bs) p0 T
  have bel := below_ok (top := top) (d := mD bs) p0 (show dp 0 bs ≤ 100000 by omega) T
  rw [ed] at bel
  have s0 := ST_low (r := reg - top) (top := top) r0 bs dlow d (Nat.le_refl _)
  have stat := fun n : Nat => ST_at (r := reg - top) r0 m3 bs n
  -- the first rounds
  obtain ⟨s', ew, k, kT, es, kend⟩ := while_run (f := m_traps_in_rounds_b2 (T : Int) reg top (0 :: hs 0 bs) (dp 0 bs))
    (fun s => ∃ k : Nat, k ≤ T ∧ s = ((k : Int), (ST (reg - top) top bs k).1, (ST (reg - top) top bs k).2.1, (ST (reg - top) top bs k).2.2))
    (fun s => if s.1 < (T : Int) then (top - s.1 * dp 0 bs).toNat else 0)
    (fun s => ∃ k : Nat, k ≤ T ∧ s = ((k : Int), (ST (reg - top) top bs k).1, (ST (reg - top) top bs k).2.1, (ST (reg - top) top bs k).2.2) ∧ (k = T ∨ dp 0 bs = 0 ∨ top ≤ (k : Int) * dp 0 bs))
    (fun s ⟨k, kT, es⟩ => by
      subst es
      by_cases q : k < T ∧ 0 < dp 0 bs ∧ (k : Int) * dp 0 bs < top
      · obtain ⟨q1, q2, q3⟩ := q
        refine .inl ⟨(((k + 1 : Nat) : Int), (ST (reg - top) top bs (k + 1)).1, (ST (reg - top) top bs (k + 1)).2.1, (ST (reg - top) top bs (k + 1)).2.2), ?_, ⟨k + 1, by omega, rfl⟩, ?_⟩
        · unfold m_traps_in_rounds_b2
          refine (to_bind (a := true) ?_ _).trans ?_
          · refine (if_pos (decide_eq_true (by omega))).trans ?_
            refine (to_bind (a := true) ?_ _).trans rfl
            refine (if_pos (decide_eq_true q2)).trans ?_
            rw [chk_bind (cm k kT)]
            exact congrArg some (decide_eq_true q3)
          refine (if_pos rfl).trans ?_
          rw [chk_bind (line_le (by rw [List.length_cons]; omega)).2, to_bind (comp_map (f := m_traps_in_rounds_c1 (dp 0 bs) ((k : Int), (ST (reg - top) top bs k).1, (ST (reg - top) top bs k).2.1, (ST (reg - top) top bs k).2.2)) (fun x => x + (k : Int) * dp 0 bs) _ fun x _ => by
            unfold m_traps_in_rounds_c1
            exact chk_bind (cm k kT) _)]
          rw [to_bind (above_ok _ top (by rw [List.length_map, List.length_cons]; omega))]
          have em : ((0 :: hs 0 bs).map fun x => x + (k : Int) * dp 0 bs).map (fun d => imax 0 (d - top)) = lf (top - k * dp 0 bs) 0 :: (hs 0 bs).map (lf (top - k * dp 0 bs)) := by
            rw [List.map_map, List.map_cons]
            congr 1
            · exact lf_add top _ 0
            · exact List.map_congr_left fun x _ => lf_add top _ x
          rw [em]
          obtain ⟨tl, t1, t2, t3⟩ := turns_ok3 (lev_lf (top - k * dp 0 bs) bs) (by rw [List.length_map]; omega)
          have c0 : lf (top - k * dp 0 bs) 0 = 0 := by unfold lf; exact imax_of' (by omega)
          have st := stat k
          have kp : 0 ≤ (k : Int) * dp 0 bs := Int.mul_nonneg (by omega) p0
          have al := along3_ok (r := reg - top) r0 (by omega) (l := (hs 0 bs).map (lf (top - k * dp 0 bs))) (tl := tl) (fun x hx => by
            obtain ⟨y, hy, rfl⟩ := List.mem_map.mp (t3 x hx)
            have := hb y hy
            unfold lf; rw [imax_def]; split <;> omega) (lo := (ST (reg - top) top bs k).2.1) (hi := (ST (reg - top) top bs k).2.2) (p := lf (top - k * dp 0 bs) 0) st (by omega) (by omega) t2
          rw [to_bind t1, to_bind al]
          have ga := gfold_add (reg - top) (ST (reg - top) top bs k).1 ((hs 0 bs).map (lf (top - k * dp 0 bs))) (0, (ST (reg - top) top bs k).2)
          have ga0 : ((hs 0 bs).map (lf (top - k * dp 0 bs))).foldl (gstep (reg - top)) (ST (reg - top) top bs k) = ((((hs 0 bs).map (lf (top - k * dp 0 bs))).foldl (gstep (reg - top)) (0, (ST (reg - top) top bs k).2)).1 + (ST (reg - top) top bs k).1, (((hs 0 bs).map (lf (top - k * dp 0 bs))).foldl (gstep (reg - top)) (0, (ST (reg - top) top bs k).2)).2) := by
            rw [← ga, Int.zero_add]
          have sx := (ST_succ (reg - top) top bs k).trans ga0
          rw [sx]
          dsimp only
          rw [show ((k + 1 : Nat) : Int) = (k : Int) + 1 by omega, Int.add_comm (ST (reg - top) top bs k).1]
        · show (if ((k + 1 : Nat) : Int) < (T : Int) then (top - ((k + 1 : Nat) : Int) * dp 0 bs).toNat else 0) < (if (k : Int) < (T : Int) then (top - (k : Int) * dp 0 bs).toNat else 0)
          rw [if_pos (show (k : Int) < (T : Int) by omega), show ((k + 1 : Nat) : Int) * dp 0 bs = (k : Int) * dp 0 bs + dp 0 bs by rw [show ((k + 1 : Nat) : Int) = (k : Int) + 1 by omega, Int.add_mul, Int.one_mul]]
          split <;> omega
      · refine .inr ⟨((k : Int), (ST (reg - top) top bs k).1, (ST (reg - top) top bs k).2.1, (ST (reg - top) top bs k).2.2), ?_, k, kT, rfl, ?_⟩
        · unfold m_traps_in_rounds_b2
          refine (to_bind (a := false) ?_ _).trans (if_neg (by decide))
          by_cases a : k < T
          · refine (if_pos (decide_eq_true (by omega))).trans ?_
            refine (to_bind (a := false) ?_ _).trans rfl
            by_cases b : 0 < dp 0 bs
            · refine (if_pos (decide_eq_true b)).trans ?_
              rw [chk_bind (cm k kT)]
              exact congrArg some (decide_eq_false fun c => q ⟨a, b, c⟩)
            · exact if_neg (by simpa using b)
          · exact if_neg (by simp; omega)
        · by_cases a : k < T
          · by_cases b : 0 < dp 0 bs
            · right; right
              by_cases c : (k : Int) * dp 0 bs < top
              · exact absurd ⟨a, b, c⟩ q
              · omega
            · right; left; omega
          · left; omega)
    Z.FUEL ((d : Int), (0 : Int), (0 : Int), (0 : Int)) ⟨d, dT, by rw [s0]⟩ (by
      show (if (d : Int) < (T : Int) then (top - (d : Int) * dp 0 bs).toNat else 0) < 1000000
      split
      · rcases dend with z | z <;> omega
      · decide)
  subst es
  -- the further ones
  have key : ∃ (l tl st : List Int), (if (decide (dp 0 bs = (0 : Int))) = true then m_levels_above (0 :: hs 0 bs) top >>= fun r54 => some r54 else some (0 :: hs 0 bs)) = some st ∧ m_turns_of st = some tl ∧ lst 0 l = dp 0 bs ∧ l.length ≤ 1000 ∧ (∀ x ∈ tl, 0 ≤ x ∧ x ≤ 1000) ∧ (∀ r s, 0 ≤ r → At r s 0 → tl.foldl (tstep r) s = l.foldl (gstep r) s) ∧ (k = T ∨ ∀ j : Nat, (hs 0 bs).map (lf (top - ((k + j : Nat) : Int) * dp 0 bs)) = l.map (· + lf (top - ((k + j : Nat) : Int) * dp 0 bs) 0) ∧ lf (top - ((k + (j + 1) : Nat) : Int) * dp 0 bs) 0 = lf (top - ((k + j : Nat) : Int) * dp 0 bs) 0 + dp 0 bs) := by
    by_cases z : dp 0 bs = 0
    · have c0 : lf top 0 = 0 := by unfold lf; exact imax_of' (by omega)
      obtain ⟨tl, t1, t2, t3⟩ := turns_ok3 (lev_lf top bs) (by rw [List.length_map]; omega)
      rw [c0] at t2
      refine ⟨(hs 0 bs).map (lf top), tl, lf top 0 :: (hs 0 bs).map (lf top), ?_, t1, ?_, by rw [List.length_map]; omega, fun x hx => ?_, t2, .inr fun j => ?_⟩
      · rw [if_pos (decide_eq_true z), to_bind (above_ok _ top (by rw [List.length_cons]; omega))]
        rfl
      · have := lst_lf top bs
        rw [c0, z, Int.sub_zero, c0] at this
        rw [this, z]
      · obtain ⟨y, hy, rfl⟩ := List.mem_map.mp (t3 x hx)
        have := hb y hy
        unfold lf; rw [imax_def]; split <;> omega
      · rw [z, Int.mul_zero, Int.mul_zero, Int.sub_zero, c0]
        refine ⟨?_, rfl⟩
        rw [List.map_map]
        exact List.map_congr_left fun x _ => (Int.add_zero _).symm
    · have lz0 : lv 0 bs = 0 :: hs 0 bs := Zm.lv_zero o
      obtain ⟨tl, t1, t2, t3⟩ := turns_ok3 (c0 := 0) (l := hs 0 bs) (by rw [← lz0]; exact lv_lev (Int.le_refl 0) bs) (by omega)
      refine ⟨hs 0 bs, tl, 0 :: hs 0 bs, ?_, t1, lst_hs bs 0, by omega, fun x hx => by have := hb x (t3 x hx); omega, t2, ?_⟩
      · exact if_neg (by simpa using z)
      · rcases kend with w | w | w
        · exact .inl w
        · exact absurd w z
        · refine .inr fun j => ?_
          have mono : (k : Int) * dp 0 bs ≤ ((k + j : Nat) : Int) * dp 0 bs := Int.mul_le_mul_of_nonneg_right (by omega) p0
          refine ⟨List.map_congr_left fun x hx => lf_zero (hb x hx).1 (by omega), ?_⟩
          rw [show ((k + (j + 1) : Nat) : Int) = ((k + j : Nat) : Int) + 1 by omega, Int.add_mul, Int.one_mul]
          unfold lf
          rw [imax_of (by omega), imax_of (by omega)]
          omega
  obtain ⟨l, tl, st, a1, a2, a3, a4, a5, a6, a7⟩ := key
  obtain ⟨c1, c2, c3⟩ := stat k
  have base : Z.imax ((k : Int) * dp 0 bs - top) (0 : Int) = lf (top - k * dp 0 bs) 0 := by unfold lf; simp only [imax_def]; (repeat' split) <;> omega
  have like := like_ok (r := reg - top) (ρ := dp 0 bs) (l := l) (b := ((ST (reg - top) top bs k).2.1 - lf (top - k * dp 0 bs) 0, (ST (reg - top) top bs k).2.2 - lf (top - k * dp 0 bs) 0)) hR hR2 a3 ⟨by show _ - _ ≤ (0 : Int); omega, by show (0 : Int) ≤ _ - _; omega, by show _ - _ - (_ - _) ≤ _; omega⟩ a5 a4 a6 (T - k) (by omega)
  have fin : (ST (reg - top) top bs k).1 + tq (reg - top) (dp 0 bs) l ((ST (reg - top) top bs k).2.1 - lf (top - k * dp 0 bs) 0, (ST (reg - top) top bs k).2.2 - lf (top - k * dp 0 bs) 0) (T - k) = (ST (reg - top) top bs T).1 := by
    rcases a7 with w | w
    · subst w
      rw [show k - k = 0 by omega]
      show _ + (0 : Int) = _
      omega
    · have g := ST_like (r := reg - top) (ρ := dp 0 bs) (β := fun j => lf (top - ((k + j : Nat) : Int) * dp 0 bs) 0) w (T - k)
      rw [show k + (T - k) = T by omega] at g
      rw [g]
      rfl
  unfold m_traps_in_rounds
  rw [to_bind (checked_ok o hl), to_bind (number_ok' (by omega) (by omega)), to_bind (mach_ok m), to_bind e1, chk_bind (by simp), lmax_mD bs o, to_bind bel, to_bind ew, after_go, chk_bind (cm k kT)]
  refine (to_bind a1 _).trans ?_
  rw [to_bind a2]
  dsimp only
  rw [base, show (T : Int) - (k : Int) = ((T - k : Nat) : Int) by omega, to_bind like]
  exact congrArg some fin
end Zm
/-! Rounds of rounds; what a round more adds. -/
namespace Zm
open PySem PySem.Spec PyProof.Rows L2 Z
theorem rp_add (bs : List Bool) (a : Nat) : ∀ b, rp bs (a + b) = rp bs a ++ rp bs b
  | 0 => by show rp bs a = rp bs a ++ []; simp
  | b + 1 => by
    show rp bs (a + b) ++ bs = rp bs a ++ (rp bs b ++ bs)
    rw [rp_add bs a b, List.append_assoc]
theorem rp_rp (bs : List Bool) (a : Nat) : ∀ b, rp (rp bs a) b = rp bs (a * b)
  | 0 => rfl
  | b + 1 => by
    show rp (rp bs a) b ++ rp bs a = _
    rw [rp_rp bs a b, Nat.mul_succ, rp_add]
theorem wr_nn : ∀ (l : List Int) (a : Int), 0 ≤ wr a l ∧ 0 ≤ rd a l
  | [], _ => ⟨Int.le_refl 0, Int.le_refl 0⟩
  | x :: r, a => by
    obtain ⟨h1, h2⟩ := wr_nn r x
    have i1 := imax_def 0 (x - a)
    have i2 := imax_def 0 (-(x - a))
    constructor
    · show 0 ≤ imax 0 (x - a) + wr x r; split at i1 <;> omega
    · show 0 ≤ imax 0 (-(x - a)) + rd x r; split at i2 <;> omega
/-- the words of T rounds are those of the trace written out -/
theorem words_T {reg top : Int} {bs : List Bool} (m : Mach reg top) (o : ok 0 bs) (hl : bs.length ≤ 1000) {T : Nat} (T1 : 1 ≤ T) (T2 : (T : Int) ≤ 10 ^ 30 - 1) :
    m_words_in_rounds (tx bs) (T : Int) reg top = some (wr 0 (lzl (reg - top) 0 (lv top (rp bs T))), rd 0 (lzl (reg - top) 0 (lv top (rp bs T)))) ∧ (0 ≤ wr 0 (lzl (reg - top) 0 (lv top (rp bs T))) ∧ wr 0 (lzl (reg - top) 0 (lv top (rp bs T))) ≤ 10 ^ 40) ∧ (0 ≤ rd 0 (lzl (reg - top) 0 (lv top (rp bs T))) ∧ rd 0 (lzl (reg - top) 0 (lv top (rp bs T))) ≤ 10 ^ 40) ∧ rd 0 (lzl (reg - top) 0 (lv top (rp bs T))) ≤ wr 0 (lzl (reg - top) 0 (lv top (rp bs T))) := by
  obtain ⟨m1, m2, m3, m4⟩ := id m
  obtain ⟨n, rfl⟩ : ∃ n, T = n + 1 := ⟨T - 1, by omega⟩
  have wo := words_rounds_ok m o hl n (by omega)
  obtain ⟨w1, w2⟩ := words_rounds_lazy m o n
  obtain ⟨b1, b2⟩ := wr_bound2 (g := reg - top) (top := top) (by omega) m3 o hl (n := n) (by omega)
  have e1 : wr 0 (lzl (reg - top) 0 (lv top (rp bs (n + 1)))) = WR (reg - top) top bs n := w1
  have e2 : rd 0 (lzl (reg - top) 0 (lv top (rp bs (n + 1)))) = RR (reg - top) top bs n := w2
  have key := wr_rd (lzl (reg - top) 0 (lv top (rp bs (n + 1)))) 0
  have lq := (la_bound m3 m4 (ok_rp o (n + 1)) (reg := reg)).1
  unfold la at lq
  rw [lz_lv m3 m4] at lq
  refine ⟨?_, by rw [e1]; exact b1, by rw [e2]; exact b2, by omega⟩
  rw [wo, w1, w2]
/-- a round more -/
theorem words_more {reg top : Int} (bs : List Bool) (T : Nat) : wr 0 (lzl (reg - top) 0 (lv top (rp bs T))) ≤ wr 0 (lzl (reg - top) 0 (lv top (rp bs (T + 1)))) ∧ rd 0 (lzl (reg - top) 0 (lv top (rp bs T))) ≤ rd 0 (lzl (reg - top) 0 (lv top (rp bs (T + 1)))) := by
  rw [lv_rp, lzl_app, (wr_app _ _ _).1, (wr_app _ _ _).2.1]
  have := wr_nn (lzl (reg - top) (lst 0 (lzl (reg - top) 0 (lv top (rp bs T)))) ((hs 0 bs).map (lf (top - T * dp 0 bs)))) (lst 0 (lzl (reg - top) 0 (lv top (rp bs T))))
  omega
theorem traps_more (r top : Int) (bs : List Bool) (T : Nat) : (gr r (lv top (rp bs T))).1 ≤ (gr r (lv top (rp bs (T + 1)))).1 := by
  have := gfold_le r ((hs 0 bs).map (lf (top - T * dp 0 bs))) (ST r top bs T)
  rw [← ST_succ] at this
  exact this.1
end Zm
/-! Closed traces side by side; traces turned: words and traps. -/
namespace Zm
open PySem PySem.Spec PyProof.Rows L2 Z
theorem beside_step {reg top a b d q A B A' B' : Int} (h0 : 0 ≤ top) (h1 : top ≤ reg) (ha : 0 ≤ a) (hq : Pl reg top d q) (e1 : A - B = a) (e2 : A' - B' = b) (i1 : A ≤ A') (i2 : B ≤ B') :
    A + imax 0 (nx reg top a d - a) ≤ A' + imax 0 (q - b) ∧ B + imax 0 (-(nx reg top a d - a)) ≤ B' + imax 0 (-(q - b)) := by
  obtain ⟨p1, p2, p3⟩ := hq
  unfold nx
  simp only [imax_def]
  by_cases z : 0 < q
  · have := p2 z
    constructor <;> (repeat' split) <;> omega
  · constructor <;> (repeat' split) <;> omega
theorem least {reg top : Int} (h0 : 0 ≤ top) (h1 : top ≤ reg) : ∀ (D q : List Int) (a b A B A' B' : Int), Pl2 reg top D q → 0 ≤ a → A - B = a → A' - B' = b → A ≤ A' → B ≤ B' → A + wr a (lz reg top a D) ≤ A' + wr b q ∧ B + rd a (lz reg top a D) ≤ B' + rd b q
  | [], [], a, b, A, B, A', B', _, _, _, _, i1, i2 => by
    show A + 0 ≤ A' + 0 ∧ B + 0 ≤ B' + 0
    omega
  | d :: D, y :: q, a, b, A, B, A', B', hp, ha, e1, e2, i1, i2 => by
    obtain ⟨g1, g2⟩ := beside_step h0 h1 ha hp.1 e1 e2 i1 i2
    have v1 : imax 0 (nx reg top a d - a) - imax 0 (-(nx reg top a d - a)) = nx reg top a d - a := by simp only [imax_def]; (repeat' split) <;> omega
    have v2 : imax 0 (y - b) - imax 0 (-(y - b)) = y - b := by simp only [imax_def]; (repeat' split) <;> omega
    have ih := least h0 h1 D q (nx reg top a d) y _ _ _ _ hp.2 (nx_pl (d := d) h0 h1 ha).2.2 (by rw [show ∀ p q r t : Int, p + q - (r + t) = (p - r) + (q - t) by intros; omega, v1]; omega) (by rw [show ∀ p q r t : Int, p + q - (r + t) = (p - r) + (q - t) by intros; omega, v2]; omega) g1 g2
    show A + (imax 0 (nx reg top a d - a) + wr (nx reg top a d) (lz reg top (nx reg top a d) D)) ≤ A' + (imax 0 (y - b) + wr y q) ∧ B + (imax 0 (-(nx reg top a d - a)) + rd _ _) ≤ B' + (imax 0 (-(y - b)) + rd y q)
    rw [← Int.add_assoc, ← Int.add_assoc, ← Int.add_assoc, ← Int.add_assoc]
    exact ih
  | [], _ :: _, _, _, _, _, _, _, h, _, _, _, _, _ => h.elim
  | _ :: _, [], _, _, _, _, _, _, h, _, _, _, _, _ => h.elim
def shf (a : Int) (r : Rec) : Rec := (r.1 + a, r.2.1.map (· + a), r.2.2.1, r.2.2.2)
theorem fe_shift (c a : Int) : ∀ (l : List Int) (e : Int), fe c (e + a) l = (fe c e l).map (· + a)
  | [], _ => rfl
  | x :: r, e => by
    show (if x < c then some (e + a) else fe c (e + a + 1) r) = Option.map (· + a) (if x < c then some e else fe c (e + 1) r)
    by_cases q : x < c
    · rw [if_pos q, if_pos q]; rfl
    · rw [if_neg q, if_neg q, show e + a + 1 = e + 1 + a by omega, fe_shift c a r]
theorem cls_shift (a : Int) : ∀ (l : List Int) (i : Int), cls (i + a) l = (cls i l).map (shf a)
  | [], _ => rfl
  | [_], _ => rfl
  | x :: y :: r, i => by
    have ih := cls_shift a (y :: r) (i + 1)
    rw [show i + 1 + a = i + a + 1 by omega] at ih
    by_cases q : x < y
    · rw [show cls (i + a) (x :: y :: r) = crec (i + a) y r :: cls (i + a + 1) (y :: r) from if_pos q, show cls i (x :: y :: r) = crec i y r :: cls (i + 1) (y :: r) from if_pos q, List.map_cons, ih]
      congr 1
      unfold crec shf
      rw [show i + a + 1 = i + 1 + a by omega, fe_shift, Option.map_map, Option.map_map]
      congr 2
      cases fe y (i + 1) (y :: r) with
      | none => rfl
      | some e => show some (e + a - 1) = some (e - 1 + a); rw [show e + a - 1 = e - 1 + a by omega]
    · rw [show cls (i + a) (x :: y :: r) = cls (i + a + 1) (y :: r) from if_neg q, show cls i (x :: y :: r) = cls (i + 1) (y :: r) from if_neg q, ih]
theorem fe_app {c : Int} : ∀ (l m : List Int) (e e' : Int), fe c e l = some e' → fe c e (l ++ m) = some e'
  | [], _, _, _, h => by cases h
  | x :: r, m, e, e', h => by
    show (if x < c then some e else fe c (e + 1) (r ++ m)) = _
    change (if x < c then some e else fe c (e + 1) r) = _ at h
    by_cases q : x < c
    · rw [if_pos q] at h ⊢; exact h
    · rw [if_neg q] at h ⊢; exact fe_app r m _ _ h
theorem mx_app {c : Int} : ∀ (l m : List Int) (b e e' : Int), fe c e l = some e' → mx c b (l ++ m) = mx c b l
  | [], _, _, _, _, h => by cases h
  | x :: r, m, b, e, e', h => by
    change (if x < c then some e else fe c (e + 1) r) = _ at h
    show (if x < c then b else mx c (imax b x) (r ++ m)) = if x < c then b else mx c (imax b x) r
    by_cases q : x < c
    · rw [if_pos q, if_pos q]
    · rw [if_neg q] at h
      rw [if_neg q, if_neg q, mx_app r m _ _ _ h]
theorem fe_last {c : Int} : ∀ (l : List Int) (x e : Int), lst x l < c → ∃ e', fe c e (x :: l) = some e'
  | [], x, e, h => ⟨e, if_pos h⟩
  | y :: r, x, e, h => by
    show ∃ e', (if x < c then some e else fe c (e + 1) (y :: r)) = some e'
    by_cases q : x < c
    · exact ⟨e, if_pos q⟩
    · rw [if_neg q]; exact fe_last r y (e + 1) h
theorem low_same {r : Int} (r0 : 0 ≤ r) : ∀ (l : List Int) (c h h' : Int), (∀ x ∈ l, 0 ≤ x) → 0 ≤ h → h ≤ r → 0 ≤ h' → h' ≤ r → (l.foldl (gstep r) (c, 0, h)).1 = (l.foldl (gstep r) (c, 0, h')).1
  | [], _, _, _, _, _, _, _, _ => rfl
  | x :: l, c, h, h', hx, a0, a1, b0, b1 => by
    have x0 := hx x List.mem_cons_self
    rw [List.foldl_cons, List.foldl_cons]
    have i : imin 0 x = 0 := imin_of x0
    have e1 := imax_def h x
    have e2 := imax_def h' x
    by_cases q : r < x
    · have s1 : gstep r (c, 0, h) x = (c + 1, x, x) := by unfold gstep; dsimp only; rw [i, if_pos (by split at e1 <;> omega)]
      have s2 : gstep r (c, 0, h') x = (c + 1, x, x) := by unfold gstep; dsimp only; rw [i, if_pos (by split at e2 <;> omega)]
      rw [s1, s2]
    · have s1 : gstep r (c, 0, h) x = (c, 0, imax h x) := by unfold gstep; dsimp only; rw [i, if_neg (by split at e1 <;> omega)]
      have s2 : gstep r (c, 0, h') x = (c, 0, imax h' x) := by unfold gstep; dsimp only; rw [i, if_neg (by split at e2 <;> omega)]
      rw [s1, s2]
      exact low_same r0 l c _ _ (fun y hy => hx y (List.mem_cons_of_mem _ hy)) (by split at e1 <;> omega) (by split at e1 <;> omega) (by split at e2 <;> omega) (by split at e2 <;> omega)
/-! ### one behind the other -/
theorem cls_append : ∀ (r S : List Int) (x i : Int), Lev (x :: r) → lst x r = 0 → cls i (x :: r ++ S) = cls i (x :: r) ++ cls (i + r.length) (0 :: S) ∧ ∀ k ∈ cls i (x :: r), ∃ e, k.2.1 = some e
  | [], S, x, i, lv, h => by
    have x0 : x = 0 := h
    subst x0
    refine ⟨?_, fun k hk => by cases hk⟩
    show cls i (0 :: S) = [] ++ cls (i + ((0 : Nat) : Int)) (0 :: S)
    rw [List.nil_append, show i + ((0 : Nat) : Int) = i by omega]
  | y :: r, S, x, i, lv, h => by
    have hy : lst y r = 0 := h
    obtain ⟨ih1, ih2⟩ := cls_append r S y (i + 1) lv.2.2 hy
    have x0 := lv.2.1
    have el : i + 1 + ((r.length : Nat) : Int) = i + (((y :: r).length : Nat) : Int) := by rw [List.length_cons]; omega
    rw [el] at ih1
    by_cases q : x < y
    · have e1 : cls i (x :: y :: r ++ S) = crec i y (r ++ S) :: cls (i + 1) (y :: r ++ S) := if_pos q
      have e2 : cls i (x :: y :: r) = crec i y r :: cls (i + 1) (y :: r) := if_pos q
      obtain ⟨e', he⟩ := fe_last (c := y) r y (i + 1) (by rw [hy]; omega)
      have f1 := fe_app (y :: r) S _ _ he
      have f2 := mx_app (c := y) (y :: r) S y _ _ he
      have ec : crec i y (r ++ S) = crec i y r := by
        unfold crec
        rw [← List.cons_append, f1, f2, he]
      rw [e1, e2, ih1, ec]
      refine ⟨rfl, fun k hk => ?_⟩
      rcases List.mem_cons.mp hk with z | z
      · rw [z]; exact ⟨e' - 1, by unfold crec; rw [he]; rfl⟩
      · exact ih2 k z
    · have e1 : cls i (x :: y :: r ++ S) = cls (i + 1) (y :: r ++ S) := if_neg q
      have e2 : cls i (x :: y :: r) = cls (i + 1) (y :: r) := if_neg q
      rw [e1, e2]
      exact ⟨ih1, ih2⟩
theorem cls_hts : ∀ (l : List Int) (i : Int), Lev l → (cls i l).map (fun c => c.2.2.2) = hts (plv l)
  | [], _, _ => rfl
  | [_], _, _ => rfl
  | x :: y :: R, i, h => by
    have e1 : cls i (x :: y :: R) = if x < y then crec i y R :: cls (i + 1) (y :: R) else cls (i + 1) (y :: R) := rfl
    have e2 : plv (x :: y :: R) = if x < y then y :: plv (y :: R) else plv (y :: R) := rfl
    rw [e1, e2]
    by_cases q : x < y
    · rw [if_pos q, if_pos q, List.map_cons, cls_hts (y :: R) _ h.2.2]
      show (mx y y (y :: R) - y + 1) :: _ = (Hs y (plv (y :: R)) + 1) :: _
      rw [height_eq h.2.2]
    · rw [if_neg q, if_neg q, cls_hts (y :: R) _ h.2.2]
section
variable {as bs : List Bool} {top : Int}
theorem lv_app (hz : dp 0 as = 0) : lv top (as ++ bs) = lv top as ++ (hs 0 bs).map (lf top) := by
  rw [lv_lf, lv_lf, hs_app, hz, List.map_append]; rfl
theorem lst_lv (h0 : 0 ≤ top) (hz : dp 0 as = 0) : lst 0 ((hs 0 as).map (lf top)) = 0 := by
  have e := lst_lf top as
  have c0 : lf top 0 = 0 := by unfold lf; exact imax_of' (by omega)
  rw [hz, Int.sub_zero, c0] at e
  exact e
theorem cls_both (h0 : 0 ≤ top) (hz : dp 0 as = 0) : cls 0 (lv top (as ++ bs)) = cls 0 (lv top as) ++ (cls 0 (lv top bs)).map (shf as.length) := by
  rw [lv_app hz, lv_lf, List.cons_append]
  have lev : Lev (0 :: (hs 0 as).map (lf top)) := lv_lev h0 as
  have e := (cls_append ((hs 0 as).map (lf top)) ((hs 0 bs).map (lf top)) 0 0 lev (lst_lv h0 hz)).1
  rw [List.length_map, hs_len] at e
  rw [← cls_shift]
  exact e
theorem ht_both (h0 : 0 ≤ top) (hz : dp 0 as = 0) : ht top (as ++ bs) = ht top as ++ ht top bs := by
  unfold ht
  rw [← cls_hts _ 0 (lv_lev h0 (as ++ bs)), cls_both h0 hz, List.map_append, List.map_map, cls_hts _ 0 (lv_lev h0 as), ← cls_hts _ 0 (lv_lev h0 bs)]
  rfl
theorem lz_both {reg : Int} (h0 : 0 ≤ top) (h1 : top ≤ reg) (hz : dp 0 as = 0) : lz reg top 0 (0 :: hs 0 (as ++ bs)) = lz reg top 0 (0 :: hs 0 as) ++ lz reg top 0 (hs 0 bs) ∧ lz reg top 0 (0 :: hs 0 bs) = 0 :: lz reg top 0 (hs 0 bs) := by
  constructor
  · rw [la_app h0 h1]
    unfold lb
    rw [la_zero h0 h1 hz, hz]
  · show nx reg top 0 0 :: lz reg top (nx reg top 0 0) (hs 0 bs) = _
    rw [nx_same ⟨by omega, fun h => absurd h (by decide), Int.le_refl 0⟩]
theorem gr_both {r : Int} (r0 : 0 ≤ r) (h0 : 0 ≤ top) (hz : dp 0 as = 0) : (gr r (lv top (as ++ bs))).1 = (gr r (lv top as)).1 + (gr r (lv top bs)).1 := by
  have low : ∀ (l : List Int) (s : GS), 0 ≤ s.2.1 → (∀ x ∈ l, 0 ≤ x) → 0 ≤ (l.foldl (gstep r) s).2.1 := fun l => by
    induction l with
    | nil => intro s h _; exact h
    | cons x l ih =>
      intro s h hx
      have x0 := hx x List.mem_cons_self
      refine ih _ ?_ fun y hy => hx y (List.mem_cons_of_mem _ hy)
      unfold gstep
      have := imin_def s.2.1 x
      split
      · exact x0
      · show 0 ≤ imin s.2.1 x; split at this <;> omega
  have ln : 0 ≤ (gr r (lv top as)).2.1 := low _ _ (Int.le_refl 0) fun x hx => (lv_bound h0 x hx).1
  have at_ := gfold_at r0 (lv top as) (0, 0, 0) 0 ⟨Int.le_refl 0, Int.le_refl 0, by show (0 : Int) - 0 ≤ r; omega⟩
  have e0 : lst 0 (lv top as) = 0 := lst_lv h0 hz
  rw [e0] at at_
  have gb : gr r (lv top bs) = ((hs 0 bs).map (lf top)).foldl (gstep r) (0, 0, 0) := by
    unfold gr
    rw [lv_lf, List.foldl_cons, gstep_same (p := 0) (show At r (0, 0, 0) 0 from ⟨Int.le_refl 0, Int.le_refl 0, by show (0 : Int) - 0 ≤ r; omega⟩)]
  have ga : gr r (lv top (as ++ bs)) = ((hs 0 bs).map (lf top)).foldl (gstep r) (gr r (lv top as)) := by
    unfold gr
    rw [lv_app hz, List.foldl_append]
  rw [ga, gb]
  have at2 : At r (gr r (lv top as)) 0 := at_
  generalize gr r (lv top as) = s at *
  obtain ⟨c, lo, hi⟩ := s
  obtain ⟨a1, a2, a3⟩ := at2
  dsimp only at a1 a2 a3 ln
  have e : lo = 0 := by omega
  subst e
  have pos : ∀ x ∈ (hs 0 bs).map (lf top), 0 ≤ x := fun x hx => by
    obtain ⟨y, _, rfl⟩ := List.mem_map.mp hx
    unfold lf; rw [imax_def]; split <;> omega
  have g := gfold_add r c ((hs 0 bs).map (lf top)) (0, 0, hi)
  have g' : ((hs 0 bs).map (lf top)).foldl (gstep r) (c, 0, hi) = ((((hs 0 bs).map (lf top)).foldl (gstep r) (0, 0, hi)).1 + c, (((hs 0 bs).map (lf top)).foldl (gstep r) (0, 0, hi)).2) := by
    have := g
    simp only [Int.zero_add] at this
    exact this
  rw [g']
  show (((hs 0 bs).map (lf top)).foldl (gstep r) (0, 0, hi)).1 + c = c + _
  rw [low_same r0 _ 0 hi 0 pos a2 (by omega) (Int.le_refl 0) r0]
  omega
end
/-! ### from the end to the beginning -/
def upw : List Int → Int
  | x :: y :: r => imax 0 (y - x) + upw (y :: r)
  | _ => 0
def dnw : List Int → Int
  | x :: y :: r => imax 0 (-(y - x)) + dnw (y :: r)
  | _ => 0
def chw : List Int → Int
  | x :: y :: r => (if x = y then 0 else 1) + chw (y :: r)
  | _ => 0
theorem wr_upw : ∀ (r : List Int) (x : Int), wr x r = upw (x :: r) ∧ rd x r = dnw (x :: r) ∧ tp x r = chw (x :: r)
  | [], _ => ⟨rfl, rfl, rfl⟩
  | y :: r, x => by
    obtain ⟨a, b, c⟩ := wr_upw r y
    refine ⟨?_, ?_, ?_⟩
    · show imax 0 (y - x) + wr y r = imax 0 (y - x) + upw (y :: r); rw [a]
    · show imax 0 (-(y - x)) + rd y r = imax 0 (-(y - x)) + dnw (y :: r); rw [b]
    · show (if (!decide (y - x = (0 : Int))) = true then (1 : Int) else 0) + tp y r = (if x = y then 0 else 1) + chw (y :: r)
      rw [c]
      by_cases q : x = y
      · rw [if_pos q, if_neg (by simp; omega)]
      · rw [if_neg q, if_pos (by simp; omega)]
theorem upw_snoc : ∀ (l : List Int) (a b : Int), upw (l ++ [a, b]) = upw (l ++ [a]) + imax 0 (b - a) ∧ dnw (l ++ [a, b]) = dnw (l ++ [a]) + imax 0 (-(b - a)) ∧ chw (l ++ [a, b]) = chw (l ++ [a]) + if a = b then 0 else 1
  | [], a, b => by
    refine ⟨?_, ?_, ?_⟩
    · show imax 0 (b - a) + 0 = 0 + _; omega
    · show imax 0 (-(b - a)) + 0 = 0 + _; omega
    · show (if a = b then (0 : Int) else 1) + 0 = 0 + _; omega
  | [x], a, b => by
    refine ⟨?_, ?_, ?_⟩
    · show imax 0 (a - x) + (imax 0 (b - a) + 0) = imax 0 (a - x) + 0 + _; omega
    · show imax 0 (-(a - x)) + (imax 0 (-(b - a)) + 0) = imax 0 (-(a - x)) + 0 + _; omega
    · show (if x = a then (0 : Int) else 1) + ((if a = b then (0 : Int) else 1) + 0) = (if x = a then (0 : Int) else 1) + 0 + _; omega
  | x :: y :: l, a, b => by
    obtain ⟨h1, h2, h3⟩ := upw_snoc (y :: l) a b
    refine ⟨?_, ?_, ?_⟩
    · show imax 0 (y - x) + upw (y :: l ++ [a, b]) = imax 0 (y - x) + upw (y :: l ++ [a]) + _; rw [h1]; omega
    · show imax 0 (-(y - x)) + dnw (y :: l ++ [a, b]) = imax 0 (-(y - x)) + dnw (y :: l ++ [a]) + _; rw [h2]; omega
    · show (if x = y then (0 : Int) else 1) + chw (y :: l ++ [a, b]) = (if x = y then (0 : Int) else 1) + chw (y :: l ++ [a]) + _; rw [h3]; omega
theorem rev_w : ∀ l : List Int, upw l.reverse = dnw l ∧ dnw l.reverse = upw l ∧ chw l.reverse = chw l
  | [] => ⟨rfl, rfl, rfl⟩
  | [_] => ⟨rfl, rfl, rfl⟩
  | x :: y :: r => by
    obtain ⟨a, b, c⟩ := rev_w (y :: r)
    rw [List.reverse_cons] at a b c
    have e : (x :: y :: r).reverse = r.reverse ++ [y, x] := by simp
    obtain ⟨s1, s2, s3⟩ := upw_snoc r.reverse y x
    rw [e, s1, s2, s3, a, b, c]
    refine ⟨?_, ?_, ?_⟩
    · show dnw (y :: r) + imax 0 (x - y) = imax 0 (-(y - x)) + dnw (y :: r)
      rw [show -(y - x) = x - y by omega]; omega
    · show upw (y :: r) + imax 0 (-(x - y)) = imax 0 (y - x) + upw (y :: r)
      rw [show -(x - y) = y - x by omega]; omega
    · show chw (y :: r) + (if y = x then (0 : Int) else 1) = (if x = y then 0 else 1) + chw (y :: r)
      by_cases q : x = y
      · rw [if_pos q, if_pos q.symm]; omega
      · rw [if_neg q, if_neg (fun z => q z.symm)]; omega
theorem pl2_app {reg top : Int} : ∀ {d n d' n' : List Int}, Pl2 reg top d n → Pl2 reg top d' n' → Pl2 reg top (d ++ d') (n ++ n')
  | [], [], _, _, _, h => h
  | x :: d, y :: n, _, _, h, h' => ⟨h.1, pl2_app h.2 h'⟩
theorem pl2_rev {reg top : Int} : ∀ {d n : List Int}, Pl2 reg top d n → Pl2 reg top d.reverse n.reverse
  | [], [], _ => trivial
  | x :: d, y :: n, h => by
    rw [List.reverse_cons, List.reverse_cons]
    exact pl2_app (pl2_rev h.2) ⟨h.1, trivial⟩
/-- a plan of a closed trace, from the end on -/
theorem plan_rev {reg top : Int} (h0 : 0 ≤ top) {bs : List Bool} (hz : dp 0 bs = 0) {ns : List Int} (h : Pl2 reg top (0 :: hs 0 bs) ns) : Pl2 reg top (0 :: hs 0 (tr bs)) ns.reverse ∧ wr 0 ns.reverse = rd 0 ns ∧ rd 0 ns.reverse = wr 0 ns ∧ tp 0 ns.reverse = tp 0 ns := by
  have p := pl2_rev h
  rw [← tr_hs hz] at p
  obtain ⟨q, e⟩ := pl_zero h0 h
  obtain ⟨q', e'⟩ := pl_zero h0 p
  have z : ∀ l : List Int, wr 0 (0 :: l) = upw (0 :: l) ∧ rd 0 (0 :: l) = dnw (0 :: l) ∧ tp 0 (0 :: l) = chw (0 :: l) := fun l => by
    obtain ⟨a, b, c⟩ := wr_upw l 0
    refine ⟨?_, ?_, ?_⟩
    · show imax 0 (0 - 0) + wr 0 l = _; rw [a]; exact Int.zero_add _
    · show imax 0 (-(0 - 0)) + rd 0 l = _; rw [b]; exact Int.zero_add _
    · show (if (!decide ((0 : Int) - 0 = (0 : Int))) = true then (1 : Int) else 0) + tp 0 l = _; rw [c]; exact Int.zero_add _
  obtain ⟨a1, a2, a3⟩ := z q
  obtain ⟨b1, b2, b3⟩ := z q'
  obtain ⟨r1, r2, r3⟩ := rev_w ns
  refine ⟨p, ?_⟩
  rw [e'] at r1 r2 r3
  rw [e', b1, b2, b3, r1, r2, r3, e, a1, a2, a3]
  exact ⟨rfl, rfl, rfl⟩
/-- the words and the traps of a turned trace -/
theorem turned_same {reg top : Int} {bs : List Bool} (m : Mach reg top) (o : ok 0 bs) (hl : bs.length ≤ 1000) (hz : dp 0 bs = 0) : wr 0 (lz reg top 0 (0 :: hs 0 (tr bs))) = wr 0 (lz reg top 0 (0 :: hs 0 bs)) ∧ rd 0 (lz reg top 0 (0 :: hs 0 (tr bs))) = rd 0 (lz reg top 0 (0 :: hs 0 bs)) ∧ (gr (reg - top) (lv top (tr bs))).1 = (gr (reg - top) (lv top bs)).1 := by
  have one : ∀ {bs : List Bool}, ok 0 bs → bs.length ≤ 1000 → dp 0 bs = 0 → wr 0 (lz reg top 0 (0 :: hs 0 (tr bs))) ≤ wr 0 (lz reg top 0 (0 :: hs 0 bs)) ∧ rd 0 (lz reg top 0 (0 :: hs 0 (tr bs))) ≤ rd 0 (lz reg top 0 (0 :: hs 0 bs)) ∧ (gr (reg - top) (lv top (tr bs))).1 ≤ (gr (reg - top) (lv top bs)).1 := fun {bs} o hl hz => by
    obtain ⟨m1, m2, m3, m4⟩ := id m
    have pl := lz_pl m3 m4 (0 :: hs 0 bs) 0 (Int.le_refl 0)
    obtain ⟨p1, p2, p3, p4⟩ := plan_rev m3 hz pl
    have le := least m3 m4 _ _ 0 0 0 0 0 0 p1 (Int.le_refl 0) rfl rfl (Int.le_refl 0) (Int.le_refl 0)
    have key := wr_rd (lz reg top 0 (0 :: hs 0 bs)) 0
    have l0 := la_zero m3 m4 hz
    unfold la at l0
    have bp := pg_plan m (gb_grp (bs := bs) m)
    obtain ⟨q1, q2, q3, q4⟩ := plan_rev m3 hz bp
    have low := plan_traps m3 m4 q1
    have bc := best_counts o hl m
    rw [counts_ok o hl m bp] at bc
    have e := congrArg (fun x : Option (Int × Int × Int) => (x.getD (0, 0, 0)).2.2) bc
    have e' : tp 0 (pg (reg - top) 0 (GB reg top bs)) = (gr (reg - top) (lv top bs)).1 := e
    refine ⟨by omega, by omega, by omega⟩
  obtain ⟨a1, a2, a3⟩ := one o hl hz
  obtain ⟨b1, b2, b3⟩ := one (tr_ok hz o) (by rw [tr_len]; exact hl) (tr_dp hz)
  rw [tr_tr] at b1 b2 b3
  exact ⟨by omega, by omega, by omega⟩
theorem tr_app (as bs : List Bool) : tr (as ++ bs) = tr bs ++ tr as := by unfold tr; simp
end Zm
/-! Traces that are alike: by open heights, and on each machine; futures; nests. -/
namespace Zm
open PySem PySem.Spec PyProof.Rows L2 Z
theorem falls_lt : ∀ {l : List Int} {x : Int}, Falls (x :: l) → ∀ y ∈ l, y < x
  | [], _, _, y, hy => by cases hy
  | z :: r, x, f, y, hy => by
    rcases List.mem_cons.mp hy with e | e
    · rw [e]; exact f.1
    · have := falls_lt f.2 y e
      have := f.1
      omega
/-- numbers that fall are known by how many are above each number -/
theorem cg_det : ∀ {l m : List Int}, Falls l → Falls m → (∀ x ∈ l, 1 ≤ x) → (∀ x ∈ m, 1 ≤ x) → (∀ g, 0 ≤ g → cg g l = cg g m) → l = m
  | [], [], _, _, _, _, _ => rfl
  | [], y :: s, _, _, _, hm, h => by
    have e := h 0 (Int.le_refl 0)
    have c := cg_len 0 s
    have y1 := hm y List.mem_cons_self
    have : (0 : Int) = (if 0 < y then 1 else 0) + cg 0 s := e
    rw [if_pos (by omega)] at this
    omega
  | x :: r, [], _, _, hl, _, h => by
    have e := h 0 (Int.le_refl 0)
    have c := cg_len 0 r
    have x1 := hl x List.mem_cons_self
    have : (if 0 < x then 1 else 0) + cg 0 r = (0 : Int) := e
    rw [if_pos (by omega)] at this
    omega
  | x :: r, y :: s, fl, fm, hl, hm, h => by
    have x1 := hl x List.mem_cons_self
    have y1 := hm y List.mem_cons_self
    have hx := falls_lt fl
    have hy := falls_lt fm
    have exy : x = y := by
      rcases Int.lt_trichotomy x y with q | q | q
      · have e : (if x < x then (1 : Int) else 0) + cg x r = (if x < y then 1 else 0) + cg x s := h x (by omega)
        rw [if_neg (by omega), if_pos q, cg_none fun z hz => by have := hx z hz; omega] at e
        have := cg_len x s
        omega
      · exact q
      · have e : (if y < x then (1 : Int) else 0) + cg y r = (if y < y then 1 else 0) + cg y s := h y (by omega)
        rw [if_pos q, if_neg (Int.lt_irrefl y), cg_none (l := s) fun z hz => by have := hy z hz; omega] at e
        have := cg_len y r
        omega
    subst exy
    refine congrArg (x :: ·) (cg_det (falls_tail fl) (falls_tail fm) (fun z hz => hl z (List.mem_cons_of_mem _ hz)) (fun z hz => hm z (List.mem_cons_of_mem _ hz)) fun g g0 => ?_)
    have e : (if g < x then (1 : Int) else 0) + cg g r = (if g < x then 1 else 0) + cg g s := h g g0
    omega
/-- alike on a machine -/
def alk (reg top : Int) (as bs : List Bool) : Bool := decide (dp 0 as - la reg top as = dp 0 bs - la reg top bs) && (decide (top = 0) || decide (la reg top as = la reg top bs))
theorem alk_iff {reg top : Int} {as bs : List Bool} : alk reg top as bs = true ↔ dp 0 as - la reg top as = dp 0 bs - la reg top bs ∧ (top = 0 ∨ la reg top as = la reg top bs) := by
  unfold alk; simp
/-- alike for all registers -/
def alr (top : Int) (as bs : List Bool) : Prop := dp 0 as = dp 0 bs ∧ og (lv top as) = og (lv top bs)
theorem og_far {top far : Int} (h0 : 0 ≤ top) (hf : top ≤ far) {bs : List Bool} (hd : ∀ d ∈ hs 0 bs, d ≤ far) : ∀ h ∈ og (lv top bs), h ≤ far - top := fun h hh => by
  have a := og_le h hh
  have b := mn_nn (lv_lev h0 bs)
  have c : mxa (lv top bs) ≤ far - top := mxa_le (by omega) fun x hx => by
    rcases List.mem_cons.mp hx with e | e
    · omega
    · obtain ⟨y, hy, rfl⟩ := List.mem_map.mp e
      have := hd y hy
      show imax 0 (y - top) ≤ _
      rw [imax_def]; split <;> omega
  omega
theorem alr_alk {reg top : Int} (m : Mach reg top) {as bs : List Bool} (h : alr top as bs) : alk reg top as bs = true := by
  rw [alk_iff, la_eq m, la_eq m, h.1, h.2]
  exact ⟨rfl, .inr rfl⟩
theorem alk_alr {top far : Int} (h0 : 0 ≤ top) (hf : top < far) (hf2 : far ≤ 10 ^ 30 - 1) {as bs : List Bool} (ha : ∀ d ∈ hs 0 as, d ≤ far) (hb : ∀ d ∈ hs 0 bs, d ≤ far) (h : ∀ reg, 1 ≤ reg → top ≤ reg → reg ≤ far → alk reg top as bs = true) : alr top as bs := by
  have oa := og_far h0 (Int.le_of_lt hf) ha
  have ob := og_far h0 (Int.le_of_lt hf) hb
  have mf : Mach far top := ⟨by omega, hf2, h0, by omega⟩
  have ed : dp 0 as = dp 0 bs := by
    have e := (alk_iff.mp (h far (by omega) (by omega) (Int.le_refl _))).1
    rw [la_eq mf, la_eq mf, cg_none oa, cg_none ob] at e
    omega
  refine ⟨ed, cg_det (og_falls _) (og_falls _) (fun x hx => (og_le x hx).1) (fun x hx => (og_le x hx).1) fun g g0 => ?_⟩
  by_cases q : g ≤ far - top
  · by_cases q0 : 1 ≤ g + top
    · have m : Mach (g + top) top := ⟨q0, by omega, h0, by omega⟩
      obtain ⟨e1, _⟩ := alk_iff.mp (h (g + top) q0 (by omega) (by omega))
      rw [la_eq m, la_eq m, Int.add_sub_cancel] at e1
      omega
    · have gz : g = 0 := by omega
      subst gz
      have l1 := og_level h0 as
      have l2 := og_level h0 bs
      rw [cg_every fun x hx => by have := og_le x hx; omega, cg_every (l := og (lv top bs)) fun x hx => by have := og_le x hx; omega, l1, l2, ed]
  · rw [cg_none fun x hx => by have := oa x hx; omega, cg_none (l := og (lv top bs)) fun x hx => by have := ob x hx; omega]
theorem alk_symm (reg top : Int) (as bs : List Bool) : alk reg top as bs = alk reg top bs as := by
  rw [Bool.eq_iff_iff, alk_iff, alk_iff]
  constructor <;> intro ⟨a, b⟩ <;> exact ⟨a.symm, b.imp id Eq.symm⟩
/-! futures -/
theorem nx_shift {reg d d' a a' : Int} (r0 : 0 ≤ reg) (e : d - a = d' - a') (h : 0 ≤ d) (h' : 0 ≤ d') : d - nx reg 0 a d = d' - nx reg 0 a' d' := by
  unfold nx
  (repeat' split) <;> omega
theorem fut0 {reg : Int} (r0 : 0 ≤ reg) : ∀ (fs : List Bool) (d d' a a' : Int), d - a = d' - a' → ok d fs → ok d' fs → df a (lz reg 0 a (hs d fs)) = df a' (lz reg 0 a' (hs d' fs)) ∧ dp d fs - lst a (lz reg 0 a (hs d fs)) = dp d' fs - lst a' (lz reg 0 a' (hs d' fs))
  | [], d, d', a, a', e, _, _ => ⟨rfl, e⟩
  | b :: r, d, d', a, a', e, o, o' => by
    have s := nx_shift (reg := reg) (d := d + dl b) (d' := d' + dl b) (a := a) (a' := a') r0 (by omega) o.1 o'.1
    obtain ⟨i1, i2⟩ := fut0 r0 r (d + dl b) (d' + dl b) (nx reg 0 a (d + dl b)) (nx reg 0 a' (d' + dl b)) s o.2 o'.2
    refine ⟨?_, i2⟩
    show (nx reg 0 a (d + dl b) - a) :: df _ _ = (nx reg 0 a' (d' + dl b) - a') :: df _ _
    rw [i1, show nx reg 0 a (d + dl b) - a = nx reg 0 a' (d' + dl b) - a' by omega]
theorem alk_future {reg top : Int} (m : Mach reg top) {as bs fs : List Bool} (h : alk reg top as bs = true) (oa : ok (dp 0 as) fs) (ob : ok (dp 0 bs) fs) :
    df (la reg top as) (lb reg top as fs) = df (la reg top bs) (lb reg top bs fs) ∧ alk reg top (as ++ fs) (bs ++ fs) = true := by
  obtain ⟨m1, m2, m3, m4⟩ := id m
  obtain ⟨e1, e2⟩ := alk_iff.mp h
  by_cases q : la reg top as = la reg top bs
  · have ed : dp 0 as = dp 0 bs := by omega
    have el : lb reg top as fs = lb reg top bs fs := by unfold lb; rw [q, ed]
    refine ⟨by rw [q, el], alk_iff.mpr ?_⟩
    rw [← la_all m3 m4, ← la_all m3 m4, q, el, dp_app, dp_app, ed]
    exact ⟨rfl, .inr rfl⟩
  · have tz : top = 0 := e2.resolve_right q
    subst tz
    obtain ⟨i1, i2⟩ := fut0 (reg := reg) (by omega) fs (dp 0 as) (dp 0 bs) (la reg 0 as) (la reg 0 bs) e1 oa ob
    refine ⟨i1, alk_iff.mpr ⟨?_, .inl rfl⟩⟩
    rw [← la_all m3 m4, ← la_all m3 m4, dp_app, dp_app]
    exact i2
/-! nests behind a trace -/
theorem mn_last : ∀ (l : List Int) (d : Int), l ≠ [] → mn l ≤ lst d l
  | [], _, h => absurd rfl h
  | [x], _, _ => Int.le_refl x
  | x :: y :: r, d, _ => by
    have i := mn_last (y :: r) x (by simp)
    show imin x (mn (y :: r)) ≤ lst x (y :: r)
    rw [imin_def]; split <;> omega
theorem mn_app : ∀ (l t : List Int) (d : Int), l ≠ [] → (∀ y ∈ t, lst d l ≤ y) → mn (l ++ t) = mn l
  | [], _, _, h, _ => absurd rfl h
  | [x], t, d, _, ht => mn_first ht
  | x :: y :: r, t, d, _, ht => by
    have i := mn_app (y :: r) t x (by simp) ht
    show imin x (mn (y :: r ++ t)) = imin x (mn (y :: r))
    rw [i]
theorem mxa_app : ∀ (l t : List Int), l ≠ [] → t ≠ [] → mxa (l ++ t) = imax (mxa l) (mxa t)
  | [], _, h, _ => absurd rfl h
  | [x], [], _, h => absurd rfl h
  | [x], y :: t, _, _ => by
    show imax (mxa (y :: t)) x = imax x (mxa (y :: t))
    rw [imax_def, imax_def]; (repeat' split) <;> omega
  | x :: y :: r, t, _, h => by
    have i := mxa_app (y :: r) t (by simp) h
    show imax (mxa (y :: r ++ t)) x = imax (imax (mxa (y :: r)) x) (mxa t)
    rw [i]
    simp only [imax_def]; (repeat' split) <;> omega
theorem og_low : ∀ (l : List Int) (d : Int), (∀ y ∈ l, lst d l ≤ y) → og l = []
  | [], _, _ => rfl
  | [_], _, _ => rfl
  | x :: y :: r, d, h => by
    have h' : ∀ z ∈ x :: y :: r, lst x (y :: r) ≤ z := h
    have a := mn_last (y :: r) x (by simp)
    have b := h' x List.mem_cons_self
    rw [show og (x :: y :: r) = og (y :: r) from if_neg (by omega)]
    exact og_low (y :: r) x fun z hz => h' z (List.mem_cons_of_mem _ hz)
theorem og_none_mn : ∀ (l : List Int) (d : Int), l ≠ [] → og l = [] → mn l = lst d l
  | [], _, h, _ => absurd rfl h
  | [x], _, _, _ => rfl
  | x :: y :: r, d, _, h => by
    by_cases hc : x < mn (y :: r)
    · rw [show og (x :: y :: r) = (mxa (y :: r) - mn (y :: r) + 1) :: og (y :: r) from if_pos hc] at h
      exact absurd h (by simp)
    · rw [show og (x :: y :: r) = og (y :: r) from if_neg hc] at h
      have i := og_none_mn (y :: r) x (by simp) h
      show imin x (mn (y :: r)) = lst x (y :: r)
      rw [imin_def]; split <;> omega
theorem mn_le_all : ∀ {l : List Int}, ∀ z ∈ l, mn l ≤ z
  | [], z, h => by cases h
  | [x], z, h => by rw [List.mem_singleton.mp h]; exact Int.le_refl x
  | x :: y :: r, z, h => by
    show imin x (mn (y :: r)) ≤ z
    rw [imin_def]
    rcases List.mem_cons.mp h with e | e
    · split <;> omega
    · have := mn_le_all (l := y :: r) z e
      split <;> omega
/-- a nest t, up to K, behind l: as high as the topmost open call, or one call higher -/
theorem og_nest : ∀ (l : List Int) (d : Int) (t : List Int), l ≠ [] → t ≠ [] → (∀ y ∈ t, lst d l ≤ y) → lst d t = lst d l → og l ≠ [] →
    (mxa t ≤ lst d l + lst 0 (og l) - 1 → og (l ++ t) = og l) ∧ (mxa t = lst d l + lst 0 (og l) → lst 0 (og (l ++ t)) = lst 0 (og l) + 1) ∧ lst d l + lst 0 (og l) - 1 ≤ mxa l
  | [], _, _, h, _, _, _, _ => absurd rfl h
  | [x], _, _, _, _, _, _, h => absurd rfl h
  | x :: y :: r, d, t, _, tn, ht, hz, ho => by
    have ht' : ∀ z ∈ t, lst x (y :: r) ≤ z := ht
    have hz' : lst x t = lst x (y :: r) := by
      cases t with
      | nil => exact absurd rfl tn
      | cons a b => exact hz
    have em := mn_app (y :: r) t x (by simp) ht'
    have ex := mxa_app (y :: r) t (by simp) tn
    have emx : mxa (x :: y :: r) = imax (mxa (y :: r)) x := rfl
    have i := imax_def (mxa (y :: r)) (mxa t)
    have i2 := imax_def (mxa (y :: r)) x
    have el : lst d (x :: y :: r) = lst x (y :: r) := rfl
    rw [el]
    by_cases hc : x < mn (y :: r)
    · have e1 : og (x :: y :: r) = (mxa (y :: r) - mn (y :: r) + 1) :: og (y :: r) := if_pos hc
      have e2 : og (x :: y :: r ++ t) = (mxa (y :: r ++ t) - mn (y :: r ++ t) + 1) :: og (y :: r ++ t) := if_pos (by show x < mn (y :: r ++ t); rw [em]; exact hc)
      by_cases hr : og (y :: r) = []
      · have en := og_none_mn (y :: r) x (by simp) hr
        have low : og (y :: r ++ t) = [] := og_low _ x fun z hz2 => by
          rw [lst_app]
          have lt : lst (lst x (y :: r)) t = lst x (y :: r) := by
            cases t with
            | nil => rfl
            | cons a b => exact hz'
          rw [lt]
          rcases List.mem_append.mp hz2 with q | q
          · have := mn_le_all (l := y :: r) z q; omega
          · exact ht' z q
        rw [e1, e2, hr, low, em, ex]
        show (_ → [_] = [_]) ∧ (_ = lst x (y :: r) + (mxa (y :: r) - mn (y :: r) + 1) → (imax (mxa (y :: r)) (mxa t) - mn (y :: r) + 1) = _) ∧ lst x (y :: r) + (mxa (y :: r) - mn (y :: r) + 1) - 1 ≤ mxa (x :: y :: r)
        refine ⟨fun h => ?_, fun h => ?_, ?_⟩
        · have h' : mxa t ≤ lst x (y :: r) + (mxa (y :: r) - mn (y :: r) + 1) - 1 := h
          refine congrArg (· :: []) ?_
          split at i <;> omega
        · show _ = (mxa (y :: r) - mn (y :: r) + 1) + 1
          split at i <;> omega
        · split at i2 <;> omega
      · obtain ⟨j1, j2, j3⟩ := og_nest (y :: r) x t (by simp) tn ht' hz' hr
        have ll : lst 0 (og (x :: y :: r)) = lst 0 (og (y :: r)) := by
          rw [e1]
          cases q : og (y :: r) with
          | nil => exact absurd q hr
          | cons a b => rfl
        rw [ll, e2]
        refine ⟨fun h => ?_, fun h => ?_, ?_⟩
        · rw [e1, j1 h, em, ex]
          refine congrArg (· :: og (y :: r)) ?_
          split at i <;> omega
        · have := j2 h
          cases q : og (y :: r ++ t) with
          | nil =>
            rw [q] at this
            have pos : 1 ≤ lst 0 (og (y :: r)) := (og_le _ (by
              cases q2 : og (y :: r) with
              | nil => exact absurd q2 hr
              | cons a b => exact lst_mem b a)).1
            have : (0 : Int) = lst 0 (og (y :: r)) + 1 := this
            omega
          | cons a b => rw [q] at this; exact this
        · split at i2 <;> omega
    · have e1 : og (x :: y :: r) = og (y :: r) := if_neg hc
      have e2 : og (x :: y :: r ++ t) = og (y :: r ++ t) := if_neg (by show ¬ x < mn (y :: r ++ t); rw [em]; exact hc)
      rw [e1] at ho
      obtain ⟨j1, j2, j3⟩ := og_nest (y :: r) x t (by simp) tn ht' hz' ho
      rw [e1, e2]
      exact ⟨j1, j2, by split at i2 <;> omega⟩
def nst (k : Nat) : List Bool := List.replicate k true ++ List.replicate k false
theorem hs_ups : ∀ (k : Nat) (d : Int), ∀ y ∈ hs d (List.replicate k true), d ≤ y ∧ y ≤ d + k
  | 0, d, y, h => by cases h
  | k + 1, d, y, h => by
    rcases List.mem_cons.mp (show y ∈ (d + 1) :: hs (d + 1) (List.replicate k true) from h) with e | e
    · omega
    · have := hs_ups k (d + 1) y e; omega
theorem hs_downs : ∀ (k : Nat) (d : Int), ∀ y ∈ hs d (List.replicate k false), d - k ≤ y ∧ y ≤ d
  | 0, d, y, h => by cases h
  | k + 1, d, y, h => by
    rcases List.mem_cons.mp (show y ∈ (d + -1) :: hs (d + -1) (List.replicate k false) from h) with e | e
    · omega
    · have := hs_downs k (d + -1) y e; omega
theorem hs_nst (k : Nat) (d : Int) : (∀ y ∈ hs d (nst k), d ≤ y ∧ y ≤ d + k) ∧ dp d (nst k) = d ∧ (1 ≤ k → d + k ∈ hs d (nst k)) := by
  unfold nst
  rw [hs_app, dp_app, dp_ups, dp_downs]
  refine ⟨fun y hy => ?_, by omega, fun h => List.mem_append_left _ ?_⟩
  · rcases List.mem_append.mp hy with e | e
    · exact hs_ups k d y e
    · have := hs_downs k _ y e; omega
  · have a := lst_mem (hs d (List.replicate k true)) d
    rw [lst_hs, dp_ups] at a
    rcases List.mem_cons.mp a with e | e
    · omega
    · exact e
theorem ok_nst (k : Nat) {d : Int} (h : 0 ≤ d) : ok d (nst k) := (ok_app _ _ _).mpr ⟨ok_ups k d h, ok_downs k _ (by rw [dp_ups]; omega)⟩
theorem nst_len (k : Nat) : (nst k).length = 2 * k := by unfold nst; rw [List.length_append, List.length_replicate, List.length_replicate]; omega
theorem nst_tx (k : Nat) (bs : List Bool) : tx bs ++ Txt.mul (sg true) (k : Int) ++ Txt.mul (sg false) (k : Int) = tx (bs ++ nst k) := by
  rw [tx_mul, tx_mul, tx_app, tx_app]
  unfold nst
  rw [List.append_assoc, show ((k : Int)).toNat = k by omega]
theorem nest_alike {top : Int} (h0 : 0 ≤ top) {bs : List Bool} (hn : og (lv top bs) ≠ []) : ∃ k : Nat, lst 0 (og (lv top bs)) = (k : Int) + 1 ∧ alr top bs (bs ++ nst k) ∧ ¬ alr top bs (bs ++ nst (k + 1)) := by
  have lm : lst 0 (og (lv top bs)) ∈ og (lv top bs) := by
    cases q : og (lv top bs) with
    | nil => exact absurd q hn
    | cons a b => exact lst_mem b a
  have l1 := og_le _ lm
  have lev : 1 ≤ dp 0 bs - top := by
    have g := og_level h0 bs
    have : 1 ≤ (og (lv top bs)).length := by
      cases q : og (lv top bs) with
      | nil => exact absurd q hn
      | cons a b => simp
    rw [imax_def] at g
    split at g <;> omega
  have el : lst 0 (lv top bs) = dp 0 bs - top := by
    show lst 0 ((hs 0 bs).map fun h => imax 0 (h - top)) = _
    have e := lst_map (fun h => imax 0 (h - top)) (hs 0 bs) 0
    have z : imax 0 (0 - top) = 0 := imax_of' (by omega)
    rw [z] at e
    rw [e, lst_hs]
    exact imax_of (by omega)
  have app : ∀ k, lv top (bs ++ nst k) = lv top bs ++ (hs (dp 0 bs) (nst k)).map fun h => imax 0 (h - top) := fun k => by
    unfold lv; rw [hs_app, List.map_append]; rfl
  have key : ∀ k, 1 ≤ k → (∀ y ∈ (hs (dp 0 bs) (nst k)).map fun h => imax 0 (h - top), lst 0 (lv top bs) ≤ y) ∧ lst 0 ((hs (dp 0 bs) (nst k)).map fun h => imax 0 (h - top)) = lst 0 (lv top bs) ∧ mxa ((hs (dp 0 bs) (nst k)).map fun h => imax 0 (h - top)) = dp 0 bs - top + k ∧ ((hs (dp 0 bs) (nst k)).map fun h => imax 0 (h - top)) ≠ [] := fun k hk => by
    obtain ⟨a, b, c⟩ := hs_nst k (dp 0 bs)
    have mem : dp 0 bs - top + k ∈ (hs (dp 0 bs) (nst k)).map fun h => imax 0 (h - top) := List.mem_map.mpr ⟨_, c hk, (imax_of (by omega)).trans (by omega)⟩
    have bd : ∀ y ∈ (hs (dp 0 bs) (nst k)).map fun h => imax 0 (h - top), dp 0 bs - top ≤ y ∧ y ≤ dp 0 bs - top + k := fun y hy => by
      obtain ⟨x, hx, rfl⟩ := List.mem_map.mp hy
      have := a x hx
      show dp 0 bs - top ≤ imax 0 (x - top) ∧ imax 0 (x - top) ≤ _
      rw [imax_of (by omega)]; omega
    have ne : ((hs (dp 0 bs) (nst k)).map fun h => imax 0 (h - top)) ≠ [] := fun z => by rw [z] at mem; cases mem
    refine ⟨fun y hy => by rw [el]; exact (bd y hy).1, ?_, Int.le_antisymm (mxa_le (by omega) fun y hy => (bd y hy).2) (mxa_ge _ mem), ne⟩
    have e := lst_map (fun h => imax 0 (h - top)) (hs (dp 0 bs) (nst k)) (dp 0 bs)
    rw [lst_hs, b] at e
    have e2 : imax 0 (dp 0 bs - top) = dp 0 bs - top := imax_of (by omega)
    rw [e2] at e
    rw [el, ← e]
    cases q : (hs (dp 0 bs) (nst k)).map fun h => imax 0 (h - top) with
    | nil => exact absurd q ne
    | cons a b => rfl
  obtain ⟨k, ek⟩ : ∃ k : Nat, lst 0 (og (lv top bs)) = (k : Int) + 1 := ⟨(lst 0 (og (lv top bs)) - 1).toNat, by omega⟩
  refine ⟨k, ek, ⟨?_, ?_⟩, fun h => ?_⟩
  · rw [dp_app, (hs_nst k _).2.1]
  · rcases Nat.eq_zero_or_pos k with z | z
    · subst z
      show _ = og (lv top (bs ++ []))
      rw [List.append_nil]
    · obtain ⟨k1, k2, k3, k4⟩ := key k z
      rw [app k]
      exact ((og_nest (lv top bs) 0 _ (by unfold lv; simp) k4 k1 k2 hn).1 (by rw [k3, el, ek]; omega)).symm
  · obtain ⟨k1, k2, k3, k4⟩ := key (k + 1) (by omega)
    have e := h.2
    rw [app (k + 1)] at e
    have j := (og_nest (lv top bs) 0 _ (by unfold lv; simp) k4 k1 k2 hn).2.1 (by rw [k3, el, ek]; omega)
    rw [← e] at j
    omega
end Zm
/-! Turning moments; the sum over moments. -/
namespace Zm
open PySem PySem.Spec PyProof.Rows L2 Z
/-- all moved words -/
def tv (a : Int) (l : List Int) : Int := wr a l + rd a l
theorem tv_cons (a x : Int) (r : List Int) : tv a (x :: r) = (if a < x then x - a else a - x) + tv x r := by
  show imax 0 (x - a) + wr x r + (imax 0 (-(x - a)) + rd x r) = _ + (wr x r + rd x r)
  simp only [imax_def]; (repeat' split) <;> omega
theorem tv_nn : ∀ (l : List Int) (a : Int), 0 ≤ tv a l
  | [], _ => by show (0 : Int) ≤ 0 + 0; omega
  | x :: r, a => by
    have := tv_nn r x
    rw [tv_cons]; split <;> omega
/-! ### the moves, and the last one of each run of them -/
def mvs : Int → Int → List Int → List (Int × Bool)
  | _, _, [] => []
  | i, a, x :: r => if x = a then mvs (i + 1) a r else (i, decide (a < x)) :: mvs (i + 1) x r
def lr : List (Int × Bool) → List Int
  | [] => []
  | [x] => [x.1]
  | x :: y :: r => if x.2 = y.2 then lr (y :: r) else x.1 :: lr (y :: r)
theorem turning_loop : ∀ (ns : List Int) (i a : Int) (pre : List Int) (m : Int) (w : Bool), pre.length + ns.length ≤ 1000000 →
    ∃ w' a', loopM m_turning_moments_b1 (enumFrom i ns) (w, a, pre ++ [m]) = some (.go (w', a', pre ++ lr ((m, w) :: mvs i a ns)))
  | [], i, a, pre, m, w, _ => ⟨w, a, rfl⟩
  | x :: ns, i, a, pre, m, w, h => by
    rw [List.length_cons] at h
    by_cases q : x = a
    · subst q
      obtain ⟨w', a', e⟩ := turning_loop ns (i + 1) x pre m w (by omega)
      refine ⟨w', a', (loop_cons (s' := (w, x, pre ++ [m])) ?_).trans ?_⟩
      · unfold m_turning_moments_b1
        exact if_pos (decide_eq_true rfl)
      · rw [e, show mvs i x (x :: ns) = mvs (i + 1) x ns from if_pos rfl]
    · have hm : mvs i a (x :: ns) = (i, decide (a < x)) :: mvs (i + 1) x ns := if_neg q
      rw [hm]
      by_cases z : w = decide (a < x)
      · obtain ⟨w', a', e⟩ := turning_loop ns (i + 1) x pre i (decide (a < x)) (by omega)
        refine ⟨w', a', (loop_cons (s' := (decide (a < x), x, pre ++ [i])) ?_).trans ?_⟩
        · unfold m_turning_moments_b1
          refine (if_neg (by simpa using q)).trans ?_
          refine (to_bind (a := pre) ?_ _).trans ?_
          · refine (if_pos ?_).trans ?_
            · rw [Bool.and_eq_true]
              refine ⟨?_, decide_eq_true (by show V.bl w = V.bl (decide (a < x)); rw [z])⟩
              show (!(pre ++ [m]).isEmpty) = true
              simp
            · show (Z.lastZ (pre ++ [m]) >>= fun _ => some (pre ++ [m]).dropLast) = some pre
              rw [to_bind (last_app pre m), drop_snoc]
          · exact chk_bind (line_le (by omega)).2 _
        · rw [e, show lr ((m, w) :: (i, decide (a < x)) :: mvs (i + 1) x ns) = lr ((i, decide (a < x)) :: mvs (i + 1) x ns) from if_pos z]
      · obtain ⟨w', a', e⟩ := turning_loop ns (i + 1) x (pre ++ [m]) i (decide (a < x)) (by simp; omega)
        refine ⟨w', a', (loop_cons (s' := (decide (a < x), x, pre ++ [m] ++ [i])) ?_).trans ?_⟩
        · unfold m_turning_moments_b1
          refine (if_neg (by simpa using q)).trans ?_
          refine (to_bind (a := pre ++ [m]) ?_ _).trans ?_
          · refine if_neg fun y => z ?_
            rw [Bool.and_eq_true] at y
            have z2 : V.bl w = V.bl (decide (a < x)) := of_decide_eq_true y.2
            injection z2
          · exact chk_bind (line_le (by simp; omega)).2 _
        · rw [e, show lr ((m, w) :: (i, decide (a < x)) :: mvs (i + 1) x ns) = m :: lr ((i, decide (a < x)) :: mvs (i + 1) x ns) from if_neg z, List.append_assoc]; rfl
theorem turning_first : ∀ (ns : List Int) (i a : Int) (w : Bool), ns.length ≤ 1000000 →
    ∃ w' a', loopM m_turning_moments_b1 (enumFrom i ns) (w, a, []) = some (.go (w', a', lr (mvs i a ns)))
  | [], i, a, w, _ => ⟨w, a, rfl⟩
  | x :: ns, i, a, w, h => by
    rw [List.length_cons] at h
    by_cases q : x = a
    · subst q
      obtain ⟨w', a', e⟩ := turning_first ns (i + 1) x w (by omega)
      refine ⟨w', a', (loop_cons (s' := (w, x, [])) ?_).trans ?_⟩
      · unfold m_turning_moments_b1
        exact if_pos (decide_eq_true rfl)
      · rw [e, show mvs i x (x :: ns) = mvs (i + 1) x ns from if_pos rfl]
    · obtain ⟨w', a', e⟩ := turning_loop ns (i + 1) x [] i (decide (a < x)) (by simp; omega)
      refine ⟨w', a', (loop_cons (s' := (decide (a < x), x, [i])) ?_).trans ?_⟩
      · unfold m_turning_moments_b1
        refine (if_neg (by simpa using q)).trans ?_
        refine (to_bind (a := []) ?_ _).trans ?_
        · exact if_neg (by simp)
        · exact chk_bind (line_le (by simp)).2 _
      · rw [show mvs i a (x :: ns) = (i, decide (a < x)) :: mvs (i + 1) x ns from if_neg q]
        exact e
/-- the turning moments of the lazy plan -/
def tms (reg top : Int) (bs : List Bool) : List Int := lr (mvs 0 0 (lz reg top 0 (0 :: hs 0 bs)))
theorem turning_ok {bs : List Bool} {reg top : Int} (o : ok 0 bs) (hl : bs.length ≤ 1000) (m : Mach reg top) : m_turning_moments (tx bs) reg top = some (tms reg top bs) := by
  obtain ⟨w', a', e⟩ := turning_first (lz reg top 0 (0 :: hs 0 bs)) 0 0 false (by rw [lz_len, List.length_cons, hs_len]; omega)
  unfold m_turning_moments Z.enumZ
  rw [to_bind (lazy_ok o hl m), to_bind e, after_go]
  rfl
/-! ### ascending moments -/
def Asc (last : Int) : Int → List Int → Prop
  | _, [] => True
  | a, m :: r => a < m ∧ m ≤ last ∧ Asc last m r
theorem Asc.low {last : Int} : ∀ {l : List Int} {a b : Int}, b ≤ a → Asc last a l → Asc last b l
  | [], _, _, _, _ => trivial
  | m :: r, a, b, h, g => ⟨Int.lt_of_le_of_lt h g.1, g.2⟩
theorem Asc.mem {last : Int} : ∀ {l : List Int} {a : Int}, Asc last a l → ∀ m ∈ l, a < m ∧ m ≤ last
  | [], _, _, m, h => by cases h
  | x :: r, a, g, m, h => by
    rcases List.mem_cons.mp h with e | e
    · rw [e]; exact ⟨g.1, g.2.1⟩
    · have := Asc.mem g.2.2 m e; have := g.1; omega
theorem Asc.init {last : Int} : ∀ {l : List Int} {a : Int}, Asc last a l → Asc last a l.dropLast
  | [], _, _ => trivial
  | [x], _, _ => trivial
  | x :: y :: r, a, g => ⟨g.1, g.2.1, Asc.init (l := y :: r) g.2.2⟩
theorem Asc.len {last : Int} : ∀ {l : List Int} {a : Int}, Asc last a l → a ≤ last → (l.length : Int) ≤ last - a
  | [], a, _, h => by show (0 : Int) ≤ last - a; omega
  | x :: r, a, g, _ => by
    have := Asc.len g.2.2 g.2.1
    have := g.1
    rw [List.length_cons]; omega
theorem moments_loop {last : Int} : ∀ (l : List Int) (i a : Int), Asc last a l → ∃ a', loopM (m_check_moments_b1 last) (enumFrom i l) a = some (.go a')
  | [], i, a, _ => ⟨a, rfl⟩
  | m :: r, i, a, g => by
    obtain ⟨a', e⟩ := moments_loop r (i + 1) m g.2.2
    refine ⟨a', (loop_cons (s' := m) ?_).trans e⟩
    unfold m_check_moments_b1
    refine if_neg ?_
    show ¬ (!(decide (a < m) && decide (m ≤ last))) = true
    rw [decide_eq_true g.1, decide_eq_true g.2.1]; decide
theorem moments_ok {last : Int} {l : List Int} (g : Asc last (-1) l) (hl : l.length ≤ 1000000) : m_check_moments last l = some () := by
  obtain ⟨a', e⟩ := moments_loop l 0 (-1) g
  unfold m_check_moments Z.enumZ
  rw [to_bind (ints_ok hl)]
  refine (if_neg (by decide)).trans ?_
  rw [to_bind e, after_go]
/-! ### the sum -/
abbrev MS := Int × Int × Int × Bool
def mstep (s : MS) (e : Int × Int) : MS := (s.1 + (if s.2.2.2 = true then e.1 - s.2.2.1 else s.2.1 - e.2), e.1, e.2, !s.2.2.2)
theorem moved_loop : ∀ (l : List (Int × Int)) (s : MS), loopM m_moved_by_b2 l s = some (.go (l.foldl mstep s))
  | [], s => rfl
  | e :: l, s => (loop_cons (s' := mstep s e) rfl).trans (moved_loop l _)
def en2 (reg top d : Int) : Int × Int := (imax 0 (d - reg), imax 0 (d - top))
theorem ends_at_ok {ds : List Int} {reg top : Int} (hb : ∀ d ∈ ds, 0 ≤ d ∧ d ≤ 1000) (hl : ds.length ≤ 1000000) (m : Mach reg top) : m_ends_at ds reg top = some (ds.map (en2 reg top)) := by
  obtain ⟨m1, m2, m3, m4⟩ := id m
  have ge := fun x hx => lmaxD_ge (l := ds) (d := 0) x hx
  have mx : 0 ≤ Z.lmaxD ds 0 ∧ Z.lmaxD ds 0 ≤ 1000 := by
    rcases lmaxD_mem (l := ds) (d := 0) with e | e
    · rw [e]; decide
    · exact hb _ e
  obtain ⟨l1, e1, n1, a1⟩ := less_ok (n := reg) mx.1 (by omega) (by omega)
  obtain ⟨l2, e2, n2, a2⟩ := less_ok (n := top) mx.1 (by omega) m3
  unfold m_ends_at
  rw [to_bind e1, to_bind e2, chk_bind (line_le (by omega)).2]
  rw [to_bind (comp_map (f := m_ends_at_c1 l1 l2) (en2 reg top) ds fun x hx => by
    obtain ⟨k, rfl⟩ : ∃ k : Nat, x = (k : Int) := ⟨x.toNat, by have := hb x hx; omega⟩
    have hk := ge _ hx
    unfold m_ends_at_c1
    have hz : (List.zip l1 l2)[k]? = some (imax 0 ((k : Int) - reg), imax 0 ((k : Int) - top)) := List.getElem?_zip_eq_some.mpr ⟨a1 k hk, a2 k hk⟩
    rw [to_bind (atI_nat hz)]; rfl)]
/-- the ends at a moment -/
def ga (reg top : Int) (D : List Int) (m : Int) : Int × Int := en2 reg top (D.getD m.toNat 0)
def msum (reg top : Int) (D : List Int) (s : MS) (ms : List Int) : Int := ((ms.map (ga reg top D)).foldl mstep s).1
theorem summ_ok {bs : List Bool} {reg top : Int} {ms : List Int} (o : ok 0 bs) (hl : bs.length ≤ 1000) (m : Mach reg top) (g : Asc bs.length (-1) ms) : m_moved_by (tx bs) reg top ms = some (msum reg top (0 :: hs 0 bs) (0, 0, 0, true) ms) := by
  have gl := g.len (by omega)
  have hb := hs_bound o
  have len : (0 :: hs 0 bs).length = bs.length + 1 := by rw [List.length_cons, hs_len]
  unfold m_moved_by
  rw [to_bind (checked_ok o hl), to_bind (mach_ok m), tx_len, chk_bind (line_le (by omega)).1, to_bind (moments_ok g (by omega)), chk_bind (line_le (by omega)).2]
  rw [to_bind (comp_map (f := m_moved_by_c1 (0 :: hs 0 bs)) (fun x => (0 :: hs 0 bs).getD x.toNat 0) ms fun x hx => by
    have hm := g.mem x hx
    obtain ⟨k, rfl⟩ : ∃ k : Nat, x = (k : Int) := ⟨x.toNat, by omega⟩
    unfold m_moved_by_c1
    have hk : (0 :: hs 0 bs)[k]? = some ((0 :: hs 0 bs).getD k 0) := by
      rw [List.getD_eq_getElem?_getD, List.getElem?_eq_getElem (by omega)]; rfl
    rw [to_bind (atI_nat hk)]; rfl)]
  refine (to_bind (ends_at_ok (fun d hd => ?_) (by rw [List.length_map]; omega) m) _).trans ?_
  · obtain ⟨x, hx, rfl⟩ := List.mem_map.mp hd
    have hm := g.mem x hx
    have hk : (0 :: hs 0 bs).getD x.toNat 0 ∈ 0 :: hs 0 bs := by
      rw [List.getD_eq_getElem?_getD, List.getElem?_eq_getElem (by omega)]; exact List.getElem_mem _
    have := hb _ hk
    omega
  · refine (to_bind (moved_loop _ _) _).trans ?_
    rw [after_go, List.map_map]
    rfl
/-- what the sum would be if the next moment had the number a -/
def ph (s : MS) (a : Int) : Int := s.1 + (if s.2.2.2 = true then a - s.2.2.1 else s.2.1 - a)
theorem pl_en {reg top d n : Int} (h0 : 0 ≤ top) (h : Pl reg top d n) (hd : 0 ≤ d) : (en2 reg top d).1 ≤ n ∧ n ≤ (en2 reg top d).2 := by
  obtain ⟨a, b, c⟩ := h
  unfold en2
  simp only [imax_def]
  by_cases z : 0 < n
  · have := b z; constructor <;> split <;> omega
  · constructor <;> split <;> omega
theorem drop_getD {α : Type} {l : List α} {i : Nat} {x z : α} {r : List α} (h : l.drop i = x :: r) : l.getD i z = x := by
  rw [List.getD_eq_getElem?_getD, (drop_at h).1]; rfl
theorem moved_le {reg top : Int} (h0 : 0 ≤ top) (full : List Int) : ∀ (D ns : List Int) (i : Nat) (ms : List Int) (a t : Int) (s : MS), full.drop i = D → (∀ d ∈ D, 0 ≤ d) → Pl2 reg top D ns → Asc ((full.length : Int) - 1) ((i : Int) - 1) ms → ph s a ≤ t → s.1 ≤ t →
    msum reg top full s ms ≤ t + tv a ns
  | [], [], i, ms, a, t, s, hd, _, _, g, h1, h2 => by
    have hl := congrArg List.length hd
    rw [List.length_drop, List.length_nil] at hl
    match ms, g with
    | [], _ => show s.1 ≤ t + (0 + 0); omega
    | m :: r, g => have := g.1; have := g.2.1; omega
  | d :: D, x :: ns, i, ms, a, t, s, hd, hD, hp, g, h1, h2 => by
    have k1 : ph s x ≤ t + (if a < x then x - a else a - x) := by
      unfold ph at h1 ⊢
      split at h1 <;> (repeat' split) <;> first | omega | contradiction
    have k2 : s.1 ≤ t + (if a < x then x - a else a - x) := by split <;> omega
    have d2 := (drop_at hd).2
    have hD' : ∀ y ∈ D, 0 ≤ y := fun y hy => hD y (List.mem_cons_of_mem _ hy)
    rw [tv_cons, ← Int.add_assoc]
    match ms, g with
    | [], _ =>
      exact moved_le h0 full D ns (i + 1) [] x _ s d2 hD' hp.2 trivial k1 k2
    | m :: r, g =>
      by_cases e : m = (i : Int)
      · subst e
        obtain ⟨p1, p2⟩ := pl_en h0 hp.1 (hD d List.mem_cons_self)
        have gd : ga reg top full (i : Int) = en2 reg top d := by unfold ga; rw [show ((i : Int)).toNat = i by omega, drop_getD hd]
        have eq : msum reg top full s ((i : Int) :: r) = msum reg top full (mstep s (en2 reg top d)) r := by
          show ((List.foldl mstep (mstep s (ga reg top full (i : Int))) (r.map _))).1 = _
          rw [gd]; rfl
        rw [eq]
        generalize en2 reg top d = e at p1 p2
        have j1 : (mstep s e).1 ≤ ph s x := by
          unfold mstep ph
          dsimp only
          (repeat' split) <;> omega
        refine moved_le h0 full D ns (i + 1) r x _ (mstep s e) d2 hD' hp.2 (Asc.low (by omega) g.2.2) ?_ (by omega)
        have j2 : ph (mstep s e) x ≤ (mstep s e).1 := by
          unfold ph
          show (mstep s e).1 + (if (!s.2.2.2) = true then x - e.2 else e.1 - x) ≤ _
          split <;> omega
        omega
      · have g1 := g.1
        exact moved_le h0 full D ns (i + 1) (m :: r) x _ s d2 hD' hp.2 ⟨by omega, g.2⟩ k1 k2
  | [], _ :: _, _, _, _, _, _, _, _, h, _, _, _ => h.elim
  | _ :: _, [], _, _, _, _, _, _, _, h, _, _, _ => h.elim
/-- no plan moves fewer words than a sum says -/
theorem msum_le {bs : List Bool} {reg top : Int} {ms ns : List Int} (o : ok 0 bs) (m : Mach reg top) (hp : Pl2 reg top (0 :: hs 0 bs) ns) (g : Asc bs.length (-1) ms) : msum reg top (0 :: hs 0 bs) (0, 0, 0, true) ms ≤ tv 0 ns := by
  have len : (0 :: hs 0 bs).length = bs.length + 1 := by rw [List.length_cons, hs_len]
  have := moved_le m.2.2.1 (0 :: hs 0 bs) (0 :: hs 0 bs) ns 0 ms 0 0 (0, 0, 0, true) rfl (fun d hd => (hs_bound o d hd).1) hp (by
    rw [len, show (((bs.length + 1 : Nat) : Int) - 1) = bs.length by omega]; exact g) (by unfold ph; decide) (Int.le_refl 0)
  omega
/-! ### at the turning moments of the lazy plan it is equal -/
theorem nx_up {reg top a d : Int} (h0 : 0 ≤ top) (ha : 0 ≤ a) (h : a < nx reg top a d) : nx reg top a d = (en2 reg top d).1 := by
  unfold nx at h ⊢
  show _ = imax 0 (d - reg)
  simp only [imax_def]
  (repeat' split) <;> (repeat' split at h) <;> first | omega | contradiction
theorem nx_down {reg top a d : Int} (h0 : 0 ≤ top) (h : nx reg top a d < a) : nx reg top a d = (en2 reg top d).2 := by
  unfold nx at h ⊢
  show _ = imax 0 (d - top)
  simp only [imax_def]
  (repeat' split) <;> (repeat' split at h) <;> first | omega | contradiction
theorem msum_turn {reg top : Int} (h0 : 0 ≤ top) (h1 : top ≤ reg) (full : List Int) : ∀ (D : List Int) (i : Nat) (a m : Int) (w : Bool) (s : MS), full.drop i = D → 0 ≤ a → s.2.2.2 = w → (if w = true then (ga reg top full m).1 = a else (ga reg top full m).2 = a) →
    msum reg top full s (lr ((m, w) :: mvs i a (lz reg top a D))) = ph s a + tv a (lz reg top a D)
  | [], i, a, m, w, s, hd, ha, hw, hg => by
    show s.1 + (if s.2.2.2 = true then (ga reg top full m).1 - s.2.2.1 else s.2.1 - (ga reg top full m).2) = ph s a + (0 + 0)
    unfold ph
    rw [hw]
    cases w
    · have hg' : (ga reg top full m).2 = a := hg
      rw [hg']; simp
    · have hg' : (ga reg top full m).1 = a := hg
      rw [hg']; simp
  | d :: D, i, a, m, w, s, hd, ha, hw, hg => by
    have d2 := (drop_at hd).2
    have gd : ga reg top full (i : Int) = en2 reg top d := by unfold ga; rw [show ((i : Int)).toNat = i by omega, drop_getD hd]
    have i1 : (i : Int) + 1 = ((i + 1 : Nat) : Int) := by omega
    show msum reg top full s (lr ((m, w) :: mvs i a (nx reg top a d :: lz reg top (nx reg top a d) D))) = ph s a + tv a (nx reg top a d :: lz reg top (nx reg top a d) D)
    rw [tv_cons]
    by_cases q : nx reg top a d = a
    · rw [q, show mvs i a (a :: lz reg top a D) = mvs ((i : Int) + 1) a (lz reg top a D) from if_pos rfl, i1, msum_turn h0 h1 full D (i + 1) a m w s d2 ha hw hg]
      split <;> omega
    · have xn := (nx_pl (d := d) h0 h1 ha).2.2
      have up := fun h => nx_up (reg := reg) (d := d) (a := a) h0 ha h
      have dn := fun h => nx_down (reg := reg) (d := d) (a := a) h0 h
      generalize nx reg top a d = x at *
      rw [show mvs i a (x :: lz reg top x D) = ((i : Int), decide (a < x)) :: mvs ((i : Int) + 1) x (lz reg top x D) from if_neg q]
      have gi : if decide (a < x) = true then (ga reg top full (i : Int)).1 = x else (ga reg top full (i : Int)).2 = x := by
        rw [gd]
        by_cases z : a < x
        · rw [if_pos (decide_eq_true z)]; exact (up z).symm
        · rw [if_neg (by simpa using z)]; exact (dn (by omega)).symm
      by_cases z : w = decide (a < x)
      · rw [show lr ((m, w) :: ((i : Int), decide (a < x)) :: mvs ((i : Int) + 1) x (lz reg top x D)) = lr (((i : Int), decide (a < x)) :: mvs ((i : Int) + 1) x (lz reg top x D)) from if_pos z, i1]
        rw [msum_turn h0 h1 full D (i + 1) x i (decide (a < x)) s d2 xn (hw.trans z) gi]
        unfold ph
        rw [hw, z]
        by_cases y : a < x
        · rw [decide_eq_true y, if_pos rfl, if_pos rfl, if_pos y]; omega
        · rw [decide_eq_false y, if_neg (by decide), if_neg (by decide), if_neg y]; omega
      · rw [show lr ((m, w) :: ((i : Int), decide (a < x)) :: mvs ((i : Int) + 1) x (lz reg top x D)) = m :: lr (((i : Int), decide (a < x)) :: mvs ((i : Int) + 1) x (lz reg top x D)) from if_neg z, i1]
        have eq : ∀ r, msum reg top full s (m :: r) = msum reg top full (mstep s (ga reg top full m)) r := fun r => rfl
        rw [eq]
        have hw' : (mstep s (ga reg top full m)).2.2.2 = decide (a < x) := by
          show (!s.2.2.2) = _
          rw [hw]
          cases w <;> cases hh : decide (a < x) <;> first | rfl | (exact absurd hh.symm z)
        rw [msum_turn h0 h1 full D (i + 1) x i (decide (a < x)) _ d2 xn hw' gi]
        unfold ph
        rw [hw']
        show s.1 + (if s.2.2.2 = true then (ga reg top full m).1 - s.2.2.1 else s.2.1 - (ga reg top full m).2) + (if decide (a < x) = true then x - (ga reg top full m).2 else (ga reg top full m).1 - x) + _ = _
        rw [hw]
        by_cases y : a < x
        · have ww : w = false := by cases w; · rfl
                                    · exact absurd (decide_eq_true y).symm z
          subst ww
          have hg' : (ga reg top full m).2 = a := hg
          rw [if_neg (by decide), if_pos (decide_eq_true y), hg', if_neg (by decide), if_pos y]; omega
        · have ww : w = true := by cases w; · exact absurd (decide_eq_false y).symm z
                                   · rfl
          subst ww
          have hg' : (ga reg top full m).1 = a := hg
          rw [if_pos rfl, if_neg (by simpa using y), hg', if_pos rfl, if_neg y]; omega
theorem msum_first {reg top : Int} (h0 : 0 ≤ top) (h1 : top ≤ reg) (full : List Int) : ∀ (D : List Int) (i : Nat), full.drop i = D →
    msum reg top full (0, 0, 0, true) (lr (mvs i 0 (lz reg top 0 D))) = tv 0 (lz reg top 0 D)
  | [], i, hd => rfl
  | d :: D, i, hd => by
    have d2 := (drop_at hd).2
    have gd : ga reg top full (i : Int) = en2 reg top d := by unfold ga; rw [show ((i : Int)).toNat = i by omega, drop_getD hd]
    have i1 : (i : Int) + 1 = ((i + 1 : Nat) : Int) := by omega
    show msum reg top full (0, 0, 0, true) (lr (mvs i 0 (nx reg top 0 d :: lz reg top (nx reg top 0 d) D))) = tv 0 (nx reg top 0 d :: lz reg top (nx reg top 0 d) D)
    rw [tv_cons]
    by_cases q : nx reg top 0 d = 0
    · rw [q, show mvs i 0 (0 :: lz reg top 0 D) = mvs ((i : Int) + 1) 0 (lz reg top 0 D) from if_pos rfl, i1, msum_first h0 h1 full D (i + 1) d2]
      simp
    · have xn := (nx_pl (d := d) h0 h1 (Int.le_refl 0)).2.2
      have pos : 0 < nx reg top 0 d := by omega
      have up := nx_up (reg := reg) (d := d) h0 (Int.le_refl 0) pos
      generalize nx reg top 0 d = x at *
      rw [show mvs i 0 (x :: lz reg top x D) = ((i : Int), decide (0 < x)) :: mvs ((i : Int) + 1) x (lz reg top x D) from if_neg q, decide_eq_true pos, i1]
      rw [msum_turn h0 h1 full D (i + 1) x i true (0, 0, 0, true) d2 xn rfl (by rw [if_pos rfl, gd]; exact up.symm), if_pos pos]
      unfold ph
      rw [if_pos rfl]
      show (0 : Int) + (x - 0) + tv x _ = x - 0 + tv x _
      omega
/-! ### the turning moments ascend -/
theorem lr_asc {last : Int} : ∀ (ns : List Int) (i a m b : Int) (w : Bool), b < m → m < i → i + ns.length ≤ last + 1 → m ≤ last → Asc last b (lr ((m, w) :: mvs i a ns))
  | [], i, a, m, b, w, h1, h2, h3, h4 => ⟨h1, h4, trivial⟩
  | x :: ns, i, a, m, b, w, h1, h2, h3, h4 => by
    rw [List.length_cons] at h3
    by_cases q : x = a
    · rw [show mvs i a (x :: ns) = mvs (i + 1) a ns from if_pos q]
      exact lr_asc ns (i + 1) a m b w h1 (by omega) (by omega) h4
    · rw [show mvs i a (x :: ns) = (i, decide (a < x)) :: mvs (i + 1) x ns from if_neg q]
      by_cases z : w = decide (a < x)
      · rw [show lr ((m, w) :: (i, decide (a < x)) :: mvs (i + 1) x ns) = lr ((i, decide (a < x)) :: mvs (i + 1) x ns) from if_pos z]
        exact lr_asc ns (i + 1) x i b _ (by omega) (by omega) (by omega) (by omega)
      · rw [show lr ((m, w) :: (i, decide (a < x)) :: mvs (i + 1) x ns) = m :: lr ((i, decide (a < x)) :: mvs (i + 1) x ns) from if_neg z]
        exact ⟨h1, h4, lr_asc ns (i + 1) x i m _ h2 (by omega) (by omega) (by omega)⟩
theorem lr_asc0 {last : Int} : ∀ (ns : List Int) (i a b : Int), b < i → i + ns.length ≤ last + 1 → Asc last b (lr (mvs i a ns))
  | [], i, a, b, h1, h3 => trivial
  | x :: ns, i, a, b, h1, h3 => by
    rw [List.length_cons] at h3
    by_cases q : x = a
    · rw [show mvs i a (x :: ns) = mvs (i + 1) a ns from if_pos q]
      exact lr_asc0 ns (i + 1) a b (by omega) (by omega)
    · rw [show mvs i a (x :: ns) = (i, decide (a < x)) :: mvs (i + 1) x ns from if_neg q]
      exact lr_asc ns (i + 1) x i b _ h1 (by omega) (by omega) (by omega)
theorem tms_asc {bs : List Bool} {reg top : Int} : Asc bs.length (-1) (tms reg top bs) :=
  lr_asc0 _ 0 0 (-1) (by decide) (by rw [lz_len, List.length_cons, hs_len]; omega)
theorem tms_sum {bs : List Bool} {reg top : Int} (m : Mach reg top) : msum reg top (0 :: hs 0 bs) (0, 0, 0, true) (tms reg top bs) = tv 0 (lz reg top 0 (0 :: hs 0 bs)) :=
  msum_first m.2.2.1 m.2.2.2 _ _ 0 rfl
/-! ### each trap of the lazy plan moves one word -/
theorem nl_one {g a l y : Int} (g0 : 0 ≤ g) (h0 : 0 ≤ a) (h1 : a ≤ l) (h2 : l - g ≤ a) (y0 : 0 ≤ y) (hy : y = l + 1 ∨ y = l ∨ y = l - 1) : (nl g a y = a ∨ nl g a y = a + 1 ∨ nl g a y = a - 1) ∧ 0 ≤ nl g a y ∧ nl g a y ≤ y ∧ y - g ≤ nl g a y := by
  unfold nl
  simp only [imax_def, imin_def]
  (repeat' split) <;> omega
theorem tp_tv {g : Int} (g0 : 0 ≤ g) : ∀ (L : List Int) (l a : Int), Lev (l :: L) → 0 ≤ a → a ≤ l → l - g ≤ a → tp a (lzl g a L) = tv a (lzl g a L)
  | [], l, a, _, _, _, _ => rfl
  | y :: L, l, a, lv, h0, h1, h2 => by
    obtain ⟨k, k0, k1, k2⟩ := nl_one g0 h0 h1 h2 (lev_head lv.2.2) (show y = l + 1 ∨ y = l ∨ y = l - 1 by rcases lv.1 with e | e | e <;> omega)
    have ih := tp_tv g0 L y (nl g a y) lv.2.2 k0 k1 k2
    show (if (!decide (nl g a y - a = (0 : Int))) = true then (1 : Int) else 0) + tp (nl g a y) (lzl g (nl g a y) L) = tv a (nl g a y :: lzl g (nl g a y) L)
    rw [tv_cons, ih]
    rcases k with k | k | k <;> rw [k]
    · rw [if_neg (by simp), if_neg (by omega)]; omega
    · rw [if_pos (by simp; omega), if_pos (by omega)]; omega
    · rw [if_pos (by simp; omega), if_neg (by omega)]; omega
theorem lazy_tp {g top : Int} (g0 : 0 ≤ g) (h0 : 0 ≤ top) (bs : List Bool) : tp 0 (lzl g 0 (lv top bs)) = tv 0 (lzl g 0 (lv top bs)) := by
  have e := tp_tv g0 (lv top bs).tail 0 0 (lv_lev h0 bs) (Int.le_refl 0) (Int.le_refl 0) (by omega)
  rw [lzl_zero g0]
  show (if (!decide ((0 : Int) - 0 = (0 : Int))) = true then (1 : Int) else 0) + tp 0 _ = tv 0 (0 :: _)
  rw [tv_cons, e]
  simp
/-! ### the laws' frame with another great number -/
theorem many_ok' {script : List Int} {c : Bool} {m0 m1 m2 : Int} {n : Int} {s : List Int} (h : Src n s) (hn : n ≤ 10 ^ 8) (p0 : 0 ≤ m0 ∧ m0 ≤ 1000) (p1 : 0 < m1 ∧ m1 ≤ 1000) (p2 : 0 < m2 ∧ m2 ≤ 1000) : ∃ (st : Int × List Int), (((if c = true then Z.chk (Z.CEq (PyData.list (script.map PyData.int)) (PyData.list (([] : List Int).map PyData.int))) >>= fun _ => some (!PyData.eqv (PyData.list (script.map PyData.int)) (PyData.list (([] : List Int).map PyData.int))) else some false) : Option Bool) >>= fun st27 => (if st27 = true then some (m0, s) else
      Z.chk (Z.CEq (PyData.list (script.map PyData.int)) (PyData.list (([] : List Int).map PyData.int))) >>= fun _ => atI ([m1, m2]) (if (!PyData.eqv (PyData.list (script.map PyData.int)) (PyData.list (([] : List Int).map PyData.int))) = true then (1 : Int) else 0) >>= fun x35 => m__law_draw s x35 >>= fun r37 => some (r37.1, r37.2))) = some st ∧ 0 ≤ st.1 ∧ st.1 ≤ 1000 ∧ Src (n + 1) st.2 := by
  rw [chk_bind (eq_ints _ _), chk_bind (eq_ints _ _)]
  generalize PyData.eqv (PyData.list (script.map PyData.int)) (PyData.list (([] : List Int).map PyData.int)) = e
  have fin : ∀ e : Bool, ∃ st : Int × List Int, (atI ([m1, m2]) (if (!e) = true then (1 : Int) else 0) >>= fun x35 => m__law_draw s x35 >>= fun r37 => some (r37.1, r37.2)) = some st ∧ 0 ≤ st.1 ∧ st.1 ≤ 1000 ∧ Src (n + 1) st.2 := fun e => by
    obtain ⟨c, ec, c0, c1⟩ : ∃ c : Int, atI ([m1, m2]) (if (!e) = true then (1 : Int) else 0) = some c ∧ 0 < c ∧ c ≤ 1000 := by
      cases e
      · exact ⟨m2, rfl, p2⟩
      · exact ⟨m1, rfl, p1⟩
    obtain ⟨r, s', e1, r0, r1, h1⟩ := draw_ok (c := c) h (by omega) c0 (by omega)
    exact ⟨(r, s'), by rw [to_bind ec, to_bind e1], r0, by show r ≤ 1000; omega, h1⟩
  by_cases hx : c = true
  · rw [if_pos hx, some_bind]
    by_cases he : (!e) = true
    · rw [if_pos he]; exact ⟨(m0, s), rfl, p0.1, p0.2, h.up (by omega)⟩
    · rw [if_neg he]; exact fin e
  · rw [if_neg hx, some_bind, if_neg (by decide)]; exact fin e
end Zm
/-! Rules and their plans. -/
namespace Zm
open PySem PySem.Spec PyProof.Rows L2 Z
inductive RK where
  | lazy | halving | keep (n : Int) | lot (n : Int)
def RK.r : RK → Str × Option Int
  | .lazy => (("lazy" : Str), none)
  | .halving => (("halving" : Str), none)
  | .keep n => (("keep" : Str), some n)
  | .lot n => (("lot" : Str), some n)
def RK.ok (g : Int) : RK → Prop
  | .lazy => True
  | .halving => True
  | .keep n => 0 ≤ n ∧ n ≤ g
  | .lot n => 1 ≤ n ∧ n ≤ g + 1
/-- the number of a rule at the next moment -/
def nbk : RK → Int → Int → Int → Int → Int → Int := fun k g a y lo hi =>
  if imax 0 (y - g) ≤ a ∧ a ≤ y then a else match k with
  | .lazy => if a < imax 0 (y - g) then imax 0 (y - g) else y
  | .keep n => imax 0 (y - n)
  | .lot n => if a < imax 0 (y - g) then a + n else imax 0 (a - n)
  | .halving => (imax 0 (hi - g) + lo) / 2
theorem fits_ok {g : Int} {k : RK} (h : k.ok g) : m_fits_room g k.r = some true := by
  cases k with
  | lazy => unfold m_fits_room; exact (if_neg (by decide +kernel)).trans ((if_pos (by decide +kernel)).trans (congrArg some (by decide +kernel)))
  | halving => unfold m_fits_room; exact (if_neg (by decide +kernel)).trans ((if_pos (by decide +kernel)).trans (congrArg some (by decide +kernel)))
  | keep n =>
    obtain ⟨h1, h2⟩ := h
    unfold m_fits_room m_is_integer RK.r
    refine (if_neg (by simp [Z.rlen])).trans ((if_neg (by simp [Z.rlen])).trans ?_)
    rw [some_bind, some_bind]
    refine (if_neg (by decide)).trans (congrArg some ?_)
    rw [decide_eq_true h1, decide_eq_true h2, show decide (V.str ("keep" : Str) = V.str ("keep" : Str)) = true by decide +kernel]
    rfl
  | lot n =>
    obtain ⟨h1, h2⟩ := h
    unfold m_fits_room m_is_integer RK.r
    refine (if_neg (by simp [Z.rlen])).trans ((if_neg (by simp [Z.rlen])).trans ?_)
    rw [some_bind, some_bind]
    refine (if_neg (by decide)).trans (congrArg some ?_)
    rw [decide_eq_true h1, decide_eq_true h2, show decide (V.str ("lot" : Str) = V.str ("lot" : Str)) = true by decide +kernel]
    simp
theorem check_rule_ok {g : Int} {k : RK} (h : k.ok g) : m_check_rule g k.r = some () := by
  unfold m_check_rule
  rw [to_bind (fits_ok h)]
  exact if_neg (by decide)
theorem imax_comm (a b : Int) : imax a b = imax b a := by simp only [imax_def]; (repeat' split) <;> omega
theorem nb_ok {g a y lo hi : Int} (k : RK) : m_number_behind k.r g a y (lo, hi) = some (nbk k g a y lo hi) := by
  have lw : (if (decide (g < y)) = true then (y - g) else (0 : Int)) = imax 0 (y - g) := by
    by_cases h : g < y
    · rw [if_pos (decide_eq_true h), imax_of (by omega)]
    · rw [if_neg (by simpa using h), imax_of' (by omega)]
  unfold m_number_behind nbk
  rw [lw]
  by_cases h : imax 0 (y - g) ≤ a ∧ a ≤ y
  · rw [if_pos h]
    exact if_pos (by rw [decide_eq_true h.1, decide_eq_true h.2]; rfl)
  · rw [if_neg h]
    refine (if_neg fun z => h ?_).trans ?_
    · have z' := Bool.and_eq_true_iff.mp z
      exact ⟨of_decide_eq_true z'.1, of_decide_eq_true z'.2⟩
    cases k with
    | lazy =>
      refine (if_pos (by decide +kernel)).trans (congrArg some ?_)
      by_cases q : a < imax 0 (y - g)
      · rw [if_pos (decide_eq_true q)]; exact (if_pos q).symm
      · rw [if_neg (by simpa using q)]; exact (if_neg q).symm
    | halving =>
      refine (if_neg (by decide +kernel)).trans ((if_neg (by decide +kernel)).trans ((if_neg (by decide +kernel)).trans (congrArg some ?_)))
      show (imax (hi - g) 0 + lo) / 2 = (imax 0 (hi - g) + lo) / 2
      rw [imax_comm]
    | keep n =>
      refine (if_neg (by show ¬ decide (V.str ("keep" : Str) = V.str ("lazy" : Str)) = true; decide +kernel)).trans ((if_pos (by show decide (V.str ("keep" : Str) = V.str ("keep" : Str)) = true; decide +kernel)).trans ?_)
      show some (imax (y - n) 0) = some (imax 0 (y - n))
      rw [imax_comm]
    | lot n =>
      refine (if_neg (by show ¬ decide (V.str ("lot" : Str) = V.str ("lazy" : Str)) = true; decide +kernel)).trans ((if_neg (by show ¬ decide (V.str ("lot" : Str) = V.str ("keep" : Str)) = true; decide +kernel)).trans ((if_pos (by show decide (V.str ("lot" : Str) = V.str ("lot" : Str)) = true; decide +kernel)).trans ?_))
      refine (to_bind (a := if a < imax 0 (y - g) then a + n else imax 0 (a - n)) ?_ _).trans rfl
      by_cases q : a < imax 0 (y - g)
      · rw [if_pos (decide_eq_true q), if_pos q]; rfl
      · rw [if_neg (by simpa using q), if_neg q]
        show some (imax (a - n) 0) = some (imax 0 (a - n))
        rw [imax_comm]
/-! ### blocks, and the plan along levels -/
def bl2 (g lo hi y : Int) : Int × Int := if g < imax hi y - imin lo y then (y, y) else (imin lo y, imax hi y)
theorem behind_ok {g lo hi y : Int} (g0 : 0 ≤ g) (h : lo ≤ hi) (h2 : hi - lo ≤ g) : m_block_behind (lo, hi) g y = some (bl2 g lo hi y) := by
  unfold m_block_behind bl2
  by_cases q : hi < y
  · have e1 : imax hi y = y := imax_of (by omega)
    have e2 : imin lo y = lo := imin_of (by omega)
    rw [e1, e2]
    refine (if_pos (decide_eq_true q)).trans ?_
    by_cases z : y - lo ≤ g
    · refine (to_bind (a := (lo, y)) (if_pos (decide_eq_true z)) _).trans ?_
      rw [if_neg (by omega)]
    · refine (to_bind (a := (y, y)) (if_neg (by simpa using z)) _).trans ?_
      rw [if_pos (by omega)]
  · have e1 : imax hi y = hi := imax_of' (by omega)
    rw [e1]
    refine (if_neg (by simpa using q)).trans ?_
    by_cases p : y < lo
    · have e2 : imin lo y = y := imin_of' (by omega)
      rw [e2]
      refine (if_pos (decide_eq_true p)).trans ?_
      by_cases z : hi - y ≤ g
      · refine (to_bind (a := (y, hi)) (if_pos (decide_eq_true z)) _).trans ?_
        rw [if_neg (by omega)]
      · refine (to_bind (a := (y, y)) (if_neg (by simpa using z)) _).trans ?_
        rw [if_pos (by omega)]
    · have e2 : imin lo y = lo := imin_of (by omega)
      rw [e2, show (if g < hi - lo then (y, y) else (lo, hi)) = (lo, hi) from if_neg (by omega)]
      exact if_neg (by simpa using p)
theorem bl2_at {g lo hi y : Int} (g0 : 0 ≤ g) (y0 : 0 ≤ y) (l0 : 0 ≤ lo) : (bl2 g lo hi y).1 ≤ y ∧ y ≤ (bl2 g lo hi y).2 ∧ (bl2 g lo hi y).2 - (bl2 g lo hi y).1 ≤ g ∧ 0 ≤ (bl2 g lo hi y).1 := by
  unfold bl2
  by_cases q : g < imax hi y - imin lo y
  · rw [if_pos q]
    show y ≤ y ∧ y ≤ y ∧ y - y ≤ g ∧ 0 ≤ y
    omega
  · rw [if_neg q]
    show imin lo y ≤ y ∧ y ≤ imax hi y ∧ imax hi y - imin lo y ≤ g ∧ 0 ≤ imin lo y
    simp only [imax_def, imin_def] at q ⊢
    (repeat' split) <;> (repeat' split at q) <;> omega
def rpl (k : RK) (g : Int) : Int → Int → Int → List Int → List Int
  | _, _, _, [] => []
  | a, lo, hi, y :: L => nbk k g a y (bl2 g lo hi y).1 (bl2 g lo hi y).2 :: rpl k g (nbk k g a y (bl2 g lo hi y).1 (bl2 g lo hi y).2) (bl2 g lo hi y).1 (bl2 g lo hi y).2 L
theorem rpl_len (k : RK) (g : Int) : ∀ (L : List Int) (a lo hi : Int), (rpl k g a lo hi L).length = L.length
  | [], _, _, _ => rfl
  | y :: L, a, lo, hi => by show (rpl k g _ _ _ L).length + 1 = L.length + 1; rw [rpl_len k g L]
theorem rpl_loop {reg top : Int} (k : RK) (g0 : 0 ≤ reg - top) : ∀ (L : List Int) (a lo hi : Int) (fd : List Int), (∀ y ∈ L, 0 ≤ y) → 0 ≤ lo → lo ≤ hi → hi - lo ≤ reg - top → fd.length + L.length ≤ 1000000 →
    ∃ a' b', loopM (m_plan_of_rule_b1 reg top k.r) L (a, (lo, hi), fd) = some (.go (a', b', fd ++ rpl k (reg - top) a lo hi L))
  | [], a, lo, hi, fd, _, _, _, _, _ => ⟨a, (lo, hi), by show some (Step.go (a, (lo, hi), fd)) = some (Step.go (a, (lo, hi), fd ++ [])); rw [List.append_nil]⟩
  | y :: L, a, lo, hi, fd, hb, l0, h1, h2, h => by
    rw [List.length_cons] at h
    obtain ⟨b1, b2, b3, b4⟩ := bl2_at (lo := lo) (hi := hi) g0 (hb y List.mem_cons_self) l0
    obtain ⟨a', b', e⟩ := rpl_loop k g0 L (nbk k (reg - top) a y (bl2 (reg - top) lo hi y).1 (bl2 (reg - top) lo hi y).2) (bl2 (reg - top) lo hi y).1 (bl2 (reg - top) lo hi y).2 (fd ++ [nbk k (reg - top) a y (bl2 (reg - top) lo hi y).1 (bl2 (reg - top) lo hi y).2]) (fun z hz => hb z (List.mem_cons_of_mem _ hz)) b4 (by omega) b3 (by simp; omega)
    refine ⟨a', b', (loop_cons (s' := (nbk k (reg - top) a y (bl2 (reg - top) lo hi y).1 (bl2 (reg - top) lo hi y).2, bl2 (reg - top) lo hi y, fd ++ [nbk k (reg - top) a y (bl2 (reg - top) lo hi y).1 (bl2 (reg - top) lo hi y).2])) ?_).trans ?_⟩
    · unfold m_plan_of_rule_b1
      refine (to_bind (behind_ok g0 h1 h2) _).trans ?_
      refine (to_bind (nb_ok k) _).trans ?_
      exact chk_bind (line_le (by show fd.length ≤ _; omega)).2 _
    · refine e.trans ?_
      rw [List.append_assoc]; rfl
/-- the plan of a rule -/
def RP (k : RK) (reg top : Int) (bs : List Bool) : List Int := rpl k (reg - top) 0 0 0 (lv top bs)
theorem plan_rule_ok {bs : List Bool} {reg top : Int} {k : RK} (o : ok 0 bs) (hl : bs.length ≤ 1000) (m : Mach reg top) (hk : k.ok (reg - top)) : m_plan_of_rule (tx bs) reg top k.r = some (RP k reg top bs) := by
  obtain ⟨m1, m2, m3, m4⟩ := id m
  have ll := lv_len top bs
  have la : m_levels_above (0 :: hs 0 bs) top = some (lv top bs) := by
    rw [lv_map top m3]
    exact above_ok _ top (by rw [List.length_cons, hs_len]; omega)
  obtain ⟨a', b', e⟩ := rpl_loop (reg := reg) (top := top) k (by omega) (lv top bs) 0 0 0 [] (fun y hy => (lv_bound m3 y hy).1) (Int.le_refl 0) (Int.le_refl 0) (by omega) (by simp; omega)
  unfold m_plan_of_rule
  rw [to_bind (checked_ok o hl), to_bind (mach_ok m), to_bind (check_rule_ok hk), to_bind la, to_bind e, after_go]
  rfl
/-! ### the numbers lie between the ends -/
theorem nbk_in {k : RK} {g a y l lo hi : Int} (g0 : 0 ≤ g) (hk : k.ok g) (y0 : 0 ≤ y) (hy : y = l + 1 ∨ y = l ∨ y = l - 1) (h0 : 0 ≤ a) (h1 : a ≤ l) (h2 : l - g ≤ a) (b1 : lo ≤ y) (b2 : y ≤ hi) (b3 : hi - lo ≤ g) (b4 : 0 ≤ lo) :
    0 ≤ nbk k g a y lo hi ∧ nbk k g a y lo hi ≤ y ∧ y - g ≤ nbk k g a y lo hi := by
  unfold nbk
  by_cases h : imax 0 (y - g) ≤ a ∧ a ≤ y
  · rw [if_pos h]
    have := h.1
    simp only [imax_def] at this
    split at this <;> omega
  · rw [if_neg h]
    simp only [imax_def] at h
    cases k with
    | lazy =>
      show 0 ≤ (if a < imax 0 (y - g) then imax 0 (y - g) else y) ∧ (if a < imax 0 (y - g) then imax 0 (y - g) else y) ≤ y ∧ y - g ≤ (if a < imax 0 (y - g) then imax 0 (y - g) else y)
      simp only [imax_def]
      (repeat' split) <;> omega
    | keep n =>
      obtain ⟨n0, n1⟩ := hk
      show 0 ≤ imax 0 (y - n) ∧ imax 0 (y - n) ≤ y ∧ y - g ≤ imax 0 (y - n)
      simp only [imax_def]
      (repeat' split) <;> omega
    | lot n =>
      obtain ⟨n0, n1⟩ := hk
      show 0 ≤ (if a < imax 0 (y - g) then a + n else imax 0 (a - n)) ∧ (if a < imax 0 (y - g) then a + n else imax 0 (a - n)) ≤ y ∧ y - g ≤ (if a < imax 0 (y - g) then a + n else imax 0 (a - n))
      simp only [imax_def]
      (repeat' split) <;> (split at h) <;> omega
    | halving =>
      show 0 ≤ (imax 0 (hi - g) + lo) / 2 ∧ (imax 0 (hi - g) + lo) / 2 ≤ y ∧ y - g ≤ (imax 0 (hi - g) + lo) / 2
      have : 0 ≤ imax 0 (hi - g) ∧ imax 0 (hi - g) ≤ lo ∧ y - g ≤ imax 0 (hi - g) := by simp only [imax_def]; split <;> omega
      omega
theorem rpl_in {k : RK} {g : Int} (g0 : 0 ≤ g) (hk : k.ok g) : ∀ (L : List Int) (l a lo hi : Int), Lev (l :: L) → 0 ≤ a → a ≤ l → l - g ≤ a → 0 ≤ lo → In3 g L (rpl k g a lo hi L) ∧ ∀ n ∈ rpl k g a lo hi L, 0 ≤ n
  | [], l, a, lo, hi, _, _, _, _, _ => ⟨trivial, fun n hn => by cases hn⟩
  | y :: L, l, a, lo, hi, lv, h0, h1, h2, l0 => by
    have y0 := lev_head lv.2.2
    obtain ⟨b1, b2, b3, b4⟩ := bl2_at (lo := lo) (hi := hi) g0 y0 l0
    obtain ⟨c1, c2, c3⟩ := nbk_in (k := k) g0 hk y0 (show y = l + 1 ∨ y = l ∨ y = l - 1 by rcases lv.1 with e | e | e <;> omega) h0 h1 h2 b1 b2 b3 b4
    obtain ⟨i1, i2⟩ := rpl_in (k := k) g0 hk L y (nbk k g a y (bl2 g lo hi y).1 (bl2 g lo hi y).2) (bl2 g lo hi y).1 (bl2 g lo hi y).2 lv.2.2 c1 c2 c3 b4
    refine ⟨⟨c3, c2, i1⟩, fun n hn => ?_⟩
    rcases List.mem_cons.mp hn with e | e
    · rw [e]; exact c1
    · exact i2 n e
theorem rpl_zero {k : RK} {g : Int} (g0 : 0 ≤ g) (L : List Int) : rpl k g 0 0 0 (0 :: L) = 0 :: rpl k g 0 0 0 L := by
  have b : bl2 g 0 0 0 = (0, 0) := by
    unfold bl2
    have e1 : imax (0 : Int) 0 = 0 := rfl
    have e2 : imin (0 : Int) 0 = 0 := rfl
    rw [e1, e2, if_neg (by omega)]
  have n : nbk k g 0 0 0 0 = 0 := by
    unfold nbk
    rw [if_pos ⟨by simp only [imax_def]; split <;> omega, Int.le_refl 0⟩]
  show nbk k g 0 0 (bl2 g 0 0 0).1 (bl2 g 0 0 0).2 :: rpl k g (nbk k g 0 0 (bl2 g 0 0 0).1 (bl2 g 0 0 0).2) (bl2 g 0 0 0).1 (bl2 g 0 0 0).2 L = _
  rw [b]
  show nbk k g 0 0 0 0 :: rpl k g (nbk k g 0 0 0 0) 0 0 L = _
  rw [n]
theorem rp_pl {k : RK} {reg top : Int} (m : Mach reg top) (hk : k.ok (reg - top)) (bs : List Bool) : Pl2 reg top (0 :: hs 0 bs) (RP k reg top bs) := by
  obtain ⟨m1, m2, m3, m4⟩ := id m
  have g0 : 0 ≤ reg - top := by omega
  obtain ⟨i1, i2⟩ := rpl_in (k := k) g0 hk (lv top bs).tail 0 0 0 0 (lv_lev m3 bs) (Int.le_refl 0) (Int.le_refl 0) (by omega) (Int.le_refl 0)
  have e : RP k reg top bs = 0 :: rpl k (reg - top) 0 0 0 (lv top bs).tail := by
    unfold RP
    rw [lv_head top m3 bs, rpl_zero g0]; rfl
  rw [e]
  refine pl2_of m4 ?_ fun n hn => ?_
  · rw [← lv_map top m3, lv_head top m3 bs]
    exact ⟨by omega, Int.le_refl 0, i1⟩
  · rcases List.mem_cons.mp hn with e | e
    · omega
    · exact i2 n e
/-- the rule lazy is the lazy plan -/
theorem rpl_lazy {g : Int} (g0 : 0 ≤ g) : ∀ (L : List Int) (a lo hi : Int), (∀ y ∈ L, 0 ≤ y) → rpl .lazy g a lo hi L = lzl g a L
  | [], _, _, _, _ => rfl
  | y :: L, a, lo, hi, hb => by
    have y0 := hb y List.mem_cons_self
    have e : ∀ p q : Int, nbk .lazy g a y p q = nl g a y := fun p q => by
      unfold nbk nl
      show (if imax 0 (y - g) ≤ a ∧ a ≤ y then a else if a < imax 0 (y - g) then imax 0 (y - g) else y) = _
      simp only [imax_def, imin_def]
      (repeat' split) <;> omega
    show nbk .lazy g a y _ _ :: rpl .lazy g (nbk .lazy g a y _ _) _ _ L = nl g a y :: lzl g (nl g a y) L
    rw [e, rpl_lazy g0 L _ _ _ fun z hz => hb z (List.mem_cons_of_mem _ hz)]
theorem rp_lazy {reg top : Int} (m : Mach reg top) (bs : List Bool) : RP .lazy reg top bs = lz reg top 0 (0 :: hs 0 bs) := by
  obtain ⟨m1, m2, m3, m4⟩ := id m
  rw [lz_lv m3 m4]
  exact rpl_lazy (by omega) _ _ _ _ fun y hy => (lv_bound m3 y hy).1
/-! ### a rule that is drawn -/
theorem rule_ok {n g : Int} {s : List Int} (h : Src n s) (hn : n ≤ 10 ^ 8) (g0 : 0 ≤ g) (g1 : g ≤ 10 ^ 30) : ∃ k s', m__law_rule s g = some (RK.r k, s') ∧ k.ok g ∧ Src (n + 3) s' := by
  obtain ⟨a, s1, e1, a0, a1, h1⟩ := draw_ok (c := g + 1) h (by omega) (by omega) (by omega)
  obtain ⟨b, s2, e2, b0, b1, h2⟩ := draw_ok (c := g + 1) h1 (by omega) (by omega) (by omega)
  obtain ⟨c, s3, e3, c0, c1, h3⟩ := draw_ok (c := 6) h2 (by omega) (by decide) (by decide)
  have h4 : Src (n + 3) s3 := h3.up (by omega)
  unfold m__law_rule
  rw [to_bind e1, to_bind e2, to_bind e3]
  rcases (show c = 0 ∨ c = 1 ∨ c = 2 ∨ c = 3 ∨ c = 4 ∨ c = 5 by omega) with z | z | z | z | z | z <;> subst z
  · exact ⟨.lazy, s3, rfl, trivial, h4⟩
  · exact ⟨.halving, s3, rfl, trivial, h4⟩
  · exact ⟨.keep a, s3, rfl, ⟨a0, by omega⟩, h4⟩
  · exact ⟨.lot (1 + b), s3, rfl, ⟨by omega, by omega⟩, h4⟩
  · exact ⟨.keep g, s3, rfl, ⟨g0, Int.le_refl g⟩, h4⟩
  · exact ⟨.lot (g + 1), s3, rfl, ⟨by omega, Int.le_refl _⟩, h4⟩
end Zm
/-! Waves; the rule halving within blocks. -/
namespace Zm
open PySem PySem.Spec PyProof.Rows L2 Z
def WaveSt (n0 held many : Int) (st : Str × Int × List Int) : Prop := ∃ bs : List Bool, st.1 = tx bs ∧ dp 0 bs = held + st.2.1 ∧ ok 0 bs ∧ 0 ≤ st.2.1 ∧ (bs.length : Int) ≤ held + 2 * many ∧ Src (n0 + 4 * bs.length) st.2.2
theorem waves_ok {n room held many : Int} {s : List Int} (h : Src n s) (hn : n ≤ 10 ^ 8) (r0 : 0 ≤ room) (r1 : room ≤ 1000) (h0 : 0 ≤ held) (h1 : held ≤ 1000) (m0 : 0 ≤ many) (m1 : many ≤ 1000) :
    ∃ bs s', m__law_waves s room held many = some (tx bs, s') ∧ (bs.length : Int) = many ∧ ok 0 bs ∧ Src (n + 12000) s' := by
  unfold m__law_waves
  rw [plus_eq, tx_mul, chk_bind (show Z.CRep (sg true) held from ⟨by decide, by omega, by omega⟩)]
  obtain ⟨st, e2, bs, a1, a3, a4, a5⟩ := while_run (f := m__law_waves_b1 room many) (WaveSt n held many) (fun st => many.toNat - st.1.length) (fun st => ∃ bs : List Bool, st.1 = tx bs ∧ ok 0 bs ∧ many ≤ (bs.length : Int) ∧ (bs.length : Int) ≤ 3000 ∧ Src (n + 12000) st.2.2)
    (fun st ⟨bs, b1, b2, b3, b4, b5, b6⟩ => by
      obtain ⟨found, level, src⟩ := st
      simp only at b1 b2 b4 b6
      subst b1
      have hlen : bs.length ≤ 3000 := by omega
      have hk := (line_le (n := bs.length) (by omega)).1
      have lb := dp_le bs 0
      unfold m__law_waves_b1
      rw [chk_bind (by show (tx bs).length ≤ _; rw [tx_len]; exact hk)]
      by_cases hlt : (bs.length : Int) < many
      · rw [if_pos (by show decide ((((tx bs).length : Nat) : Int) < many) = true; rw [tx_len]; exact decide_eq_true hlt)]
        obtain ⟨d1, s1, e1, u0, u1, q1⟩ := draw_ok (c := 3) b6 (by omega) (by decide) (by decide)
        obtain ⟨d2, s2, e2, v0, v1, q2⟩ := draw_ok (c := 3) q1 (by omega) (by decide) (by decide)
        rw [to_bind e1, to_bind e2]
        dsimp only
        have lw : 0 ≤ imax 0 (level - room - d1) ∧ imax 0 (level - room - d1) ≤ level := by simp only [imax_def]; split <;> omega
        generalize imax 0 (level - room - d1) = low at lw ⊢
        obtain ⟨d3, s3, e3, w0, w1, q3⟩ := draw_ok (c := level + room + d2 - low + 1) q2 (by omega) (by omega) (by omega)
        obtain ⟨d4, s4, e4, x0, x1, q4⟩ := draw_ok (c := 5) q3 (by omega) (by decide) (by decide)
        rw [to_bind e3, to_bind e4]
        obtain ⟨goal, e5, y0⟩ : ∃ v : Int, atI [low, level + room + d2, low + d3, imax 0 (level - 1), level + 1] d4 = some v ∧ 0 ≤ v := by
          have z : 0 ≤ imax 0 (level - 1) := by simp only [imax_def]; split <;> omega
          rcases (show d4 = 0 ∨ d4 = 1 ∨ d4 = 2 ∨ d4 = 3 ∨ d4 = 4 by omega) with e | e | e | e | e <;> subst e
          · exact ⟨_, rfl, lw.1⟩
          · exact ⟨_, rfl, by omega⟩
          · exact ⟨_, rfl, by omega⟩
          · exact ⟨_, rfl, z⟩
          · exact ⟨_, rfl, by omega⟩
        rw [to_bind e5]
        obtain ⟨g2, e6, z0, z1⟩ : ∃ g2 : Int, (if (decide (goal = level)) = true then some (level + (1 : Int)) else some goal) = some g2 ∧ 0 ≤ g2 ∧ g2 ≠ level := by
          by_cases q : goal = level
          · exact ⟨level + 1, if_pos (decide_eq_true q), by omega, by omega⟩
          · exact ⟨goal, if_neg (by simpa using q), y0, q⟩
        refine .inl ?_
        have bnd : ∃ z : Int, imin g2 (level + many - bs.length) = z ∧ 0 ≤ z ∧ z ≠ level ∧ z ≤ level + many - bs.length := ⟨_, rfl, by simp only [imin_def]; split <;> omega, by simp only [imin_def]; split <;> omega, by simp only [imin_def]; split <;> omega⟩
        obtain ⟨z, ez, zz0, zz1, zz2⟩ := bnd
        refine ⟨(tx (bs ++ List.replicate (z - level).toNat true ++ List.replicate (level - z).toNat false), z, s4), ?_, ⟨_, rfl, ?_, ?_, ?_, ?_, ?_⟩, ?_⟩
        · refine (to_bind e6 _).trans ?_
          rw [chk_bind (by rw [tx_len]; exact hk), tx_len, ez, plus_eq, minus_eq, tx_mul, tx_mul]
          rw [chk_bind (show Z.CRep (sg true) (z - level) from ⟨by decide, by omega, by omega⟩), chk_bind (by rw [tx_len, List.length_replicate]; exact (line_le (by omega)).1), chk_bind (show Z.CRep (sg false) (level - z) from ⟨by decide, by omega, by omega⟩)]
          rw [tx_app, chk_bind (by rw [tx_len, tx_len, List.length_append, List.length_replicate, List.length_replicate]; exact (line_le (by omega)).1), tx_app]
        · show dp 0 (bs ++ List.replicate (z - level).toNat true ++ List.replicate (level - z).toNat false) = held + z
          rw [dp_app, dp_app, dp_ups, dp_downs]; omega
        · refine (ok_app _ _ _).mpr ⟨(ok_app _ _ _).mpr ⟨b3, ok_ups _ _ (dp_nn _ _ (by omega) b3)⟩, ok_downs _ _ ?_⟩
          rw [dp_app, dp_ups]; omega
        · exact zz0
        · rw [List.length_append, List.length_append, List.length_replicate, List.length_replicate]; omega
        · show Src _ s4
          exact q4.up (by rw [List.length_append, List.length_append, List.length_replicate, List.length_replicate]; omega)
        · show many.toNat - (tx (bs ++ List.replicate (z - level).toNat true ++ List.replicate (level - z).toNat false)).length < many.toNat - (tx bs).length
          rw [tx_len, tx_len, List.length_append, List.length_append, List.length_replicate, List.length_replicate]; omega
      · rw [if_neg (by show ¬ decide ((((tx bs).length : Nat) : Int) < many) = true; rw [tx_len]; simpa using hlt)]
        exact .inr ⟨_, rfl, bs, rfl, b3, by omega, by omega, b6.up (by omega)⟩)
    FUEL (tx (List.replicate held.toNat true), 0, s) ⟨List.replicate held.toNat true, rfl, by rw [dp_ups]; show (0 : Int) + _ = held + 0; omega, ok_ups _ _ (by omega), Int.le_refl 0, by rw [List.length_replicate]; omega, h.up (by omega)⟩ (by show many.toNat - _ < 1000000; omega)
  rw [to_bind e2, after_go]
  obtain ⟨f, hi, src⟩ := st
  simp only at a1 a5
  subst a1
  obtain ⟨a5, a6⟩ := a5
  rw [chk_bind (by show (tx bs).length ≤ _; rw [tx_len]; exact (line_le (by omega)).1)]
  refine ⟨bs.take many.toNat, src, ?_, ?_, ok_take a3 _, a6⟩
  · have := cut_take bs many.toNat
    rw [show ((many.toNat : Nat) : Int) = many by omega] at this
    show some (cutS (tx bs) none (some many), src) = _
    rw [this]
  · rw [List.length_take]; omega
/-! ### halving -/
def mC (g hi : Int) : Int := imax 0 (hi - g)
/-- behind T traps in a block -/
def Hv (g : Int) (T : Nat) (a lo hi : Int) : Prop := 0 < T → lo - a ≤ (g + 1) / 2 ^ T ∧ a - mC g hi ≤ (g + 1) / 2 ^ T
theorem pow_half (x : Int) (T : Nat) : x / 2 ^ T / 2 = x / 2 ^ (T + 1) := by
  rw [Int.pow_succ, Int.ediv_ediv_of_nonneg (Int.le_of_lt (Int.pow_pos (by decide)))]
theorem hv_trap {g a y lo hi : Int} {T : Nat} (g0 : 0 ≤ g) (y0 : 0 ≤ y) (l0 : 0 ≤ lo) (h : Hv g T a lo hi) (hs : ¬ g < imax hi y - imin lo y) (ht : ¬ (imax 0 (y - g) ≤ a ∧ a ≤ y)) :
    1 ≤ (g + 1) / 2 ^ T ∧ Hv g (T + 1) ((mC g (imax hi y) + imin lo y) / 2) (imin lo y) (imax hi y) := by
  have m0 : mC g (imax hi y) ≤ imin lo y ∧ imax 0 (y - g) ≤ mC g (imax hi y) ∧ mC g hi ≤ mC g (imax hi y) ∧ imin lo y ≤ y ∧ imin lo y ≤ lo ∧ imin lo y - mC g (imax hi y) ≤ g := by
    unfold mC
    simp only [imax_def, imin_def] at hs ⊢
    refine ⟨?_, ?_, ?_, ?_, ?_, ?_⟩ <;> (repeat' split) <;> (repeat' split at hs) <;> omega
  obtain ⟨m1, m2, m3, m4, m5, m6⟩ := m0
  have sz : imin lo y - mC g (imax hi y) + 1 ≤ (g + 1) / 2 ^ T := by
    rcases Nat.eq_zero_or_pos T with e | e
    · subst e
      show _ ≤ (g + 1) / 1
      rw [Int.ediv_one]; omega
    · obtain ⟨h1, h2⟩ := h e
      omega
  have hp := pow_half (g + 1) T
  refine ⟨by omega, fun _ => ?_⟩
  show imin lo y - (mC g (imax hi y) + imin lo y) / 2 ≤ (g + 1) / 2 ^ (T + 1) ∧ (mC g (imax hi y) + imin lo y) / 2 - mC g (imax hi y) ≤ (g + 1) / 2 ^ (T + 1)
  rw [← hp]
  generalize imin lo y = l' at *
  generalize mC g (imax hi y) = c' at *
  generalize (g + 1) / 2 ^ T = Q at *
  omega
theorem hv_stay {g a y lo hi : Int} {T : Nat} (h : Hv g T a lo hi) : Hv g T a (imin lo y) (imax hi y) := fun e => by
  obtain ⟨h1, h2⟩ := h e
  have : imin lo y ≤ lo ∧ mC g hi ≤ mC g (imax hi y) := by
    unfold mC
    simp only [imax_def, imin_def]
    constructor <;> (repeat' split) <;> omega
  omega
theorem hv_new {g y : Int} (g0 : 0 ≤ g) (y0 : 0 ≤ y) : Hv g 1 ((mC g y + y) / 2) y y := fun _ => by
  show y - (mC g y + y) / 2 ≤ (g + 1) / 2 ^ (0 + 1) ∧ (mC g y + y) / 2 - mC g y ≤ (g + 1) / 2 ^ (0 + 1)
  rw [← pow_half, show (g + 1) / 2 ^ 0 = g + 1 from Int.ediv_one _]
  have : mC g y ≤ y ∧ y - mC g y ≤ g := by unfold mC; simp only [imax_def]; constructor <;> split <;> omega
  omega
theorem hv_none {g a lo hi : Int} : Hv g 0 a lo hi := fun e => absurd e (Nat.lt_irrefl 0)
/-- a trap and what it is -/
theorem nbk_stay {k : RK} {g a y lo hi : Int} (h : imax 0 (y - g) ≤ a ∧ a ≤ y) : nbk k g a y lo hi = a := if_pos h
theorem nbk_half {g a y lo hi : Int} (h : ¬ (imax 0 (y - g) ≤ a ∧ a ≤ y)) : nbk .halving g a y lo hi = (mC g hi + lo) / 2 := if_neg h
theorem bl2_same {g lo hi y : Int} (h : ¬ g < imax hi y - imin lo y) : bl2 g lo hi y = (imin lo y, imax hi y) := if_neg h
theorem bl2_new {g lo hi y : Int} (h : g < imax hi y - imin lo y) : bl2 g lo hi y = (y, y) := if_pos h
theorem tp_cons (a x : Int) (r : List Int) : tp a (x :: r) = (if x = a then 0 else 1) + tp x r := by
  show (if (!decide (x - a = (0 : Int))) = true then (1 : Int) else 0) + tp x r = _
  by_cases h : x = a
  · rw [if_pos h, if_neg (by simp; omega)]
  · rw [if_neg h, if_pos (by simp; omega)]
/-- what halving adds: at most Dg traps in each further block -/
theorem halved_le {g : Int} (g0 : 0 ≤ g) {Dg : Nat} (hD : ∀ T : Nat, 1 ≤ (g + 1) / 2 ^ T → T < Dg) : ∀ (L : List Int) (a lo hi c : Int) (T : Nat), (∀ y ∈ L, 0 ≤ y) → 0 ≤ lo → Hv g T a lo hi → T ≤ Dg →
    tp a (rpl .halving g a lo hi L) ≤ ((L.foldl (gstep g) (c, lo, hi)).1 - c) * Dg + (Dg - T)
  | [], a, lo, hi, c, T, _, _, _, hT => by
    show (0 : Int) ≤ (c - c) * (Dg : Int) + (Dg - T)
    rw [Int.sub_self, Int.zero_mul]; omega
  | y :: L, a, lo, hi, c, T, hb, l0, hv, hT => by
    have y0 := hb y List.mem_cons_self
    have hb' : ∀ z ∈ L, 0 ≤ z := fun z hz => hb z (List.mem_cons_of_mem _ hz)
    have d1 : 1 ≤ Dg := by
      have := hD 0 (by rw [show (g + 1) / 2 ^ 0 = g + 1 from Int.ediv_one _]; omega)
      omega
    show tp a (nbk .halving g a y (bl2 g lo hi y).1 (bl2 g lo hi y).2 :: rpl .halving g (nbk .halving g a y (bl2 g lo hi y).1 (bl2 g lo hi y).2) (bl2 g lo hi y).1 (bl2 g lo hi y).2 L) ≤ _
    rw [tp_cons, List.foldl_cons]
    by_cases q : g < imax hi y - imin lo y
    · rw [bl2_new q, show gstep g (c, lo, hi) y = (c + 1, y, y) from if_pos q]
      dsimp only
      have key : ∀ (x : Int) (T' : Nat), Hv g T' x y y → T' ≤ Dg → (if x = a then (0 : Int) else 1) ≤ T' → (if x = a then (0 : Int) else 1) + tp x (rpl .halving g x y y L) ≤ ((L.foldl (gstep g) (c + 1, y, y)).1 - c) * Dg + (Dg - T) := fun x T' h1 h2 h3 => by
        have ih := halved_le g0 hD L x y y (c + 1) T' hb' y0 h1 h2
        have e : ((L.foldl (gstep g) (c + 1, y, y)).1 - c) * (Dg : Int) = ((L.foldl (gstep g) (c + 1, y, y)).1 - (c + 1)) * Dg + Dg := by
          rw [show (L.foldl (gstep g) (c + 1, y, y)).1 - c = ((L.foldl (gstep g) (c + 1, y, y)).1 - (c + 1)) + 1 by omega, Int.add_mul, Int.one_mul]
        rw [e]
        omega
      by_cases z : imax 0 (y - g) ≤ a ∧ a ≤ y
      · rw [nbk_stay z]
        exact key a 0 hv_none (Nat.zero_le _) (by rw [if_pos rfl]; exact Int.le_refl _)
      · rw [nbk_half z]
        exact key _ 1 (hv_new g0 y0) d1 (by split <;> decide)
    · rw [bl2_same q, show gstep g (c, lo, hi) y = (c, imin lo y, imax hi y) from if_neg q]
      dsimp only
      have l0' : 0 ≤ imin lo y := by simp only [imin_def]; split <;> omega
      by_cases z : imax 0 (y - g) ≤ a ∧ a ≤ y
      · rw [nbk_stay z, if_pos rfl, Int.zero_add]
        exact halved_le g0 hD L a _ _ c T hb' l0' (hv_stay hv) hT
      · obtain ⟨h1, h2⟩ := hv_trap g0 y0 l0 hv q z
        have lt := hD T h1
        have ih := halved_le g0 hD L ((mC g (imax hi y) + imin lo y) / 2) _ _ c (T + 1) hb' l0' h2 (by omega)
        rw [nbk_half z]
        have : (if (mC g (imax hi y) + imin lo y) / 2 = a then (0 : Int) else 1) ≤ 1 := by split <;> decide
        omega
/-- in the first block there is none -/
theorem halved_first {g : Int} (g0 : 0 ≤ g) {Dg : Nat} (hD : ∀ T : Nat, 1 ≤ (g + 1) / 2 ^ T → T < Dg) : ∀ (L : List Int) (hi c : Int), (∀ y ∈ L, 0 ≤ y) → 0 ≤ hi → hi ≤ g →
    tp 0 (rpl .halving g 0 0 hi L) ≤ ((L.foldl (gstep g) (c, 0, hi)).1 - c) * Dg
  | [], hi, c, _, _, _ => by
    show (0 : Int) ≤ (c - c) * (Dg : Int)
    rw [Int.sub_self, Int.zero_mul]; exact Int.le_refl 0
  | y :: L, hi, c, hb, h0, h1 => by
    have y0 := hb y List.mem_cons_self
    have hb' : ∀ z ∈ L, 0 ≤ z := fun z hz => hb z (List.mem_cons_of_mem _ hz)
    by_cases q : g < imax hi y - imin 0 y
    · -- the block ends here: as ahead of a new one
      have h := halved_le g0 hD [y] 0 0 hi c Dg (fun z hz => by rw [List.mem_singleton.mp hz]; exact y0) (Int.le_refl 0)
      have d1 : 1 ≤ Dg := by
        have := hD 0 (by rw [show (g + 1) / 2 ^ 0 = g + 1 from Int.ediv_one _]; omega)
        omega
      show tp 0 (nbk .halving g 0 y (bl2 g 0 hi y).1 (bl2 g 0 hi y).2 :: rpl .halving g (nbk .halving g 0 y (bl2 g 0 hi y).1 (bl2 g 0 hi y).2) (bl2 g 0 hi y).1 (bl2 g 0 hi y).2 L) ≤ _
      rw [tp_cons, List.foldl_cons, bl2_new q, show gstep g (c, 0, hi) y = (c + 1, y, y) from if_pos q]
      dsimp only
      have key : ∀ (x : Int) (T' : Nat), Hv g T' x y y → T' ≤ Dg → (if x = 0 then (0 : Int) else 1) ≤ T' → (if x = 0 then (0 : Int) else 1) + tp x (rpl .halving g x y y L) ≤ ((L.foldl (gstep g) (c + 1, y, y)).1 - c) * Dg := fun x T' h1 h2 h3 => by
        have ih := halved_le g0 hD L x y y (c + 1) T' hb' y0 h1 h2
        have e : ((L.foldl (gstep g) (c + 1, y, y)).1 - c) * (Dg : Int) = ((L.foldl (gstep g) (c + 1, y, y)).1 - (c + 1)) * Dg + Dg := by
          rw [show (L.foldl (gstep g) (c + 1, y, y)).1 - c = ((L.foldl (gstep g) (c + 1, y, y)).1 - (c + 1)) + 1 by omega, Int.add_mul, Int.one_mul]
        rw [e]
        omega
      by_cases z : imax 0 (y - g) ≤ 0 ∧ 0 ≤ y
      · rw [nbk_stay z]
        exact key 0 0 hv_none (Nat.zero_le _) (by rw [if_pos rfl]; exact Int.le_refl _)
      · rw [nbk_half z]
        exact key _ 1 (hv_new g0 y0) d1 (by split <;> decide)
    · have e2 : imin 0 y = 0 := imin_of y0
      have z : imax 0 (y - g) ≤ 0 ∧ 0 ≤ y := by
        rw [e2] at q
        simp only [imax_def] at q ⊢
        constructor
        · split <;> (split at q) <;> omega
        · exact y0
      show tp 0 (nbk .halving g 0 y (bl2 g 0 hi y).1 (bl2 g 0 hi y).2 :: rpl .halving g (nbk .halving g 0 y (bl2 g 0 hi y).1 (bl2 g 0 hi y).2) (bl2 g 0 hi y).1 (bl2 g 0 hi y).2 L) ≤ _
      rw [tp_cons, List.foldl_cons, bl2_same q, show gstep g (c, 0, hi) y = (c, imin 0 y, imax hi y) from if_neg q, e2]
      dsimp only
      rw [nbk_stay z, if_pos rfl, Int.zero_add]
      rw [e2] at q
      exact halved_first g0 hD L _ c hb' (by simp only [imax_def]; split <;> omega) (by simp only [imax_def] at q ⊢; split <;> (split at q) <;> omega)
end Zm
/-! High paths and far machines. -/
namespace Zm
open PySem PySem.Spec PyProof.Rows L2 Z
theorem high_ok {n many : Int} {s : List Int} (h : Src n s) (hn : n ≤ 10 ^ 8) (m0 : 0 ≤ many) (m1 : many ≤ 100000) :
    ∃ bs s', m__law_high_path s many = some (tx bs, s') ∧ (bs.length : Int) = many ∧ ok 0 bs ∧ Src (n + 2 * many + 1) s' := by
  unfold m__law_high_path
  obtain ⟨st, e2, bs, a1, a2, a3, a4, a5⟩ := while_run (f := m__law_high_path_b1 many) (PathSt n many) (fun st => many.toNat - st.1.length) (fun st => ∃ bs : List Bool, st.1 = tx bs ∧ st.2.1 = dp 0 bs ∧ ok 0 bs ∧ (bs.length : Int) = many ∧ Src (n + 2 * many) st.2.2)
    (fun st ⟨bs, b1, b2, b3, b4, b5⟩ => by
      obtain ⟨found, high, src⟩ := st
      simp only at b1 b2 b5
      subst b1 b2
      have hlen : bs.length ≤ 100000 := by omega
      have hk := (line_le (n := bs.length) (by omega)).1
      unfold m__law_high_path_b1
      rw [chk_bind (by show (tx bs).length ≤ _; rw [tx_len]; exact hk)]
      by_cases hlt : (bs.length : Int) < many
      · rw [if_pos (by show decide ((((tx bs).length : Nat) : Int) < many) = true; rw [tx_len]; exact decide_eq_true hlt)]
        rw [chk_bind (by show (tx bs).length ≤ _; rw [tx_len]; exact hk)]
        obtain ⟨r, s2, e4, r0, r1, h2⟩ := draw_ok (c := 300) b5 (by omega) (by decide) (by decide)
        rw [to_bind e4]
        have key : ∃ (st : Bool × List Int), (if decide ((0 : Int) < dp 0 bs) = true then m__law_draw s2 2 >>= fun r16 => some (decide (r16.1 = (0 : Int)), r16.2) else some (false, s2)) = some st ∧ (st.1 = true → 0 < dp 0 bs) ∧ Src (n + 2 * bs.length + 2) st.2 := by
          by_cases hd : 0 < dp 0 bs
          · obtain ⟨r5, s3, e5, _, _, h3⟩ := draw_ok (c := 2) h2 (by omega) (by decide) (by decide)
            exact ⟨(decide (r5 = (0 : Int)), s3), by rw [if_pos (decide_eq_true hd), to_bind e5], fun _ => hd, h3.up (by omega)⟩
          · exact ⟨(false, s2), by rw [if_neg (by simpa using hd)], (fun h => by cases h), h2.up (by omega)⟩
        obtain ⟨st, e6, g1, g2⟩ := key
        rw [to_bind e6]
        simp only [tx_len]
        have sz := imin_le (many - (bs.length : Int)) (1 + r)
        have sp := imin_pos (a := many - (bs.length : Int)) (b := 1 + r) (by omega) (by omega)
        generalize imin (many - (bs.length : Int)) (1 + r) = size at sz sp ⊢
        by_cases hs1 : st.1 = true
        · rw [if_pos hs1]
          have hp := g1 hs1
          have sz2 := imin_le size (dp 0 bs)
          have sp2 := imin_pos sp hp
          generalize imin size (dp 0 bs) = z at sz2 sp2 ⊢
          rw [minus_eq, tx_mul, chk_bind (show Z.CRep (sg false) z from ⟨by decide, by omega, by omega⟩), chk_bind (by rw [tx_len, List.length_replicate]; exact (line_le (by omega)).1), tx_app]
          refine .inl ⟨_, rfl, ⟨bs ++ List.replicate z.toNat false, rfl, ?_, ?_, ?_, ?_⟩, ?_⟩
          · show dp 0 bs - z = _
            rw [dp_app, dp_downs]; omega
          · exact (ok_app _ _ _).mpr ⟨b3, ok_downs _ _ (by omega)⟩
          · simp; omega
          · show Src _ st.2
            exact g2.up (by simp; omega)
          · show many.toNat - (tx (bs ++ List.replicate z.toNat false)).length < many.toNat - bs.length
            rw [tx_len]; simp; omega
        · rw [if_neg hs1, plus_eq, tx_mul, chk_bind (show Z.CRep (sg true) size from ⟨by decide, by omega, by omega⟩), chk_bind (by rw [tx_len, List.length_replicate]; exact (line_le (by omega)).1), tx_app]
          refine .inl ⟨_, rfl, ⟨bs ++ List.replicate size.toNat true, rfl, ?_, ?_, ?_, ?_⟩, ?_⟩
          · show dp 0 bs + size = _
            rw [dp_app, dp_ups]; omega
          · exact (ok_app _ _ _).mpr ⟨b3, ok_ups _ _ (dp_nn _ _ (by omega) b3)⟩
          · simp; omega
          · show Src _ st.2
            exact g2.up (by simp; omega)
          · show many.toNat - (tx (bs ++ List.replicate size.toNat true)).length < many.toNat - bs.length
            rw [tx_len]; simp; omega
      · rw [if_neg (by show ¬ decide ((((tx bs).length : Nat) : Int) < many) = true; rw [tx_len]; simpa using hlt)]
        exact .inr ⟨_, rfl, bs, rfl, rfl, b3, by omega, b5.up (by omega)⟩)
    FUEL (("" : Str), 0, s) ⟨[], empty_eq, rfl, trivial, m0, h.up (by simp)⟩ (by show many.toNat - _ < 1000000; omega)
  rw [to_bind e2, after_go]
  obtain ⟨f, hi, src⟩ := st
  simp only at a1 a2 a5
  subst a1
  exact ⟨bs, src, rfl, a4, a3, a5.up (by omega)⟩
theorem far_ok {n : Int} {s : List Int} (h : Src n s) (hn : n ≤ 10 ^ 8) : ∃ seats held s', m__law_far_machine s = some ((seats, held), s') ∧ Mach seats held ∧ Src (n + 5) s' := by
  obtain ⟨a, s1, e1, a0, a1, h1⟩ := draw_ok (c := 360) h (by omega) (by decide) (by decide)
  obtain ⟨b, s2, e2, b0, b1, h2⟩ := draw_ok (c := 100) h1 (by omega) (by decide) (by decide)
  obtain ⟨c, s3, e3, c0, c1, h3⟩ := draw_ok (c := 3) h2 (by omega) (by decide) (by decide)
  obtain ⟨d, s4, e4, d0, d1, h4⟩ := draw_ok (c := 300) h3 (by omega) (by decide) (by decide)
  obtain ⟨e, s5, e5, f0, f1, h5⟩ := draw_ok (c := 4) h4 (by omega) (by decide) (by decide)
  obtain ⟨room, er, r0, r1⟩ : ∃ r, atI [(40 : Int) + a, b, (10 : Int) ^ (30 : Int).toNat - 1001] c = some r ∧ 0 ≤ r ∧ r ≤ 10 ^ 30 - 1001 := by
    rcases (show c = 0 ∨ c = 1 ∨ c = 2 by omega) with z | z | z <;> subst z
    · exact ⟨40 + a, rfl, by omega, by omega⟩
    · exact ⟨b, rfl, b0, by omega⟩
    · exact ⟨10 ^ 30 - 1001, rfl, by decide, by decide⟩
  obtain ⟨held, eh, k0, k1⟩ : ∃ r, atI [(0 : Int), 0, 1, d] e = some r ∧ 0 ≤ r ∧ r ≤ 299 := by
    rcases (show e = 0 ∨ e = 1 ∨ e = 2 ∨ e = 3 by omega) with z | z | z | z <;> subst z
    · exact ⟨0, rfl, by decide, by decide⟩
    · exact ⟨0, rfl, by decide, by decide⟩
    · exact ⟨1, rfl, by decide, by decide⟩
    · exact ⟨d, rfl, d0, by omega⟩
  unfold m__law_far_machine
  rw [to_bind e1, to_bind e2, to_bind e3, to_bind er, to_bind e4, to_bind e5, to_bind eh]
  have hm : imax 1 (room + held) = 1 ∧ room + held ≤ 1 ∨ imax 1 (room + held) = room + held ∧ 1 ≤ room + held := by unfold imax; split <;> omega
  exact ⟨_, _, _, rfl, ⟨by omega, by omega, k0, by omega⟩, h5.up (by omega)⟩
end Zm
/-! Tables over all numbers: the least price of all plans. -/
namespace Zm
open PySem PySem.Spec PyProof.Rows L2 Z
/-- the price of one step -/
def wst (p0 p1 a n : Int) : Int := p0 * (if n = a then 0 else 1) + p1 * (if a < n then n - a else a - n)
def cst (p0 p1 a : Int) (ns : List Int) : Int := p0 * tp a ns + p1 * tv a ns
theorem cst_cons (p0 p1 a n : Int) (ns : List Int) : cst p0 p1 a (n :: ns) = wst p0 p1 a n + cst p0 p1 n ns := by
  unfold cst wst
  rw [tp_cons, tv_cons, Int.mul_add, Int.mul_add]
  omega
/-- the table t with the keys l -/
abbrev tab (l : List Int) (v : Int → Int) : List (Int × Int) := l.map fun n => (n, v n)
theorem dget_tab {l : List Int} {v : Int → Int} {n : Int} (h : n ∈ l) : Z.dget (tab l v) n = some (v n) := by
  unfold Z.dget tab
  induction l with
  | nil => cases h
  | cons x r ih =>
    rw [List.map_cons, List.find?_cons]
    by_cases e : x = n
    · rw [decide_eq_true e]; rw [e]; rfl
    · rw [decide_eq_false e]
      rcases List.mem_cons.mp h with z | z
      · exact absurd z.symm e
      · exact ih z
theorem dget_no {l : List Int} {v : Int → Int} {n : Int} (h : n ∉ l) : Z.dget (tab l v) n = none := by
  unfold Z.dget tab
  induction l with
  | nil => rfl
  | cons x r ih =>
    rw [List.map_cons, List.find?_cons, decide_eq_false fun e => h (by rw [← e]; exact List.mem_cons_self)]
    exact ih fun z => h (List.mem_cons_of_mem _ z)
theorem dput_new {m : List (Int × Int)} {n c : Int} (h : ∀ e ∈ m, e.1 ≠ n) : Z.dput m n c = m ++ [(n, c)] := by
  unfold Z.dput
  rw [if_neg]
  rw [List.any_eq_true]
  rintro ⟨e, he, q⟩
  exact h e he (of_decide_eq_true q)
theorem tab_fst (l : List Int) (v : Int → Int) : (tab l v).map Prod.fst = l := by
  unfold tab
  rw [List.map_map]
  exact List.map_id' l
theorem upto_mem' {a b x : Int} : x ∈ Z.upto a b ↔ a ≤ x ∧ x < b := by
  refine ⟨upto_mem, fun ⟨h1, h2⟩ => ?_⟩
  unfold Z.upto
  exact List.mem_map.mpr ⟨(x - a).toNat, List.mem_range.mpr (by omega), by omega⟩
/-- a loop that fills a table -/
theorem fill_loop {R : Type} {f : Int → List (Int × Int) → Option (Step (List (Int × Int)) R)} (v : Int → Int) (b : Int) : ∀ (k : Nat) (i : Int) (m : List (Int × Int)), i + k = b → (∀ e ∈ m, e.1 < i) → (∀ n m, i ≤ n → n < b → (∀ e ∈ m, e.1 < n) → m.length ≤ 1000000 → f n m = some (.go (m ++ [(n, v n)]))) → m.length + k ≤ 1000000 →
    loopM f (Z.upto i b) m = some (.go (m ++ tab (Z.upto i b) v))
  | 0, i, m, hk, _, _, _ => by rw [upto_nil (by omega)]; show some (Z.Step.go m) = some (Z.Step.go (m ++ [])); rw [List.append_nil]
  | k + 1, i, m, hk, hm, hf, hl => by
    rw [upto_cons (by omega)]
    refine (loop_cons (hf i m (Int.le_refl i) (by omega) hm (by omega))).trans ?_
    rw [fill_loop v b k (i + 1) (m ++ [(i, v i)]) (by omega) (fun e he => by
      rcases List.mem_append.mp he with z | z
      · have := hm e z; omega
      · rw [List.mem_singleton.mp z]; show i < i + 1; omega) (fun n m h1 h2 h3 h4 => hf n m (by omega) h2 h3 h4) (by simp; omega), List.append_assoc]
    rfl
/-- one stage: from the table (l, v) to the table (l', v') -/
structure Stage (p0 p1 : Int) (l : List Int) (v : Int → Int) (lo y : Int) (v' : Int → Int) : Prop where
  low : ∀ n, lo ≤ n → n ≤ y → ∃ e ∈ l, v e + wst p0 p1 e n ≤ v' n
  high : ∀ e ∈ l, ∀ n, lo ≤ n → n ≤ y → v' n ≤ v e + wst p0 p1 e n
/-- what a table tells of all plans for the levels L, from the table (l, v) on -/
structure Tells (p0 p1 g : Int) (L : List Int) (l : List Int) (v : Int → Int) (l' : List Int) (v' : Int → Int) : Prop where
  some : l' ≠ []
  low : ∀ n ∈ l', ∃ e ∈ l, ∃ ns, In2 (L.map fun x => (imax 0 (x - g), x)) ns ∧ lst e ns = n ∧ v e + cst p0 p1 e ns ≤ v' n
  high : ∀ e ∈ l, ∀ ns, In2 (L.map fun x => (imax 0 (x - g), x)) ns → lst e ns ∈ l' ∧ v' (lst e ns) ≤ v e + cst p0 p1 e ns
theorem Tells.nil {p0 p1 g : Int} {l : List Int} {v : Int → Int} (h : l ≠ []) : Tells p0 p1 g [] l v l v :=
  ⟨h, fun n hn => ⟨n, hn, [], trivial, rfl, by show v n + (p0 * 0 + p1 * (0 + 0)) ≤ v n; rw [Int.mul_zero]; simp⟩, fun e he ns hns => by
    match ns, hns with
    | [], _ => exact ⟨he, by show v e ≤ v e + (p0 * 0 + p1 * (0 + 0)); rw [Int.mul_zero]; simp⟩⟩
theorem Tells.cons {p0 p1 g y : Int} {L l l' : List Int} {v v1 v' : Int → Int} (s : Stage p0 p1 l v (imax 0 (y - g)) y v1) (h : Tells p0 p1 g L (Z.upto (imax 0 (y - g)) (y + 1)) v1 l' v') : Tells p0 p1 g (y :: L) l v l' v' := by
  refine ⟨h.some, fun n hn => ?_, fun e he ns hns => ?_⟩
  · obtain ⟨e1, m1, ns, i1, l1, c1⟩ := h.low n hn
    obtain ⟨b1, b2⟩ := upto_mem m1
    obtain ⟨e, me, c2⟩ := s.low e1 b1 (by omega)
    exact ⟨e, me, e1 :: ns, ⟨⟨b1, by show e1 ≤ y; omega⟩, i1⟩, l1, by rw [cst_cons]; omega⟩
  · match ns, hns with
    | n :: ns, ⟨⟨b1, b2⟩, i⟩ =>
      have b1' : imax 0 (y - g) ≤ n := b1
      have b2' : n ≤ y := b2
      obtain ⟨c1, c2⟩ := h.high n (upto_mem'.mpr ⟨b1', by omega⟩) ns i
      have c3 := s.high e he n b1' b2'
      refine ⟨c1, ?_⟩
      rw [cst_cons]
      show v' (lst n ns) ≤ _
      omega
/-- the least of a table -/
theorem least_eq {p0 p1 g X : Int} {L l' : List Int} {v' : Int → Int} (h : Tells p0 p1 g L [0] (fun _ => 0) l' v') (lb : ∀ ns, In2 (L.map fun x => (imax 0 (x - g), x)) ns → X ≤ cst p0 p1 0 ns) (ub : ∃ ns, In2 (L.map fun x => (imax 0 (x - g), x)) ns ∧ cst p0 p1 0 ns ≤ X) : Z.lmin (l'.map v') = X := by
  have ne : l'.map v' ≠ [] := by simpa using h.some
  obtain ⟨m1, m2⟩ := lmin_mem ne
  obtain ⟨n, hn, en⟩ := List.mem_map.mp m1
  obtain ⟨e, me, ns, i, _, c⟩ := h.low n hn
  have e0 := List.mem_singleton.mp me
  subst e0
  have c1 := lb ns i
  obtain ⟨ms, i2, c2⟩ := ub
  obtain ⟨k1, k2⟩ := h.high 0 (List.mem_singleton.mpr rfl) ms i2
  have c3 := m2 _ (List.mem_map.mpr ⟨_, k1, rfl⟩)
  omega
/-! ### both prices: the least one is that of the best plan -/
theorem price_low {p0 p1 reg top : Int} {bs : List Bool} (q0 : 0 ≤ p0) (q1 : 0 ≤ p1) (m : Mach reg top) {ns : List Int} (h : In2 ((lv top bs).map fun x => (imax 0 (x - (reg - top)), x)) ns) :
    p0 * (gr (reg - top) (lv top bs)).1 + p1 * tv 0 (lz reg top 0 (0 :: hs 0 bs)) ≤ cst p0 p1 0 ns := by
  obtain ⟨m1, m2, m3, m4⟩ := id m
  rw [lv_map top m3] at h
  have pl := In2.pl m4 h
  have pt := plan_traps m3 m4 pl
  obtain ⟨l1, l2⟩ := least m3 m4 (0 :: hs 0 bs) ns 0 0 0 0 0 0 pl (by decide) (by decide) (by decide) (by decide) (by decide)
  have a1 := Int.mul_le_mul_of_nonneg_left pt q0
  have a2 : p1 * tv 0 (lz reg top 0 (0 :: hs 0 bs)) ≤ p1 * tv 0 ns := Int.mul_le_mul_of_nonneg_left (show wr 0 _ + rd 0 _ ≤ wr 0 ns + rd 0 ns by omega) q1
  unfold cst
  omega
theorem price_best {p0 p1 reg top : Int} {bs : List Bool} (o : ok 0 bs) (hl : bs.length ≤ 1000) (m : Mach reg top) :
    ∃ ns, In2 ((lv top bs).map fun x => (imax 0 (x - (reg - top)), x)) ns ∧ cst p0 p1 0 ns ≤ p0 * (gr (reg - top) (lv top bs)).1 + p1 * tv 0 (lz reg top 0 (0 :: hs 0 bs)) := by
  obtain ⟨m1, m2, m3, m4⟩ := id m
  have pl := pg_plan m (gb_grp (bs := bs) m)
  have c1 := best_counts o hl m
  have c2 := counts_ok o hl m pl
  have e : some (wr 0 (pg (reg - top) 0 (GB reg top bs)), rd 0 (pg (reg - top) 0 (GB reg top bs)), tp 0 (pg (reg - top) 0 (GB reg top bs))) = some (wr 0 (lz reg top 0 (0 :: hs 0 bs)), rd 0 (lz reg top 0 (0 :: hs 0 bs)), (gr (reg - top) (lv top bs)).1) := c2.symm.trans c1
  injection e with e
  injection e with e1 e2
  injection e2 with e2 e3
  refine ⟨pg (reg - top) 0 (GB reg top bs), ?_, ?_⟩
  · have := pl.in m4
    rw [← lv_map top m3] at this
    exact this
  · unfold cst
    rw [e3, show tv 0 (pg (reg - top) 0 (GB reg top bs)) = tv 0 (lz reg top 0 (0 :: hs 0 bs)) by show wr 0 _ + rd 0 _ = wr 0 _ + rd 0 _; rw [e1, e2]]
    exact Int.le_refl _
end Zm
namespace Z18
open PySem PySem.Spec PyProof.Rows L2 Z Zm
/-! ### like things at places -/
def sb : Nat → Nat → Nat
  | _, 0 => 1
  | 0, _ + 1 => 0
  | P + 1, n + 1 => sb P (n + 1) + sb (P + 1) n
theorem sb_zero (P : Nat) : sb P 0 = 1 := by cases P <;> simp [sb]
theorem sb_none (n : Nat) : sb 0 (n + 1) = 0 := by simp [sb]
theorem sb_step (P n : Nat) : sb (P + 1) (n + 1) = sb P (n + 1) + sb (P + 1) n := by simp [sb]
theorem sb_one : ∀ n : Nat, sb 1 n = 1
  | 0 => sb_zero 1
  | n + 1 => by rw [sb_step, sb_none, sb_one n]
def ff (p n : Nat) : Nat := sb (p + 1) n
theorem ff_zero (p : Nat) : ff p 0 = 1 := sb_zero _
theorem ff_one (n : Nat) : ff 0 n = 1 := sb_one n
theorem ff_step (p n : Nat) : ff (p + 1) (n + 1) = ff p (n + 1) + ff (p + 1) n := sb_step _ _
theorem ff_mul : ∀ (s p n : Nat), p + n = s → ff p (n + 1) * (n + 1) = ff p n * (n + 1 + p) ∧ ff (p + 1) n * (p + 1) = ff p n * (n + p + 1)
  | 0, p, n, h => by
    obtain rfl : p = 0 := by omega
    obtain rfl : n = 0 := by omega
    exact ⟨by rw [ff_one, ff_one], by rw [ff_zero, ff_zero]⟩
  | s + 1, p, n, h => by
    have m1 : ff p (n + 1) * (n + 1) = ff p n * (n + 1 + p) := by
      cases p with
      | zero => rw [ff_one, ff_one]
      | succ p =>
        obtain ⟨a, b⟩ := ff_mul s p n (by omega)
        rw [ff_step, Nat.add_mul, a, show n + 1 + p = n + p + 1 by omega, ← b, ← Nat.mul_add]
        congr 1; omega
    refine ⟨m1, ?_⟩
    cases n with
    | zero => rw [ff_zero, ff_zero]; omega
    | succ n =>
      obtain ⟨a, b⟩ := ff_mul s p n (by omega)
      rw [ff_step, Nat.add_mul, b, show n + p + 1 = n + 1 + p by omega, ← a, ← Nat.mul_add]
      congr 1; omega
theorem fp_front (x : Int) : ∀ k : Nat, Builtin.Math.fallingProduct (x + 1) (k + 1) = (x + 1) * Builtin.Math.fallingProduct x k
  | 0 => by rw [PySem.W.mc_fp_one, PySem.W.mc_fp_zero, Int.mul_one]
  | k + 1 => by
    rw [PySem.W.mc_fp_succ (x + 1) (k + 1), fp_front x k, PySem.W.mc_fp_succ x k, Int.mul_assoc]
    congr 2
    omega
theorem ff_n (p : Nat) : ∀ n : Nat, (ff p n : Int) * Builtin.Math.fallingProduct (n : Int) n = Builtin.Math.fallingProduct ((n + p : Nat) : Int) n
  | 0 => by rw [ff_zero, PySem.W.mc_fp_zero, PySem.W.mc_fp_zero]; rfl
  | n + 1 => by
    have a := (ff_mul (p + n) p n rfl).1
    have a' : (ff p (n + 1) : Int) * ((n : Int) + 1) = (ff p n : Int) * ((n : Int) + 1 + p) := by
      have := congrArg (fun z : Nat => (z : Int)) a
      simpa using this
    rw [show ((n + 1 : Nat) : Int) = (n : Int) + 1 by omega, fp_front, ← Int.mul_assoc, a', show ((n + 1 + p : Nat) : Int) = ((n + p : Nat) : Int) + 1 by omega, fp_front, ← ff_n p n, show ((n + p : Nat) : Int) + 1 = (n : Int) + 1 + p by omega, Int.mul_assoc, Int.mul_comm, Int.mul_assoc]
    rw [Int.mul_comm (Builtin.Math.fallingProduct (n : Int) n)]
theorem ff_p (n : Nat) : ∀ p : Nat, (ff p n : Int) * Builtin.Math.fallingProduct (p : Int) p = Builtin.Math.fallingProduct ((n + p : Nat) : Int) p
  | 0 => by rw [ff_one, PySem.W.mc_fp_zero, PySem.W.mc_fp_zero]; rfl
  | p + 1 => by
    have a := (ff_mul (p + n) p n rfl).2
    have a' : (ff (p + 1) n : Int) * ((p : Int) + 1) = (ff p n : Int) * ((n : Int) + p + 1) := by
      have := congrArg (fun z : Nat => (z : Int)) a
      simpa using this
    rw [show ((p + 1 : Nat) : Int) = (p : Int) + 1 by omega, fp_front, ← Int.mul_assoc, a', show ((n + (p + 1) : Nat) : Int) = ((n + p : Nat) : Int) + 1 by omega, fp_front, ← ff_p n p, show ((n + p : Nat) : Int) + 1 = (n : Int) + p + 1 by omega, Int.mul_assoc, Int.mul_comm, Int.mul_assoc]
    rw [Int.mul_comm (Builtin.Math.fallingProduct (p : Int) p)]
theorem comb_ff (p n : Nat) : PySem.W.mcComb ((n + p : Nat) : Int) (p : Int) = ff p n := by
  have q : ∀ k : Nat, (ff p n : Int) * Builtin.Math.fallingProduct (k : Int) k = Builtin.Math.fallingProduct ((n + p : Nat) : Int) k → Builtin.Math.fallingProduct ((n + p : Nat) : Int) k / Builtin.Math.fallingProduct (k : Int) k = ff p n := fun k h => by
    have pos := PySem.W.mc_fp_pos (n := (k : Int)) k (Int.le_refl _)
    rw [← h]
    exact Int.mul_ediv_cancel _ (by omega)
  rcases Nat.le_total p n with h | h
  · rw [PySem.W.mcComb_at (m := (p : Int)) (by omega) (by omega) (by omega)]
    exact q p (ff_p n p)
  · rw [PySem.W.mcComb_at (m := (n : Int)) (by omega) (by omega) (by omega)]
    exact q n (ff_n p n)
/-! ### the rows' product -/
def hd (l : List Int) : Int := l.headD 0
def pr : List Int → Int
  | [] => 1
  | x :: r => (ff (2 * r.sum).toNat (x - hd r).toNat : Int) * pr r
structure Rw (l : List Int) : Prop where
  row : Row l
  sum : l.sum ≤ 300
inductive Ds : List Int → Prop where
  | nil : Ds []
  | cons {x : Int} {r : List Int} (h1 : 1 ≤ x) (h2 : hd r ≤ x) (h : Ds r) : Ds (x :: r)
theorem Ds.sum {l : List Int} (h : Ds l) : 0 ≤ l.sum ∧ (l.length : Int) ≤ l.sum ∧ 0 ≤ hd l ∧ hd l ≤ l.sum := by
  induction h with
  | nil => exact ⟨Int.le_refl 0, Int.le_refl 0, Int.le_refl 0, Int.le_refl 0⟩
  | @cons x r h1 h2 h ih =>
    rw [List.sum_cons, List.length_cons]
    show 0 ≤ x + r.sum ∧ ((r.length + 1 : Nat) : Int) ≤ x + r.sum ∧ 0 ≤ x ∧ x ≤ x + r.sum
    omega
theorem ff_le {p : Nat} : ∀ n : Nat, n + p ≤ 2048 → ff p n ≤ 2048 ^ n
  | 0, _ => by rw [ff_zero]; decide
  | n + 1, h => by
    have a := (ff_mul (p + n) p n rfl).1
    have ih := ff_le (p := p) n (by omega)
    rw [Nat.pow_succ]
    have b : ff p (n + 1) ≤ ff p (n + 1) * (n + 1) := Nat.le_mul_of_pos_right _ (by omega)
    exact Nat.le_trans b (a ▸ Nat.mul_le_mul ih (by omega))
theorem ff_pos (p : Nat) : ∀ n : Nat, 1 ≤ ff p n
  | 0 => by rw [ff_zero]; exact Nat.le_refl 1
  | n + 1 => by
    have a := (ff_mul (p + n) p n rfl).1
    have ih := ff_pos p n
    have b : 0 < ff p n * (n + 1 + p) := Nat.mul_pos ih (by omega)
    rw [← a] at b
    exact Nat.pos_of_mul_pos_right b
theorem pr_bound {l : List Int} (h : Ds l) (hs : l.sum ≤ 400) : 1 ≤ pr l ∧ pr l ≤ ((2048 ^ (hd l).toNat : Nat) : Int) := by
  induction h with
  | nil => exact ⟨Int.le_refl 1, by decide⟩
  | @cons x r h1 h2 h ih =>
    have hr := h.sum
    rw [List.sum_cons] at hs
    obtain ⟨i1, i2⟩ := ih (by omega)
    have f1 := ff_le (p := (2 * r.sum).toNat) (x - hd r).toNat (by omega)
    have f2 := ff_pos (2 * r.sum).toNat (x - hd r).toNat
    have e : 2048 ^ x.toNat = 2048 ^ (x - hd r).toNat * 2048 ^ (hd r).toNat := by rw [← Nat.pow_add]; congr 1; omega
    show 1 ≤ (ff _ _ : Int) * pr r ∧ (ff _ _ : Int) * pr r ≤ ((2048 ^ x.toNat : Nat) : Int)
    rw [e]
    constructor
    · have : (1 : Int) * 1 ≤ (ff (2 * r.sum).toNat (x - hd r).toNat : Int) * pr r := Int.mul_le_mul (by omega) i1 (by decide) (by omega)
      omega
    · rw [Int.natCast_mul]
      exact Int.mul_le_mul (by omega) i2 (by omega) (by omega)
theorem log_of {v : Int} {k : Nat} (h1 : 0 ≤ v) (h2 : v ≤ ((2048 ^ k : Nat) : Int)) : v.natAbs.log2 ≤ 11 * k := by
  by_cases e : v.natAbs = 0
  · rw [e]; simp
  · have lt : v.natAbs < 2 ^ (11 * k + 1) := by
      have : 2048 ^ k = 2 ^ (11 * k) := by rw [Nat.pow_mul]
      rw [Nat.pow_succ]
      omega
    have := (Nat.log2_lt e).mpr lt
    omega
theorem mul_ok {u v : Int} {a b : Nat} (u1 : 0 ≤ u) (u2 : u ≤ ((2048 ^ a : Nat) : Int)) (v1 : 0 ≤ v) (v2 : v ≤ ((2048 ^ b : Nat) : Int)) (h : a + b ≤ 2000) : CMulW u v := by
  have := log_of u1 u2
  have := log_of v1 v2
  unfold CMulW
  omega
/-! ### the program -/
theorem count_loop : ∀ (r : List Int) (w : Int) (k : Nat), Ds r → r.sum ≤ 300 → 0 ≤ w → w ≤ ((2048 ^ k : Nat) : Int) → k + (hd r).toNat ≤ 400 → loopM m_count_traces_b1 (List.zip r (r.drop 1 ++ [(0 : Int)])) (w, r.sum) = some (.go (w * pr r, 0))
  | [], w, k, _, _, _, _, _ => by show some (Step.go (w, (0 : Int))) = some (Step.go (w * 1, 0)); rw [Int.mul_one]
  | x :: r, w, k, h, hs, w1, w2, hk => by
    cases h with
    | cons h1 h2 h =>
    have hr := h.sum
    rw [List.sum_cons] at hs
    have f1 := ff_le (p := (2 * r.sum).toNat) (x - hd r).toNat (by omega)
    have hk' : k + x.toNat ≤ 400 := hk
    have e : 2048 ^ (k + (x - hd r).toNat) = 2048 ^ k * 2048 ^ (x - hd r).toNat := Nat.pow_add _ _ _
    have ih := count_loop r (w * (ff (2 * r.sum).toNat (x - hd r).toNat : Int)) (k + (x - hd r).toNat) h (by omega) (Int.mul_nonneg w1 (by omega)) (by rw [e, Int.natCast_mul]; exact Int.mul_le_mul w2 (by omega) (by omega) (by omega)) (by omega)
    have cb : PySem.W.mcComb ((x + ((2 * r.sum - hd r) + 1)) - 1) ((hd r + ((2 * r.sum - hd r) + 1)) - 1) = (ff (2 * r.sum).toNat (x - hd r).toNat : Int) := by
      have := comb_ff (2 * r.sum).toNat (x - hd r).toNat
      rw [← this]
      congr 1 <;> omega
    have zp : List.zip (x :: r) ((x :: r).drop 1 ++ [(0 : Int)]) = (x, hd r) :: List.zip r (r.drop 1 ++ [(0 : Int)]) := by
      cases r with
      | nil => rfl
      | cons y r => rfl
    rw [zp]
    refine (loop_cons (s' := (w * (ff (2 * r.sum).toNat (x - hd r).toNat : Int), r.sum)) ?_).trans ?_
    · unfold m_count_traces_b1
      dsimp only
      rw [List.sum_cons, show x + r.sum - x = r.sum by omega, cb, chk_bind (show Z.CComb _ _ from ⟨by omega, by omega, by omega⟩), chk_bind (mul_ok w1 w2 (by omega) (show (ff (2 * r.sum).toNat (x - hd r).toNat : Int) ≤ ((2048 ^ (x - hd r).toNat : Nat) : Int) by omega) (by omega))]
    · rw [ih, Int.mul_assoc]; rfl
theorem count_ok {l : List Int} (h : Ds l) (hr : Row l) (hs : l.sum ≤ 300) : m_count_traces l = some (pr l) := by
  have ds := h.sum
  have f := count_loop l 1 0 h hs (by decide) (by decide) (by omega)
  rw [Int.one_mul] at f
  unfold m_count_traces
  rw [to_bind (check_row_ok hr), cut_drop, chk_bind (by rw [List.length_drop, List.length_singleton]; exact (line_le (by omega)).1)]
  refine (to_bind f _).trans ?_
  rw [after_go]
theorem Ds.at {l : List Int} (h : Ds l) : (∀ x ∈ l, 1 ≤ x) ∧ ∀ (i : Nat) (x y : Int), l[i]? = some x → l[i + 1]? = some y → y ≤ x := by
  induction h with
  | nil => exact ⟨(by intro x hx; cases hx), (by intro i x y a; simp at a)⟩
  | @cons x r h1 h2 h ih =>
    refine ⟨fun y hy => ?_, fun i a b ha hb => ?_⟩
    · rcases List.mem_cons.mp hy with e | e
      · rw [e]; exact h1
      · exact ih.1 y e
    · cases i with
      | zero =>
        have e : x = a := Option.some.inj ha
        cases r with
        | nil => cases hb
        | cons z r =>
          have e2 : z = b := Option.some.inj hb
          have : z ≤ x := h2
          omega
      | succ i => exact ih.2 i a b ha hb
theorem Ds.row {l : List Int} (h : Ds l) (hs : l.sum ≤ 300) : Row l := by
  have := h.sum
  exact ⟨by omega, h.at.1, h.at.2⟩
/-! ### the law's table -/
def rw_ (P t : Nat) : List Int := (List.range (t + 1)).map fun n => (sb P n : Int)
def mx_ (P t j : Nat) : List Int := (List.range (t + 1)).map fun n => if n ≤ j then (sb (P + 1) n : Int) else (sb P n : Int)
theorem mx_at {P t j n : Nat} (h : n ≤ t) : (mx_ P t j)[n]? = some (if n ≤ j then (sb (P + 1) n : Int) else (sb P n : Int)) := by
  unfold mx_
  rw [List.getElem?_map, List.getElem?_range (by omega)]; rfl
theorem mx_set {P t j : Nat} (h : j + 1 ≤ t) : (mx_ P t j).set (j + 1) (sb (P + 1) (j + 1) : Int) = mx_ P t (j + 1) := by
  refine List.ext_getElem? fun n => ?_
  rw [List.getElem?_set]
  have ln : (mx_ P t j).length = t + 1 := by unfold mx_; simp
  by_cases q : j + 1 = n
  · subst q
    rw [if_pos rfl, if_pos (by omega), mx_at h, if_pos (Nat.le_refl _)]
  · rw [if_neg q]
    by_cases z : n ≤ t
    · rw [mx_at z, mx_at z]
      by_cases y : n ≤ j
      · rw [if_pos y, if_pos (by omega)]
      · rw [if_neg y, if_neg (by omega)]
    · have l2 : (mx_ P t (j + 1)).length = t + 1 := by unfold mx_; simp
      rw [List.getElem?_eq_none (by omega), List.getElem?_eq_none (by omega)]
theorem mx_first (P t : Nat) : mx_ P t 0 = rw_ P t := by
  unfold mx_ rw_
  refine List.map_congr_left fun n _ => ?_
  by_cases q : n ≤ 0
  · obtain rfl : n = 0 := by omega
    rw [if_pos q, sb_zero, sb_zero]
  · rw [if_neg q]
theorem mx_last (P t : Nat) : mx_ P t t = rw_ (P + 1) t := by
  unfold mx_ rw_
  refine List.map_congr_left fun n hn => ?_
  have := List.mem_range.mp hn
  rw [if_pos (by omega)]
theorem many_loop (P t : Nat) : ∀ (k j : Nat), j + k = t → loopM m__law_spread_b1 (Z.upto ((j : Int) + 1) ((j : Int) + 1 + k)) (mx_ P t j) = some (.go (mx_ P t t))
  | 0, j, h => by
    obtain rfl : j = t := by omega
    rw [upto_nil (by omega)]; rfl
  | k + 1, j, h => by
    have ih := many_loop P t k (j + 1) (by omega)
    have ln : (mx_ P t j).length = t + 1 := by unfold mx_; simp
    rw [upto_cons (by omega), show (j : Int) + 1 + ((k + 1 : Nat) : Int) = ((j + 1 : Nat) : Int) + 1 + (k : Int) by omega, show (j : Int) + 1 = ((j + 1 : Nat) : Int) by omega]
    refine (loop_cons (s' := mx_ P t (j + 1)) ?_).trans ih
    unfold m__law_spread_b1
    have a1 := mx_at (P := P) (t := t) (j := j) (n := j + 1) (by omega)
    have a2 := mx_at (P := P) (t := t) (j := j) (n := j) (by omega)
    rw [if_neg (by omega)] at a1
    rw [if_pos (Nat.le_refl _)] at a2
    rw [to_bind (atI_nat a1), show ((j + 1 : Nat) : Int) - 1 = (j : Int) by omega, to_bind (atI_nat a2), to_bind (setI_nat (by omega) _)]
    have e : (sb P (j + 1) : Int) + (sb (P + 1) j : Int) = (sb (P + 1) (j + 1) : Int) := by rw [sb_step]; omega
    rw [e, mx_set (by omega)]
theorem place_loop {t : Nat} (ht : t ≤ 1000) : ∀ (k P : Nat) (i : Int), loopM (m__law_spread_b2 (t : Int)) (Z.upto i (i + k)) (rw_ P t) = some (.go (rw_ (P + k) t))
  | 0, P, i => by rw [upto_nil (by omega)]; rfl
  | k + 1, P, i => by
    have ih := place_loop ht k (P + 1) (i + 1)
    have f := many_loop P t t 0 (by omega)
    rw [mx_first, mx_last, show ((0 : Nat) : Int) + 1 + (t : Int) = (t : Int) + 1 by omega, show ((0 : Nat) : Int) + 1 = 1 by omega] at f
    rw [upto_cons (by omega), show i + ((k + 1 : Nat) : Int) = i + 1 + (k : Int) by omega, show P + (k + 1) = P + 1 + k by omega]
    refine (loop_cons (s' := rw_ (P + 1) t) ?_).trans ih
    unfold m__law_spread_b2
    rw [chk_bind (show Z.CRng 1 from ⟨by decide, by decide⟩), chk_bind (show Z.CRng ((t : Int) + 1) from ⟨by omega, by omega⟩)]
    refine (to_bind f _).trans ?_
    rw [afterS_go]
theorem first_row (t : Nat) : [(1 : Int)] ++ Z.repL [(0 : Int)] (t : Int) = rw_ 0 t := by
  rw [repL_one, show ((t : Int)).toNat = t by omega]
  unfold rw_
  rw [List.range_succ_eq_map, List.map_cons, List.map_map]
  show (1 : Int) :: List.replicate t 0 = (sb 0 0 : Int) :: (List.range t).map _
  rw [sb_zero]
  refine congrArg (List.cons _) ?_
  refine List.ext_getElem? fun n => ?_
  by_cases q : n < t
  · rw [List.getElem?_replicate, if_pos q, List.getElem?_map, List.getElem?_range q]
    show some (0 : Int) = some ((sb 0 (n + 1) : Nat) : Int)
    rw [sb_none]; rfl
  · rw [List.getElem?_eq_none (by simp; omega), List.getElem?_eq_none (by simp; omega)]
theorem spread_ok {t n P : Nat} (ht : t ≤ 1000) (hn : n ≤ t) (hP : P ≤ 10000) {free : Int} (hf : (n : Int) + free = P) : m__law_spread (t : Int) (n : Int) free = some (sb P (t - n) : Int) := by
  have f := place_loop ht P 0 0
  rw [Nat.zero_add, Int.zero_add] at f
  unfold m__law_spread
  have sl : sizeLine = 16777216 := by decide
  have cr : Z.CRepL ([(0 : Int)]).length (t : Int) := ⟨by omega, by omega, by rw [List.length_singleton]; omega⟩
  rw [chk_bind cr, chk_bind (by rw [repL_one, List.length_replicate, List.length_singleton]; exact (line_le (by omega)).1), hf, chk_bind (show Z.CRng (P : Int) from ⟨by omega, by omega⟩), first_row]
  refine (to_bind f _).trans ?_
  rw [after_go]
  have a : (rw_ P t)[t - n]? = some (sb P (t - n) : Int) := by
    unfold rw_
    rw [List.getElem?_map, List.getElem?_range (by omega)]; rfl
  rw [show (t : Int) - (n : Int) = ((t - n : Nat) : Int) by omega, to_bind (atI_nat a)]
/-! ### the law's product -/
theorem built_loop {l : List Int} (h : Ds l) : l.sum ≤ 300 → ∀ ys : List Int, loopM m__law_built_b1 (l.reverse ++ ys) ((1 : Int), (0 : Int), (0 : Int)) = loopM m__law_built_b1 ys (pr l, l.sum, hd l) := by
  induction h with
  | nil => intro _ ys; rfl
  | @cons x r h1 h2 h ih =>
    intro hs ys
    have hr := h.sum
    rw [List.sum_cons] at hs
    have b := pr_bound h (by omega)
    have f1 := ff_le (p := (2 * r.sum).toNat) (x - hd r).toNat (by omega)
    have sp := spread_ok (t := x.toNat) (n := (hd r).toNat) (P := (2 * r.sum).toNat + 1) (free := r.sum + (r.sum - hd r) + 1) (by omega) (by omega) (by omega) (by omega)
    rw [show ((x.toNat : Nat) : Int) = x by omega, show (((hd r).toNat : Nat) : Int) = hd r by omega, show x.toNat - (hd r).toNat = (x - hd r).toNat by omega] at sp
    rw [List.reverse_cons, List.append_assoc, ih (by omega)]
    refine loop_cons (s' := (pr (x :: r), (x :: r).sum, hd (x :: r))) ?_
    unfold m__law_built_b1
    dsimp only
    rw [to_bind sp]
    have f2 : ((sb ((2 * r.sum).toNat + 1) (x - hd r).toNat : Nat) : Int) ≤ ((2048 ^ (x - hd r).toNat : Nat) : Int) := by
      have : sb ((2 * r.sum).toNat + 1) (x - hd r).toNat = ff (2 * r.sum).toNat (x - hd r).toNat := rfl
      omega
    refine (chk_bind (mul_ok (a := (hd r).toNat) (b := (x - hd r).toNat) (by omega) b.2 (by omega) f2 (by omega)) _).trans ?_
    rw [List.sum_cons, Int.add_comm r.sum x, Int.mul_comm (pr r)]
    rfl
theorem built_ok {l : List Int} (h : Ds l) (hs : l.sum ≤ 300) : m__law_built l = some (pr l) := by
  have f := built_loop h hs []
  rw [List.append_nil] at f
  unfold m__law_built
  rw [to_bind (f.trans loop_nil), after_go]
/-! ### drawn rows -/
theorem items_loop : ∀ (k : Nat) (i high : Int) (acc s : List Int) (n : Int), Src n s → n + k ≤ 10 ^ 8 → 1 ≤ high → high ≤ 1000 → acc.length + k ≤ 100000 → ∃ h' l s', loopM m__law_items_b1 (Z.upto i (i + k)) (high, acc, s) = some (.go (h', acc ++ l, s')) ∧ Ds l ∧ hd l ≤ high ∧ Src (n + k) s'
  | 0, i, high, acc, s, n, h, _, h1, _, _ => ⟨high, [], s, by rw [upto_nil (by omega)]; show some (Step.go (high, acc, s)) = some (Step.go (high, acc ++ [], s)); rw [List.append_nil], .nil, by show (0 : Int) ≤ high; omega, h.up (by omega)⟩
  | k + 1, i, high, acc, s, n, h, hn, h1, h2, hl => by
    obtain ⟨r, s1, e1, r0, r1, hs1⟩ := draw_ok (c := high) h (by omega) (by omega) (by omega)
    obtain ⟨h', l, s', f, d, hh, hs⟩ := items_loop k (i + 1) (1 + r) (acc ++ [1 + r]) s1 (n + 1) hs1 (by omega) (by omega) (by omega) (by simp; omega)
    refine ⟨h', (1 + r) :: l, s', ?_, .cons (by omega) hh d, by show 1 + r ≤ high; omega, hs.up (by omega)⟩
    rw [upto_cons (by omega), show i + ((k + 1 : Nat) : Int) = i + 1 + (k : Int) by omega]
    refine (loop_cons (s' := (1 + r, acc ++ [1 + r], s1)) ?_).trans ?_
    · unfold m__law_items_b1
      rw [to_bind e1]
      exact chk_bind (show acc.length < sizeLine from (line_le (by omega)).2) _
    · rw [f, List.append_assoc]; rfl
theorem items_ok {many most n : Int} {s : List Int} (h : Src n s) (hn : n ≤ 10 ^ 7) (m0 : 0 ≤ many ∧ many ≤ 100) (m1 : 1 ≤ most ∧ most ≤ 1000) : ∃ l s', m__law_items s many most = some (l, s') ∧ Ds l ∧ hd l ≤ most ∧ (l.length : Int) ≤ 100 ∧ Src (n + 100) s' := by
  obtain ⟨k, rfl⟩ : ∃ k : Nat, many = (k : Int) := ⟨many.toNat, by omega⟩
  obtain ⟨h', l, s', f, d, hh, hs⟩ := items_loop k 0 most [] s n h (by omega) m1.1 m1.2 (by simp; omega)
  rw [Int.zero_add, List.nil_append] at f
  have len : ∀ (k : Nat) (i high : Int) (acc s : List Int) (r : Int × List Int × List Int), loopM m__law_items_b1 (Z.upto i (i + k)) (high, acc, s) = some (.go r) → r.2.1.length = acc.length + k := fun k => by
    induction k with
    | zero => intro i high acc s r e; rw [upto_nil (by omega)] at e; have e' : (high, acc, s) = r := by injection e with e; injection e
              rw [← e']; rfl
    | succ k ih =>
      intro i high acc s r e
      rw [upto_cons (by omega), show i + ((k + 1 : Nat) : Int) = i + 1 + (k : Int) by omega] at e
      unfold loopM at e
      cases q : m__law_items_b1 i (high, acc, s) with
      | none => rw [q] at e; cases e
      | some st =>
        rw [q] at e
        unfold m__law_items_b1 at q
        cases dq : m__law_draw (high, acc, s).2.2 (high, acc, s).1 with
        | none => rw [dq] at q; cases q
        | some z =>
          rw [dq, some_bind] at q
          by_cases c : (high, acc, s).2.1.length < sizeLine
          · rw [chk_bind c] at q
            obtain rfl := Option.some.inj q
            have := ih _ _ _ _ r e
            rw [this]; simp; omega
          · have cn : Z.chk ((high, acc, s).2.1.length < sizeLine) = none := by unfold Z.chk; rw [if_neg c]
            rw [cn] at q; cases q
  have ln := len k 0 most [] s _ (by rw [Int.zero_add]; exact f)
  have ln' : l.length = k := by simpa using ln
  refine ⟨l, s', ?_, d, hh, by omega, hs.up (by omega)⟩
  unfold m__law_items
  rw [chk_bind (show Z.CRng (k : Int) from ⟨by omega, by omega⟩)]
  refine (to_bind f _).trans ?_
  rw [after_go]
theorem hd_app {l : List Int} {x : Int} (h : l ≠ []) : hd (l ++ [x]) = hd l := by
  cases l with
  | nil => exact absurd rfl h
  | cons y r => rfl
theorem Ds.snoc {l : List Int} (h : Ds l) : ∀ {x : Int}, 1 ≤ x → (∀ y ∈ l, x ≤ y) → Ds (l ++ [x]) := by
  induction h with
  | nil => intro x h1 _; exact .cons h1 (by show (0 : Int) ≤ x; omega) .nil
  | @cons y r h1 h2 h ih =>
    intro x hx hy
    refine .cons h1 ?_ (ih hx fun z hz => hy z (List.mem_cons_of_mem _ hz))
    cases r with
    | nil => exact hy y List.mem_cons_self
    | cons z r => exact h2
theorem Ds.le_hd {l : List Int} (h : Ds l) : ∀ y ∈ l, y ≤ hd l := by
  induction h with
  | nil => intro y hy; cases hy
  | @cons x r h1 h2 h ih =>
    intro y hy
    rcases List.mem_cons.mp hy with e | e
    · rw [e]; exact Int.le_refl x
    · have := ih y e
      show y ≤ x
      omega
theorem short_loop {most : Int} : ∀ (r acc : List Int), Ds r → Ds acc → (∀ y ∈ acc, hd r ≤ y) → acc.sum ≤ most → acc.length + r.length ≤ 100000 → ∃ l, loopM (m__law_short_b1 most) r acc = some (.go l) ∧ Ds l ∧ l.sum ≤ most ∧ hd l ≤ (if acc = [] then hd r else hd acc)
  | [], acc, _, d, _, hs, _ => ⟨acc, rfl, d, hs, by
      by_cases q : acc = []
      · rw [if_pos q, q]; exact Int.le_refl 0
      · rw [if_neg q]; exact Int.le_refl _⟩
  | x :: r, acc, h, d, hb, hs, hl => by
    cases h with
    | cons h1 h2 h =>
    rw [List.length_cons] at hl
    by_cases q : acc.sum + x ≤ most
    · have b2 : ∀ y ∈ acc ++ [x], hd r ≤ y := fun y hy => by
        rcases List.mem_append.mp hy with z | z
        · have : x ≤ y := hb y z
          omega
        · rw [List.mem_singleton.mp z]; exact h2
      obtain ⟨l, f, dl, sl, hl'⟩ := short_loop (most := most) r (acc ++ [x]) h (d.snoc h1 fun y hy => hb y hy) b2 (by rw [List.sum_append, List.sum_cons, List.sum_nil]; omega) (by simp; omega)
      refine ⟨l, (loop_cons (s' := acc ++ [x]) ?_).trans f, dl, sl, ?_⟩
      · unfold m__law_short_b1
        refine (if_pos (decide_eq_true q)).trans ?_
        exact chk_bind (show acc.length < sizeLine from (line_le (by omega)).2) _
      · rw [if_neg (by simp)] at hl'
        by_cases z : acc = []
        · rw [if_pos z]; subst z; exact hl'
        · rw [if_neg z]; rw [hd_app z] at hl'; exact hl'
    · have hb2 : ∀ y ∈ acc, hd r ≤ y := fun y hy => by
        have : x ≤ y := hb y hy
        omega
      obtain ⟨l, f, dl, sl, hl'⟩ := short_loop (most := most) r acc h d hb2 hs (by omega)
      refine ⟨l, (loop_cons (s' := acc) ?_).trans f, dl, sl, ?_⟩
      · unfold m__law_short_b1
        exact if_neg (by rw [decide_eq_true_eq]; exact q)
      · by_cases z : acc = []
        · rw [if_pos z] at hl' ⊢
          show hd l ≤ x
          omega
        · rw [if_neg z] at hl' ⊢; exact hl'
theorem short_ok {r : List Int} {most : Int} (h : Ds r) (h0 : 0 ≤ most) (hl : r.length ≤ 1000) : ∃ l, m__law_short r most = some l ∧ Ds l ∧ l.sum ≤ most ∧ hd l ≤ hd r := by
  obtain ⟨l, f, d, s, hh⟩ := short_loop (most := most) r [] h .nil (fun y hy => by cases hy) h0 (by simp; omega)
  rw [if_pos rfl] at hh
  refine ⟨l, ?_, d, s, hh⟩
  unfold m__law_short
  rw [to_bind f, after_go]
/-! ### the law -/
theorem pick5 {script : List Int} {n : Int} {s : List Int} (h : Src n s) (hn : n ≤ 10 ^ 8) : ∃ r s' c, atI ([(5 : Int), (13 : Int)]) (if (!PyData.eqv (PyData.list (script.map PyData.int)) (PyData.list (([] : List Int).map PyData.int))) = true then (1 : Int) else 0) = some c ∧ m__law_draw s c = some (r, s') ∧ 0 ≤ r ∧ r ≤ 40 ∧ Src (n + 1) s' := by
  generalize PyData.eqv (PyData.list (script.map PyData.int)) (PyData.list (([] : List Int).map PyData.int)) = e
  cases e
  · obtain ⟨r, s', e1, r0, r1, h1⟩ := draw_ok (c := 13) h (by omega) (by decide) (by decide)
    exact ⟨r, s', 13, rfl, e1, r0, by omega, h1⟩
  · obtain ⟨r, s', e1, r0, r1, h1⟩ := draw_ok (c := 5) h (by omega) (by decide) (by decide)
    exact ⟨r, s', 5, rfl, e1, r0, by omega, h1⟩
theorem turn_ok (script : List Int) (x : Int × Int) (y : Int) (k : Nat) (s : List Int) (hk : k < 2) (h : Src (k * 10000) s) : ∃ s', m_law_b1 script x y s = some (.go s') ∧ Src ((k + 1 : Nat) * 10000) s' := by
  unfold m_law_b1
  obtain ⟨many, s1, c, e0, e1, q0, q1, h1⟩ := pick5 (script := script) h (by omega)
  rw [chk_bind (eq_ints _ _), to_bind e0, to_bind e1]
  obtain ⟨w, s2, e2, w0, w1, h2⟩ := draw_ok (c := 3) h1 (by omega) (by decide) (by decide)
  obtain ⟨most, em, m0, m1⟩ : ∃ most, atI ([(3 : Int), (9 : Int), (30 : Int)]) w = some most ∧ 1 ≤ most ∧ most ≤ 30 := by
    have q : w = 0 ∨ w = 1 ∨ w = 2 := by omega
    rcases q with q | q | q <;> subst q
    · exact ⟨3, rfl, by decide, by decide⟩
    · exact ⟨9, rfl, by decide, by decide⟩
    · exact ⟨30, rfl, by decide, by decide⟩
  obtain ⟨l1, s3, e3, d1, hh1, len1, h3⟩ := items_ok (many := many) (most := most) h2 (by omega) (by omega) (by omega)
  obtain ⟨l2, e4, d2, su2, hh2⟩ := short_ok (most := 60) d1 (by decide) (by omega)
  rw [to_bind e2, to_bind em, to_bind e3, to_bind e4]
  obtain ⟨l, s5, e5, d, su, hh, h5⟩ : ∃ l s5, ((((if (decide ((x.1 + y) = (0 : Int))) = true then
      Z.chk (Z.CEq (PyData.list (script.map PyData.int)) (PyData.list (([] : List Int).map PyData.int))) >>= fun _ =>
      some ((!PyData.eqv (PyData.list (script.map PyData.int)) (PyData.list (([] : List Int).map PyData.int))))
      else some (false)) : Option (Bool)) >>= fun (st47 : Bool) =>
      (if st47 = true then
      (m__law_items s3 (40 : Int) (20 : Int)) >>= fun (r52 : (List Int) × (List Int)) =>
      (m__law_short r52.1 (300 : Int)) >>= fun (r55 : (List Int)) =>
      some (r55, r52.2)
      else some (l2, s3))) : Option ((List Int) × (List Int))) = some (l, s5) ∧ Ds l ∧ l.sum ≤ 300 ∧ hd l ≤ 30 ∧ Src (k * 10000 + 300) s5 := by
    have big : ∃ l s5, ((m__law_items s3 (40 : Int) (20 : Int)) >>= fun (r52 : (List Int) × (List Int)) =>
      (m__law_short r52.1 (300 : Int)) >>= fun (r55 : (List Int)) =>
      some (r55, r52.2)) = some (l, s5) ∧ Ds l ∧ l.sum ≤ 300 ∧ hd l ≤ 30 ∧ Src (k * 10000 + 300) s5 := by
      obtain ⟨l6, s6, e6, d6, hh6, len6, h6⟩ := items_ok (many := 40) (most := 20) h3 (by omega) (by decide) (by decide)
      obtain ⟨l7, e7, d7, su7, hh7⟩ := short_ok (most := 300) d6 (by decide) (by omega)
      exact ⟨l7, s6, by rw [to_bind e6, to_bind e7], d7, su7, by omega, h6.up (by omega)⟩
    have small : ∃ l s5, (some (l2, s3) : Option ((List Int) × (List Int))) = some (l, s5) ∧ Ds l ∧ l.sum ≤ 300 ∧ hd l ≤ 30 ∧ Src (k * 10000 + 300) s5 := ⟨l2, s3, rfl, d2, by omega, by omega, h3.up (by omega)⟩
    rw [chk_bind (eq_ints _ _)]
    generalize PyData.eqv (PyData.list (script.map PyData.int)) (PyData.list (([] : List Int).map PyData.int)) = e
    by_cases z : (decide ((x.1 + y) = (0 : Int))) = true
    · rw [if_pos z, some_bind]
      by_cases he : (!e) = true
      · rw [if_pos he]; exact big
      · rw [if_neg he]; exact small
    · rw [if_neg z, some_bind, if_neg (by decide)]; exact small
  have b := pr_bound d (by omega)
  have ds := d.sum
  have lg : (pr l).natAbs.log2 < 1920 := by
    have := log_of (k := (hd l).toNat) (by omega) b.2
    omega
  refine ⟨s5, ?_, h5.up (by omega)⟩
  refine (to_bind e5 _).trans ?_
  dsimp only
  rw [to_bind (count_ok d (d.row su) su), chk_bind lg, to_bind (built_ok d su), chk_bind lg]
  exact if_neg (by simp)
theorem cell_ok (script : List Int) (x : Int × Int) (hx : 0 ≤ x.1 ∧ x.1 ≤ 100) : m_law_b2 script x () = some (.go ()) := by
  unfold m_law_b2
  obtain ⟨s, e1, h1⟩ := source_ok x.2 x.1 hx.1 (by omega)
  rw [to_bind e1, chk_bind (show Z.CRng 2 from ⟨by decide, by decide⟩)]
  obtain ⟨s2, e2, h2⟩ := loop_inv (f := m_law_b1 script x) (fun k s => Src (k * 10000) s) (Z.upto 0 2) 0 s (h1.up (by decide)) fun y _ k s _ hk h => turn_ok script x y k s (by rw [upto_len] at hk; simpa using hk) h
  rw [to_bind e2, afterS_go]
theorem ones : ∀ n : Nat, Ds (List.replicate n (1 : Int)) ∧ (List.replicate n (1 : Int)).sum = n ∧ pr (List.replicate n (1 : Int)) = 1
  | 0 => ⟨.nil, rfl, rfl⟩
  | n + 1 => by
    obtain ⟨a, b, c⟩ := ones n
    have h1 : hd (List.replicate n (1 : Int)) = if n = 0 then 0 else 1 := by cases n <;> rfl
    rw [List.replicate_succ]
    refine ⟨.cons (by decide) (by rw [h1]; split <;> decide) a, by rw [List.sum_cons, b]; omega, ?_⟩
    show (ff (2 * (List.replicate n (1 : Int)).sum).toNat ((1 : Int) - hd (List.replicate n (1 : Int))).toNat : Int) * pr (List.replicate n (1 : Int)) = 1
    rw [c, b, h1]
    cases n with
    | zero => rw [if_pos rfl]; show (ff 0 1 : Int) * 1 = 1; rw [ff_one]; rfl
    | succ n => rw [if_neg (by omega)]; show (ff _ 0 : Int) * 1 = 1; rw [ff_zero]; rfl
theorem law_true (ns : List Int) (h : ns.length ≤ 63) : m_law ns = some true := by
  have d1 : Ds [(300 : Int)] := .cons (by decide) (by decide) .nil
  have c1 := count_ok d1 (d1.row (by decide)) (by decide)
  have p1 : pr [(300 : Int)] = 1 := by
    show (ff 0 300 : Int) * 1 = 1
    rw [ff_one]; rfl
  obtain ⟨d2, su2, p2⟩ := ones 300
  have c2 := count_ok d2 (d2.row (by rw [su2]; decide)) (by rw [su2]; decide)
  have d3 : Ds [(2 : Int), 1] := .cons (by decide) (by decide) (.cons (by decide) (by decide) .nil)
  have c3 := count_ok d3 (d3.row (by decide)) (by decide)
  have p3 : pr [(2 : Int), 1] = 3 := by
    show (ff 2 1 : Int) * ((ff 0 1 : Int) * 1) = 3
    rw [ff_one, ff_step, ff_step, ff_one, ff_zero, ff_zero]; rfl
  rw [p1] at c1
  rw [p2] at c2
  rw [p3] at c3
  unfold m_law
  rw [chk_bind (by simp; exact (line_le (by omega)).1), to_bind (unit_loop fun x hx => cell_ok ns x (frame_ok h x hx)), after_go]
  refine (to_bind (a := true) ?_ _).trans rfl
  rw [to_bind c1]
  refine (if_pos (by decide)).trans ?_
  refine (to_bind (a := true) ?_ _).trans rfl
  rw [chk_bind (show Z.CRepL ([(1 : Int)]).length (300 : Int) from by decide), repL_one, show (300 : Int).toNat = 300 from rfl, to_bind c2]
  refine (if_pos (by decide)).trans ?_
  rw [to_bind c3]
  rfl
end Z18
namespace Z18
open PySem PySem.Spec PyProof.Rows L2 Z Zm
theorem all_mk {l : PySem.W.OpenLaw} {w : World} {K : PySem.W.Frag} {h : Heap} {mg : Str → Option Value} {fa f0 f1 f2 f3 f4 f5 f6 f7 f8 f9 : Addr} (X : K.In h) (G : h.Ns mainGlobals mg) (hfa : mg "law" = some (.ref fa))
    {od0 an0 : Option Addr} {sl0 : Array (Option Value)} {oc0 kV0 dc0 pm0 cd0 ct0 : Value}
    {od1 an1 : Option Addr} {sl1 : Array (Option Value)} {oc1 kV1 dc1 pm1 cd1 ct1 : Value}
    {od2 an2 : Option Addr} {sl2 : Array (Option Value)} {oc2 kV2 dc2 pm2 cd2 ct2 : Value}
    {od3 an3 : Option Addr} {sl3 : Array (Option Value)} {oc3 kV3 dc3 pm3 cd3 ct3 : Value}
    {od4 an4 : Option Addr} {sl4 : Array (Option Value)} {oc4 kV4 dc4 pm4 cd4 ct4 : Value}
    {od5 an5 : Option Addr} {sl5 : Array (Option Value)} {oc5 kV5 dc5 pm5 cd5 ct5 : Value}
    {od6 an6 : Option Addr} {sl6 : Array (Option Value)} {oc6 kV6 dc6 pm6 cd6 ct6 : Value}
    {od7 an7 : Option Addr} {sl7 : Array (Option Value)} {oc7 kV7 dc7 pm7 cd7 ct7 : Value}
    {od8 an8 : Option Addr} {sl8 : Array (Option Value)} {oc8 kV8 dc8 pm8 cd8 ct8 : Value}
    {od9 an9 : Option Addr} {sl9 : Array (Option Value)} {oc9 kV9 dc9 pm9 cd9 ct9 : Value}
    {t0 : _}
    (a0 : PySem.W.nsIn K mainGlobals "_law_source" = some (some (.ref f0))) (l0 : K.lookup f0 = some ⟨oc0, od0, .func (PySem.W.fnOf "_law_source" "_law_source" (defArgs s__law_source) (defBody s__law_source) (defScope s__law_source) .none kV0 dc0 pm0 an0 cd0 ct0), sl0⟩) (c0 : PySem.W.codeIn K cd0 "_law_source" = true) (k0 : PySem.W.keepIn K (.ref f0) = true)
    (a1 : PySem.W.nsIn K mainGlobals "_law_draw" = some (some (.ref f1))) (l1 : K.lookup f1 = some ⟨oc1, od1, .func (PySem.W.fnOf "_law_draw" "_law_draw" (defArgs s__law_draw) (defBody s__law_draw) (defScope s__law_draw) .none kV1 dc1 pm1 an1 cd1 ct1), sl1⟩) (c1 : PySem.W.codeIn K cd1 "_law_draw" = true) (k1 : PySem.W.keepIn K (.ref f1) = true)
    (a2 : PySem.W.nsIn K mainGlobals "_law_short" = some (some (.ref f2))) (l2 : K.lookup f2 = some ⟨oc2, od2, .func (PySem.W.fnOf "_law_short" "_law_short" (defArgs s__law_short) (defBody s__law_short) (defScope s__law_short) .none kV2 dc2 pm2 an2 cd2 ct2), sl2⟩) (c2 : PySem.W.codeIn K cd2 "_law_short" = true) (k2 : PySem.W.keepIn K (.ref f2) = true)
    (a3 : PySem.W.nsIn K mainGlobals "is_integer" = some (some (.ref f3))) (l3 : K.lookup f3 = some ⟨oc3, od3, .func (PySem.W.fnOf "is_integer" "is_integer" (defArgs s_is_integer) (defBody s_is_integer) (defScope s_is_integer) .none kV3 dc3 pm3 an3 cd3 ct3), sl3⟩) (c3 : PySem.W.codeIn K cd3 "is_integer" = true) (k3 : PySem.W.keepIn K (.ref f3) = true)
    (a4 : PySem.W.nsIn K mainGlobals "check_row" = some (some (.ref f4))) (l4 : K.lookup f4 = some ⟨oc4, od4, .func (PySem.W.fnOf "check_row" "check_row" (defArgs s_check_row) (defBody s_check_row) (defScope s_check_row) .none kV4 dc4 pm4 an4 cd4 ct4), sl4⟩) (c4 : PySem.W.codeIn K cd4 "check_row" = true) (k4 : PySem.W.keepIn K (.ref f4) = true)
    (a5 : PySem.W.nsIn K mainGlobals "count_traces" = some (some (.ref f5))) (l5 : K.lookup f5 = some ⟨oc5, od5, .func (PySem.W.fnOf "count_traces" "count_traces" (defArgs s_count_traces) (defBody s_count_traces) (defScope s_count_traces) .none kV5 dc5 pm5 an5 cd5 ct5), sl5⟩) (c5 : PySem.W.codeIn K cd5 "count_traces" = true) (k5 : PySem.W.keepIn K (.ref f5) = true)
    (a6 : PySem.W.nsIn K mainGlobals "_law_items" = some (some (.ref f6))) (l6 : K.lookup f6 = some ⟨oc6, od6, .func (PySem.W.fnOf "_law_items" "_law_items" (defArgs s__law_items) (defBody s__law_items) (defScope s__law_items) .none kV6 dc6 pm6 an6 cd6 ct6), sl6⟩) (c6 : PySem.W.codeIn K cd6 "_law_items" = true) (k6 : PySem.W.keepIn K (.ref f6) = true)
    (a7 : PySem.W.nsIn K mainGlobals "_law_spread" = some (some (.ref f7))) (l7 : K.lookup f7 = some ⟨oc7, od7, .func (PySem.W.fnOf "_law_spread" "_law_spread" (defArgs s__law_spread) (defBody s__law_spread) (defScope s__law_spread) .none kV7 dc7 pm7 an7 cd7 ct7), sl7⟩) (c7 : PySem.W.codeIn K cd7 "_law_spread" = true) (k7 : PySem.W.keepIn K (.ref f7) = true)
    (a8 : PySem.W.nsIn K mainGlobals "_law_built" = some (some (.ref f8))) (l8 : K.lookup f8 = some ⟨oc8, od8, .func (PySem.W.fnOf "_law_built" "_law_built" (defArgs s__law_built) (defBody s__law_built) (defScope s__law_built) .none kV8 dc8 pm8 an8 cd8 ct8), sl8⟩) (c8 : PySem.W.codeIn K cd8 "_law_built" = true) (k8 : PySem.W.keepIn K (.ref f8) = true)
    (a9 : PySem.W.nsIn K mainGlobals "law" = some (some (.ref f9))) (l9 : K.lookup f9 = some ⟨oc9, od9, .func (PySem.W.fnOf "law" "law" (defArgs s_law) (defBody s_law) (defScope s_law) .none kV9 dc9 pm9 an9 cd9 ct9), sl9⟩) (c9 : PySem.W.codeIn K cd9 "law" = true) (k9 : PySem.W.keepIn K (.ref f9) = true)
    (z0 : PySem.W.nsIn K mainGlobals "abs" = some none)
    (z1 : PySem.W.nsIn K mainGlobals "bool" = some none)
    (z2 : PySem.W.nsIn K mainGlobals "enumerate" = some none)
    (z3 : PySem.W.nsIn K mainGlobals "int" = some none)
    (z4 : PySem.W.nsIn K mainGlobals "isinstance" = some none)
    (z5 : PySem.W.nsIn K mainGlobals "len" = some none)
    (z6 : PySem.W.nsIn K mainGlobals "list" = some none)
    (z7 : PySem.W.nsIn K mainGlobals "max" = some none)
    (z8 : PySem.W.nsIn K mainGlobals "min" = some none)
    (z9 : PySem.W.nsIn K mainGlobals "range" = some none)
    (z10 : PySem.W.nsIn K mainGlobals "repr" = some none)
    (z11 : PySem.W.nsIn K mainGlobals "sum" = some none)
    (z12 : PySem.W.nsIn K mainGlobals "zip" = some none)
    (w0 : PySem.W.nsIn K mainGlobals "comb" = some (some (.builtin "math.comb")))
    (y0 : PySem.W.nsIn K mainGlobals "MOST_ITEMS" = some (some (.int (1000) t0))) :
    ∃ fd : FuncData, (∀ (s : Shared) (v : Value), BindsTo s fd ⟨[v], []⟩ [("script", v)]) ∧ ∀ base : Heap, K.In base → base.Ns mainGlobals mg → FnG l.prog w K mg base 4 fa fd ["script"] (sp_law K) := by
  have e := hfa.symm.trans (PySem.W.mg_of X G a9)
  cases e
  have F0 := fun_mk (st := s__law_source) l0 c0 k0
  have F1 := fun_mk (st := s__law_draw) l1 c1 k1
  have F2 := fun_mk (st := s__law_short) l2 c2 k2
  have F3 := fun_mk (st := s_is_integer) l3 c3 k3
  have F4 := fun_mk (st := s_check_row) l4 c4 k4
  have F5 := fun_mk (st := s_count_traces) l5 c5 k5
  have F6 := fun_mk (st := s__law_items) l6 c6 k6
  have F7 := fun_mk (st := s__law_spread) l7 c7 k7
  have F8 := fun_mk (st := s__law_built) l8 c8 k8
  have F9 := fun_mk (st := s_law) l9 c9 k9
  have b0 := F0.binds (ps := ["cell", "k"]) fun _ _ _ _ _ _ us hl => match us, hl with | [_, _], _ => rfl
  have b1 := F1.binds (ps := ["source", "count"]) fun _ _ _ _ _ _ us hl => match us, hl with | [_, _], _ => rfl
  have b2 := F2.binds (ps := ["items", "most"]) fun _ _ _ _ _ _ us hl => match us, hl with | [_, _], _ => rfl
  have b3 := F3.binds (ps := ["value"]) fun _ _ _ _ _ _ us hl => match us, hl with | [_], _ => rfl
  have b4 := F4.binds (ps := ["row"]) fun _ _ _ _ _ _ us hl => match us, hl with | [_], _ => rfl
  have b5 := F5.binds (ps := ["row"]) fun _ _ _ _ _ _ us hl => match us, hl with | [_], _ => rfl
  have b6 := F6.binds (ps := ["source", "many", "most"]) fun _ _ _ _ _ _ us hl => match us, hl with | [_, _, _], _ => rfl
  have b7 := F7.binds (ps := ["things", "needy", "free"]) fun _ _ _ _ _ _ us hl => match us, hl with | [_, _, _], _ => rfl
  have b8 := F8.binds (ps := ["items"]) fun _ _ _ _ _ _ us hl => match us, hl with | [_], _ => rfl
  have b9 := F9.binds (ps := ["script"]) fun _ _ _ _ _ _ us hl => match us, hl with | [_], _ => rfl
  refine ⟨_, fun s v => .of_eq rfl, fun base _ _ => ok_law (a := fun i => match i with | 0 => f0 | 1 => f1 | 2 => f2 | 3 => f3 | 4 => f4 | 5 => f5 | 6 => f6 | 7 => f7 | 8 => f8 | _ => fa) (fd := fun i => match i with | 0 => PySem.W.fnOf "_law_source" "_law_source" (defArgs s__law_source) (defBody s__law_source) (defScope s__law_source) .none kV0 dc0 pm0 an0 cd0 ct0 | 1 => PySem.W.fnOf "_law_draw" "_law_draw" (defArgs s__law_draw) (defBody s__law_draw) (defScope s__law_draw) .none kV1 dc1 pm1 an1 cd1 ct1 | 2 => PySem.W.fnOf "_law_short" "_law_short" (defArgs s__law_short) (defBody s__law_short) (defScope s__law_short) .none kV2 dc2 pm2 an2 cd2 ct2 | 3 => PySem.W.fnOf "is_integer" "is_integer" (defArgs s_is_integer) (defBody s_is_integer) (defScope s_is_integer) .none kV3 dc3 pm3 an3 cd3 ct3 | 4 => PySem.W.fnOf "check_row" "check_row" (defArgs s_check_row) (defBody s_check_row) (defScope s_check_row) .none kV4 dc4 pm4 an4 cd4 ct4 | 5 => PySem.W.fnOf "count_traces" "count_traces" (defArgs s_count_traces) (defBody s_count_traces) (defScope s_count_traces) .none kV5 dc5 pm5 an5 cd5 ct5 | 6 => PySem.W.fnOf "_law_items" "_law_items" (defArgs s__law_items) (defBody s__law_items) (defScope s__law_items) .none kV6 dc6 pm6 an6 cd6 ct6 | 7 => PySem.W.fnOf "_law_spread" "_law_spread" (defArgs s__law_spread) (defBody s__law_spread) (defScope s__law_spread) .none kV7 dc7 pm7 an7 cd7 ct7 | 8 => PySem.W.fnOf "_law_built" "_law_built" (defArgs s__law_built) (defBody s__law_built) (defScope s__law_built) .none kV8 dc8 pm8 an8 cd8 ct8 | _ => PySem.W.fnOf "law" "law" (defArgs s_law) (defBody s_law) (defScope s_law) .none kV9 dc9 pm9 an9 cd9 ct9) (Tx.mk
    F0 (PySem.W.mg_of X G a0) b0
    F1 (PySem.W.mg_of X G a1) b1
    F2 (PySem.W.mg_of X G a2) b2
    F3 (PySem.W.mg_of X G a3) b3
    F4 (PySem.W.mg_of X G a4) b4
    F5 (PySem.W.mg_of X G a5) b5
    F6 (PySem.W.mg_of X G a6) b6
    F7 (PySem.W.mg_of X G a7) b7
    F8 (PySem.W.mg_of X G a8) b8
    F9 (PySem.W.mg_of X G a9) b9
    (PySem.W.mg_none_of X G z0)
    (PySem.W.mg_none_of X G z1)
    (PySem.W.mg_none_of X G z2)
    (PySem.W.mg_none_of X G z3)
    (PySem.W.mg_none_of X G z4)
    (PySem.W.mg_none_of X G z5)
    (PySem.W.mg_none_of X G z6)
    (PySem.W.mg_none_of X G z7)
    (PySem.W.mg_none_of X G z8)
    (PySem.W.mg_none_of X G z9)
    (PySem.W.mg_none_of X G z10)
    (PySem.W.mg_none_of X G z11)
    (PySem.W.mg_none_of X G z12)
    (PySem.W.mg_of X G w0)
    ⟨_, PySem.W.mg_of X G y0⟩)⟩
theorem law_sp {K : PySem.W.Frag} {H : Hp} {a : Addr} {ns : List Int} {E : XK} (h : m_law ns = some true) (hS : SqL K H a (ns.map V.int)) : sp_law K [.ref a] H (fun v _ => v = .bl true) E := by
  have S := Z.St.known hS (Z.ints_dpa ns)
  exact ⟨_, _, _, ns, rfl, S, .mem (.head _), true, h, fun _ _ => rfl⟩
end Z18
open PySem PySem.W PyProof.Rows
set_option maxHeartbeats 0 in
theorem PySem.Challenge.cw_lazyspill_k18_great_rows_counted_holds : PySem.Challenge.rw_lazyspill_k18_great_rows_counted.Holds := by
  w_on; o_law; k_head; (case hw => w_witness2)
  k_fill
  refine Z.walkG (l := PySem.Challenge.rw_lazyspill_k18_great_rows_counted) (n := 63) (k := 4) (x := "script") (sp := Z18.sp_law) rfl (by decide) rfl ⟨rfl, by decide, by decide⟩ (fun w h Y => PySem.W.kIn_of Y) ?F (fun K H a ns hl hS => Z18.law_sp (Z18.law_true ns hl) hS)
  case F =>
    intro w mg fa h KX G hmg
    refine' Z18.all_mk KX G hmg ?a0 ?l0 ?c0 ?k0 ?a1 ?l1 ?c1 ?k1 ?a2 ?l2 ?c2 ?k2 ?a3 ?l3 ?c3 ?k3 ?a4 ?l4 ?c4 ?k4 ?a5 ?l5 ?c5 ?k5 ?a6 ?l6 ?c6 ?k6 ?a7 ?l7 ?c7 ?k7 ?a8 ?l8 ?c8 ?k8 ?a9 ?l9 ?c9 ?k9 ?z0 ?z1 ?z2 ?z3 ?z4 ?z5 ?z6 ?z7 ?z8 ?z9 ?z10 ?z11 ?z12 ?w0 ?y0
    (case a0 => k_is); (case l0 => k_is); (case c0 => k_is); (case k0 => k_is); (case a1 => k_is); (case l1 => k_is); (case c1 => k_is); (case k1 => k_is); (case a2 => k_is); (case l2 => k_is); (case c2 => k_is); (case k2 => k_is); (case a3 => k_is); (case l3 => k_is); (case c3 => k_is); (case k3 => k_is); (case a4 => k_is); (case l4 => k_is); (case c4 => k_is); (case k4 => k_is); (case a5 => k_is); (case l5 => k_is); (case c5 => k_is); (case k5 => k_is); (case a6 => k_is); (case l6 => k_is); (case c6 => k_is); (case k6 => k_is); (case a7 => k_is); (case l7 => k_is); (case c7 => k_is); (case k7 => k_is); (case a8 => k_is); (case l8 => k_is); (case c8 => k_is); (case k8 => k_is); (case a9 => k_is); (case l9 => k_is); (case c9 => k_is); (case k9 => k_is); (case z0 => k_is); (case z1 => k_is); (case z2 => k_is); (case z3 => k_is); (case z4 => k_is); (case z5 => k_is); (case z6 => k_is); (case z7 => k_is); (case z8 => k_is); (case z9 => k_is); (case z10 => k_is); (case z11 => k_is); (case z12 => k_is); (case w0 => k_is); (case y0 => k_is)
