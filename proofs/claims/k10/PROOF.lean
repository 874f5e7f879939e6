import PyProof.Rows.All
import Wide.All
import OpenK.AllK
import Wide.FinOn
import HandS.ForExc
import HandS.Wide
import HandS.Evl
import HandS.Deep
import HandS.TupAny
import HandS.TupMul
import HandS.Star
import HandS.Property
import HandS.Flow
import HandS.Style
import HandS.IsInst
import HandS.OwnEq
import HandS.ForMost
import HandS.SlotsOwn
import HandS.Codes
import HandS.Defaults
import KE.KOpsOwn
import HandS.Small
import KE.KExcIs
import HandS.WordsExc
import HandS.ExcInit
import HandS.ExcField
import HandS.ExcIs
import HandS.TryOnly
import KE.KSuper
import KE.KExcSuper
import HandS.ExcValue
import PySem.Challenge.RW_sharedpipe_k10_errors_told
set_option Elab.async false
set_option linter.all false
set_option maxRecDepth 100000
set_option maxHeartbeats 2000000
namespace Pk
open PySem PySem.Spec L2 PyProof.Rows

/-! ### texts of data: a bound of their length -/
mutual
def siz : PyData → Nat
  | .none => 8
  | .bool _ => 8
  | .int _ => 2000
  | .str x => 10 * x.length + 8
  | .list xs => 8 + sizL xs
  | .tuple xs => 8 + sizL xs
  | .dict _ => 0
def sizL : List PyData → Nat
  | [] => 0
  | x :: xs => siz x + 4 + sizL xs
end
theorem textFrom_size : ∀ (ts : List Str) (k : Nat) (acc : Str), (textFrom k acc ts).length ≤ acc.length + piled ts
  | [], k, acc => by show acc.length ≤ _; omega
  | t :: r, k, acc => by
    have ih := textFrom_size r (k + 1) (acc ++ (if k > 0 then ", " else "" : String) ++ t)
    have e : (acc ++ (if k > 0 then ", " else "" : String) ++ t).length = acc.length + (if k > 0 then 2 else 0) + t.length := by
      rw [strLen_append, strLen_append]
      split <;> rfl
    have d1 : (if k > 0 then 2 else 0 : Nat) ≤ 2 := by split <;> decide
    rw [piled_cons]
    show (textFrom (k + 1) _ r).length ≤ _
    omega
theorem listText_size (ts : List Str) : (listText ts).length ≤ piled ts + 2 := by
  have q := textFrom_size ts 0 "["
  unfold listText
  rw [strLen_append]
  have e1 : ((("[" : String) : Str)).length = 1 := rfl
  have e2 : ((("]" : String) : Str)).length = 1 := rfl
  rw [e1] at q
  rw [e2]
  omega
theorem tupleText_size (ts : List Str) : (tupleText ts).length ≤ piled ts + 3 := by
  unfold tupleText
  rw [strLen_append, strLen_append]
  have e1 : ((("(" : String) : Str)).length = 1 := rfl
  have e3 : (((if ts.length == 1 then ",)" else ")" : String) : Str)).length ≤ 2 := by split <;> decide
  rw [e1]
  cases ts with
  | nil =>
    have e4 : (Str.join ", " ([] : List Str)).length = 0 := rfl
    rw [e4]
    omega
  | cons t r =>
    have q := join_length_add (t :: r) (by simp)
    omega
mutual
theorem shown_le : ∀ d : PyData, d.showable = true → d.canLay0 = true → d.shown.length ≤ siz d
  | .none, _, _ => by decide
  | .bool b, _, _ => by cases b <;> decide
  | .int i, h, _ => by
    have h' : i.natAbs.log2 < 1920 := of_decide_eq_true h
    have e := int_text_length_le (k := 1920) (by decide) h'
    show (Str.ofString (toString i)).length ≤ 2000
    rw [PySem.ofString_length]
    omega
  | .str x, _, h => by
    have h' : x.cps.all (· < 0x110000) = true := h
    have q := StrLaws.reprText_len x fun c hc => by
      have := Array.all_eq_true_iff_forall_mem.mp h' c (by simpa using hc)
      have z : c < 0x110000 := of_decide_eq_true this
      have z2 : (0x110000 : Nat) < 16 ^ 8 := by decide
      omega
    show (reprText x).length ≤ 10 * x.length + 8
    omega
  | .list xs, h, h2 => by
    have q := shownAll_le xs h h2
    have q2 := listText_size (PyData.shownAll xs)
    show (listText (PyData.shownAll xs)).length ≤ 8 + sizL xs
    omega
  | .tuple xs, h, h2 => by
    have q := shownAll_le xs h h2
    have q2 := tupleText_size (PyData.shownAll xs)
    show (tupleText (PyData.shownAll xs)).length ≤ 8 + sizL xs
    omega
  | .dict _, _, h => by cases h
theorem shownAll_le : ∀ ds : List PyData, PyData.showableAll ds = true → PyData.canLayAll0 ds = true → piled (PyData.shownAll ds) ≤ sizL ds
  | [], _, _ => by show piled [] ≤ 0; simp [piled]
  | d :: ds, h, h2 => by
    have h' : d.showable = true ∧ PyData.showableAll ds = true := by simpa [PyData.showableAll] using h
    have h2' : d.canLay0 = true ∧ PyData.canLayAll0 ds = true := by simpa [PyData.canLayAll0] using h2
    have q1 := shown_le d h'.1 h2'.1
    have q2 := shownAll_le ds h'.2 h2'.2
    show piled (d.shown :: PyData.shownAll ds) ≤ siz d + 4 + sizL ds
    rw [piled_cons]
    omega
end
/-- data that may be compared and shown -/
structure Good (d : PyData) : Prop where
  sh : SeqAt.shaped d = true
  wr : d.showable = true
  sz : siz d ≤ 16000000
theorem Good.lay {d : PyData} (g : Good d) : d.canLay0 = true := SeqAt.canLay_of_shaped g.sh
theorem Good.fits {d : PyData} (g : Good d) : d.shown.length ≤ sizeLine := by
  have q := shown_le d g.wr g.lay
  have z := g.sz
  rw [sizeLine_eq]
  omega
theorem Good.same {d : PyData} (g : Good d) : PyData.eqv d d = true := SeqAt.eqv_refl d g.lay

/-! ### defs that are called where nothing is being shown -/
/-- as FnOk, where nothing is being shown around -/
structure FnG (P : Program) (w : World) (K : PySem.W.Frag) (mg : Str → Option Value) (base : Heap) (CX : CXT) (k : Nat) (f : Addr) (fd : FuncData) (ps : List Str) (sp : Sp) : Prop where
  few : ∀ vs H Q E, sp vs H Q E → vs.length = ps.length
  goes : ∀ (A : Around), A.guards = some [] → Room k A → ∀ (outer : List Env) (s : Shared) (H : Hp) (args : Args) (us : List Value) (vs : List V) (Q : VK) (E : XK),
    Env0 P w K mg base A outer s H → BindsTo s fd args (ps.zip us) → Vals vs us → sp vs H Q E → codeAny (model P w) A (.call (.ref f) args) (CR CX outer P w H s Q E) s
theorem FnG.of {P : Program} {w : World} {K : PySem.W.Frag} {mg : Str → Option Value} {base : Heap} {CX : CXT} {k : Nat} {f : Addr} {fd : FuncData} {ps : List Str} {sp : Sp}
    (F : FnOk P w K mg base CX k f fd ps sp) : FnG P w K mg base CX k f fd ps sp :=
  ⟨F.len, fun A _ hr outer s H args us vs Q E e0 hb r h => F.run A outer s H args us vs Q E hr e0 hb r h⟩
theorem FnG.mono {P : Program} {w : World} {K : PySem.W.Frag} {mg : Str → Option Value} {base : Heap} {CX : CXT} {j k : Nat} {f : Addr} {fd : FuncData} {ps : List Str} {sp : Sp}
    (F : FnG P w K mg base CX j f fd ps sp) (h : j ≤ k) : FnG P w K mg base CX k f fd ps sp :=
  ⟨F.few, fun A hg hr => F.goes A hg (hr.mono h)⟩
section
variable {X : Cx} {CX : CXT} {k : Nat} {f : Addr} {fd : FuncData} {ps : List Str} {sp : Sp} {E : XK} {x : Str} {p pos : Pos} {e : Expr} {es : List Expr} {t : TA}
theorem go_g {pins : List (Addr × Obj)} {σ : L2.St} {H : Hp} {s : Shared} {Q : VK} {us : List Value} {vs : List V} (F : FnG X.prog X.w X.K X.mg X.base CX k f fd ps sp) (hg : X.A.guards = some []) (hr : Room k X.A)
    (hb : Binds X.K fd ps []) (hx : Passes CX X E) (I : Inv X pins σ H s) (r : Vals vs us) (h : sp vs H Q E) : wpAny (model X.prog X.w) X.A (call (.ref f) us) (EP X pins σ Q) X.xe s := by
  have n : (us ++ ([] : List Value)).length = ps.length := by
    rw [List.append_nil, ← r.length]
    exact F.few _ _ _ _ h
  have b := hb s us I.kIn n
  rw [List.append_nil] at b
  apply wpAny_call
  apply codeAny_mono (F.goes X.A hg hr X.stack s H ⟨us, []⟩ us vs Q E I.env0 b r h)
  intro res s2 q
  match res, q with
  | .error er, q => exact hx pins σ H s er s2 I q
  | .ok (.ret u), q => exact I.after q
theorem pe_callG (F : FnG X.prog X.w X.K X.mg X.base CX k f fd ps sp) (gd : X.A.guards = some []) (hr : Room k X.A) (hg : Gl X x) (hm : X.mg x = some (.ref f)) (hk : PySem.W.keepIn X.K (.ref f) = true) (hb : Binds X.K fd ps []) (hx : Passes CX X E)
    (ha : PA X (e :: es) t) (h1 : (x == ("__debug__" : Str)) = false := by decide) (h2 : starEach (e :: es) X.env = (false, eval e X.env) :: starEach es X.env := by rfl) (h3 : (backTo pos (starEach es X.env)).any (·.1) = false := by rfl) :
    PE X (.Call (.Name x p) (e :: es) [] pos) (tCall sp [] E t) := by
  constructor
  intro pins s σ H Q I h
  apply wpAny_Call_Name_kw (ld_glob I hg hm ?_ h1)
  apply PySem.W.callWith_K (h₀ := X.base) I.ok.mod.kin hk _ h2 h3
  apply thn (ha.run pos pins s σ H _ I h)
  rintro us s1 ⟨vs, H1, I1, r, q⟩
  rw [List.append_nil] at q
  exact ⟨I1.kIn, go_g F gd hr hb hx I1 r q⟩
end
/-- a def by its body, where nothing is being shown around -/
theorem fnG_of {CX : CXT} {P : Program} {w : World} {K : PySem.W.Frag} {mg : Str → Option Value} {base : Heap} {k : Nat} {f : Addr} {name qual : Str} {params : Arguments} {body : List Stmt} {scope : Scope} {dV kV doc pm cdv ct oc : Value}
    {an od : Option Addr} {osl : Array (Option Value)} {N ps : List Str} {sp : Sp}
    (lk : K.lookup f = some ⟨oc, od, .func (PySem.W.fnOf name qual params body scope dV kV doc pm an cdv ct), osl⟩) (cd : PySem.W.codeIn K cdv qual = true) (S : FnScope N ps scope) (few : ∀ vs H Q E, sp vs H Q E → vs.length = ps.length)
    (goes : ∀ (A : Around) (outer : List Env) (s : Shared) (H : Hp) (vs : List V) (Q : VK) (E : XK), (A.deeper (envOfC qual scope s.heap.objs.size f cdv)).guards = some [] → Room k (A.deeper (envOfC qual scope s.heap.objs.size f cdv)) → sp vs H Q E →
      ∃ t, PSs (cxOf CX P w K mg base N qual scope f cdv A outer s H E) body t ∧ t { nx := fun _ H' => Q .non H', rt := Q } (start N vs) H) :
    FnG P w K mg base CX (k + 1) f (PySem.W.fnOf name qual params body scope dV kV doc pm an cdv ct) ps sp := by
  constructor
  · exact few
  intro A gd hr outer s H args us vs Q E e0 hb r hsp
  have n := few _ _ _ _ hsp
  have old : ∀ b o, base.get? b = some o → s.heap.get? b = some o := fun b o q => (e0.bs b o q).1
  have KX := e0.mod.kin.keeps old
  have kinds : ∀ y ∈ ps.zip us, scope.names.lookup y.1 = some .local ∨ (scope.names.lookup y.1 = some .cell ∧ ((cellsFrom (s.heap.objs.size + 1) scope.names []).lookup y.1).isSome = true) := by
    rintro ⟨a, v⟩ hy
    rcases S.par a (List.of_mem_zip hy).1 with q | q
    · left; exact q
    · right; exact ⟨q, PySem.W.cellsFrom_some _ _ _ (.inl q)⟩
  apply codeAny_call_function hr.depth (KX _ _ lk) rfl S.co S.gen rfl (PySem.W.codeRec_of KX cd)
  apply hb
  apply wpAny_newFunctionEnv_cells S.kind kinds
  rintro env rfl s1 x
  refine ⟨(e0.mod.nolimit.keeps old).keeps x.toInCall.keep, codeAny_func ?_⟩
  obtain ⟨t, ht, hq⟩ := goes A outer s H vs Q E gd (hr.deeper _) hsp
  have I : Inv (cxOf CX P w K mg base N qual scope f cdv A outer s H E) [] (start N vs) H s1 := inv_start S hr.hd e0 n r x
  apply wpAny_mono (ht.run [] s1 (start N vs) H _ I hq) _ (fun _ _ z => z)
  intro fl s2 z
  have done : ∀ {σ' : L2.St} {H' : Hp} {v : V} {u : Value}, Inv (cxOf CX P w K mg base N qual scope f cdv A outer s H E) [] σ' H' s2 → RelV v u → Q v H' → CE outer P w H s Q u s2 := by
    intro σ' H' v u J rv q
    exact ⟨v, H', J.os, J.bare, J.base, J.hok, rv, q⟩
  match fl, z with
  | .ret u, ⟨v, σ', H', J, rv, q⟩ => exact done J rv q
  | .next, ⟨σ', H', J, q⟩ => exact done (v := V.non) (u := Value.none) J rfl q
  | .brk, ⟨_, _, _, q⟩ => exact q.elim
  | .cont, ⟨_, _, _, q⟩ => exact q.elim
section
variable {P : Program} {w : World} {K : PySem.W.Frag} {mg : Str → Option Value} {base : Heap}
/-- a def of the text -/
theorem okG {x qual : Str} {st : Stmt} {f : Addr} {fd : FuncData} {N ps : List Str} {k : Nat} {sp : Sp} (F : Fun K x qual st f fd) (S : FnScope N ps (defScope st)) (few : ∀ vs H Q E, sp vs H Q E → vs.length = ps.length)
    (goes : ∀ (cdv : Value) (A : Around) (outer : List Env) (s : Shared) (H : Hp) (vs : List V) (Q : VK) (E : XK), (A.deeper (envOfC qual (defScope st) s.heap.objs.size f cdv)).guards = some [] →
      Room k (A.deeper (envOfC qual (defScope st) s.heap.objs.size f cdv)) → sp vs H Q E →
      ∃ t, PSs (cxOf CX0 P w K mg base N qual (defScope st) f cdv A outer s H E).nox (defBody st) t ∧ t { nx := fun _ H' => Q .non H', rt := Q } (start N vs) H) : FnG P w K mg base CX0 (k + 1) f fd ps sp := by
  obtain ⟨oc, od, kV, doc, pm, an, cdv, ct, osl, rfl, lk, cd⟩ := F.ex
  apply fnG_of lk cd S few
  intro A outer s H vs Q E gd hr h
  obtain ⟨t, q1, q2⟩ := goes cdv A outer s H vs Q E gd hr h
  exact ⟨t, q1.nox, q2⟩
end

/-! ### repr of data -/
theorem pyd_nodict : ∀ d : PyData, d.canLay0 = true → d.hasDict = false := PyData.hasDict_of_canLay
def rRepr (K : PySem.W.Frag) : List V → Hp → VK → Prop := fun xs H Q => ∃ x d, xs = [x] ∧ Dp K H x d ∧ Good d ∧ Q (.str d.shown) H
section
variable {X : Cx}
theorem call_repr (gd : X.A.guards = some []) (hu : X.A.units + 68 < cLine) : CallR X (.builtin "repr") (rRepr X.K) := by
  intro pins s σ H xs us Q I r h
  obtain ⟨x, d, rfl, hd, g, q⟩ := h
  obtain ⟨u, rfl, rx⟩ : ∃ u, us = [u] ∧ RelV x u := by
    cases r with
    | cons a b =>
      cases b
      exact ⟨_, rfl, a⟩
  obtain ⟨as, rd⟩ := Dp.reads I d x u hd rx
  have dep : d.depth ≤ 64 := SeqAt.depth_of_shaped g.sh
  have big := g.fits
  have last : ∀ (h' : Heap) (tk : Nat) (t : Tok), (∀ b o, s.heap.get? b = some o → h'.get? b = some o) → EP X pins σ Q (.str d.shown t) { s with heap := h', toks := tk } :=
    fun h' tk t k => ⟨.str d.shown, H, I.kept k, ⟨_, rfl⟩, q⟩
  have deep : ∀ a, u = .ref a → wpAny (model X.prog X.w) X.A (call (.builtin "repr") [u]) (EP X pins σ Q) X.xe s := by
    intro a e
    subst e
    exact repr_of_reads' rd g.wr (PyData.noDict_hsm (pyd_nodict d g.lay)) gd (by omega) (fun _ _ z => z) (fun h' t tk k => last h' tk t k) big
  match d, hd, rd with
  | .list _, _, .list _ _ _ _ => exact deep _ rfl
  | .tuple _, _, .tuple _ _ _ _ => exact deep _ rfl
  | .none, _, .none => exact P.repr_of_none (last s.heap _ _ fun _ _ z => z)
  | .bool b, _, .bool _ =>
    refine P.repr_of_bool ?_
    have z := last s.heap (s.toks + 1) s.toks fun _ _ z => z
    cases b <;> exact z
  | .int i, _, .int _ _ => exact P.repr_of_int (of_decide_eq_true g.wr) (last s.heap _ _ fun _ _ z => z)
  | .str z, _, .str _ _ => exact P.repr_of_str (last s.heap _ _ fun _ _ z => z) big
end

/-! ### the law's own call -/
/-- the script's abstract heap: the script alone, locked, where it is none of the module's own lists -/
def H0 (K : PySem.W.Frag) (a : Addr) (ob : Obj) (xs : List V) : Hp := fun b => if b = a ∧ K.lookup a = none then some (.frz ob (.lst xs)) else none
theorem H0_cases {K : PySem.W.Frag} {a b : Addr} {ob : Obj} {xs : List V} {u : HO} (h : H0 K a ob xs b = some u) : b = a ∧ K.lookup a = none ∧ u = .frz ob (.lst xs) := by
  unfold H0 at h
  split at h
  · rename_i c
    cases h
    exact ⟨c.1, c.2, rfl⟩
  · cases h
theorem law_callG {P : Program} {w : World} {K : PySem.W.Frag} {mg mb : Str → Option Value} {k : Nat} {fa a : Addr} {fd : FuncData} {x : Str} {sp : Sp} {s₁ : Shared} {vs : List Value} {ns : List Int}
    (F : ∀ base : Heap, K.In base → base.Ns mainGlobals mg → FnG P w K mg base CX0 k fa fd [x] sp) (kin : K.In s₁.heap) (gl : s₁.heap.Ns mainGlobals mg) (bl : s₁.heap.Ns builtinsNs mb)
    (blt : ∀ x : Str, x ≠ "__name__" → mb x = bootBuiltins x) (nol : s₁.heap.NoLimit) (gens : s₁.gens = #[]) (at_a : s₁.heap.get? a = some { cls := .type "list", data := .seq vs.toArray })
    (are : IntsAre vs ns) (few : ns.length ≤ sizeLine) (hr : Room k callerA) (bnd : ∀ (s : Shared) (u : Value), BindsTo s fd ⟨[u], []⟩ [(x, u)])
    (hsp : ∀ H : Hp, SqL K H a (ns.map V.int) → sp [.ref a] H (fun v _ => v = .bl true) E0) :
    codeAny (model P w) callerA (.call (.ref fa) ⟨[.ref a], []⟩) (fun r s' => r = .ok (.ret (.bool true)) ∧ OldK s₁.heap s'.heap ∧ s'.os = s₁.os ∧ AllBare s'.gens) s₁ := by
  have rv := vals_ints are
  have z : vs.length ≤ sizeLine := by rw [are.length]; exact few
  generalize eo : ({ cls := .type "list", data := .seq vs.toArray } : Obj) = ob at at_a
  let H := H0 K a ob (ns.map V.int)
  have one : ∀ b u, H b = some u → b = a ∧ K.lookup a = none ∧ u = .frz ob (.lst (ns.map V.int)) := fun b u h => H0_cases h
  have ok : HOk P w H s₁.heap := by
    intro b u h
    obtain ⟨rfl, _, rfl⟩ := one b u h
    refine ⟨at_a, by rw [List.length_map]; exact few, vs, 0, rv, ?_⟩
    rw [at_a, ← eo]
  have sq : SqL K H a (ns.map V.int) := by
    cases hk : K.lookup a with
    | none =>
      left
      right
      exact ⟨ob, if_pos ⟨rfl, hk⟩⟩
    | some o =>
      right
      have e := (kin a o hk).symm.trans at_a
      cases e
      subst eo
      exact ⟨_, vs.toArray, _, hk, rfl, rfl, rfl, by simpa using z, by simpa using rv⟩
  have dropped : ∀ {b : Addr} {o : Obj}, s₁.heap.get? b = some o → (b ≠ a ∨ K.lookup a ≠ none) → H b = none := by
    intro b o _ c
    cases h : H b with
    | none => rfl
    | some u =>
      obtain ⟨e1, e2, _⟩ := one b u h
      rcases c with c | c
      · exact absurd e1 c
      · exact absurd e2 c
  have nsA : ∀ {b : Addr} {m : Str → Option Value}, s₁.heap.Ns b m → (hidT s₁.heap H).Ns b m := by
    rintro b m ⟨o, es, ep, e, d, r⟩
    refine ⟨o, es, ep, hidT_get e (dropped e (.inl ?_)), d, r⟩
    rintro rfl
    rw [at_a] at e
    cases e
    rw [← eo] at d
    cases d
  have kinB : K.In (hidT s₁.heap H) := by
    intro b o e
    refine hidT_get (kin b o e) (dropped (kin b o e) ?_)
    by_cases h : b = a
    · right
      intro q
      rw [h, q] at e
      cases e
    · left; exact h
  have e0 : Env0 P w K mg (hidT s₁.heap H) callerA [] s₁ H := by
    constructor
    · rfl
    · obtain ⟨mc, q1, q2⟩ := nol
      exact ⟨kinB, nsA gl, ⟨mb, nsA bl, blt⟩, mc, nsA q1, q2⟩
    · exact fun b o e => of_hidT e
    · exact Nat.le_of_eq (hidT_size _ _)
    · trivial
    · intro b hb
      cases hb
    · exact ok
    · exact .of_eq gens
  apply codeAny_mono ((F _ kinB (nsA gl)).goes callerA rfl hr [] s₁ H ⟨[.ref a], []⟩ [.ref a] [.ref a] _ _ e0 (bnd s₁ (.ref a)) (.cons rfl .nil) (hsp H sq))
  intro res s2 h
  match res, h with
  | .error _, h => exact h.elim
  | .ok (.ret u), ⟨v, H', os, bare, un, ok2, rr, q⟩ =>
    have e : v = .bl true := q
    subst e
    obtain rfl : u = Value.bool true := rr
    refine ⟨rfl, OldK.of_keep ?_, os, bare⟩
    intro b o e
    cases hb : H b with
    | none => exact un.keep b o e hb (fun z => nomatch z) fun z => nomatch z
    | some u =>
      obtain ⟨_, _, rfl⟩ := one b u hb
      obtain ⟨e1, _⟩ := ok b _ hb
      obtain ⟨e2, _⟩ := ok2 b _ (un.frzs b ob _ hb)
      rw [e] at e1
      cases e1
      exact e2
/-- the walk, from the law's def -/
theorem walkG {l : PySem.W.OpenLaw} {n k : Nat} {q : Program} {loose : List Str} {XP : (Str → Option Value) → Heap → Prop} {YP : World → Heap → Prop} {d : DefRec} {K : Params → PySem.W.Frag} {sp : PySem.W.Frag → Sp} {x : Str}
    (most : l.most = some n) (small : n ≤ sizeLine) (nodef : d.params.defaults = []) (hr : Room k callerA) (hY : ∀ (w : World) (h : Heap), YP w h → (K w.params).In h)
    (F : ∀ (w : World) (mg : Str → Option Value) (fa : Addr) (h : Heap), (K w.params).In h → h.Ns mainGlobals mg → mg d.name = some (.ref fa) →
      ∃ fd : FuncData, (∀ (s : Shared) (u : Value), BindsTo s fd ⟨[u], []⟩ [(x, u)]) ∧ ∀ base : Heap, (K w.params).In base → base.Ns mainGlobals mg → FnG l.prog w (K w.params) mg base CX0 k fa fd [x] (sp (K w.params)))
    (hsp : ∀ (K : PySem.W.Frag) (H : Hp) (a : Addr) (ns : List Int), ns.length ≤ n → SqL K H a (ns.map V.int) → sp K [.ref a] H (fun v _ => v = .bl true) E0) :
    PySem.W.WalkO q loose XP YP l.row.toRowW d [] (fun f vs => PySem.call f vs) := by
  apply Att.attach_call most nodef
  intro w s₀ s₁ mg mb fa o pm cd doc a vs ns G Y _ _ _ hm at_a are few gens
  obtain ⟨fd, b, hF⟩ := F w mg fa _ (hY w _ Y) G.T.g hm
  exact law_callG hF (hY w _ Y) G.T.g G.T.b G.T.builtins G.T.nolimit gens at_a are (Nat.le_trans few small) hr b fun H h => hsp _ H a ns few h
end Pk
set_option Elab.async false
set_option linter.all false
set_option maxRecDepth 100000
set_option maxHeartbeats 2000000
namespace Pk
open PySem PySem.Spec L2 PyProof.Rows
/-! ### operators over several kinds of values -/
section
variable {X : Cx}
theorem or2 {f : Value → Value → Sem Value} {r r' : R2} (h : OpR X f r) (h' : OpR X f r') : OpR X f (fun x y H Q => r x y H Q ∨ r' x y H Q) := by
  intro pins s σ H x y v u Q I rx ry q
  rcases q with q | q
  · exact h pins s σ H x y v u Q I rx ry q
  · exact h' pins s σ H x y v u Q I rx ry q
theorem orC {f : Value} {r r' : List V → Hp → VK → Prop} (h : CallR X f r) (h' : CallR X f r') : CallR X f (fun x H Q => r x H Q ∨ r' x H Q) := by
  intro pins s σ H xs us Q I rx q
  rcases q with q | q
  · exact h pins s σ H xs us Q I rx q
  · exact h' pins s σ H xs us Q I rx q
def rAddI : R2 := rI0 fun i j => .int (i + j)
def rAddT : R2 := fun x y H Q => ∃ i j, x = .str i ∧ y = .str j ∧ i.length + j.length ≤ sizeLine ∧ Q (.str (i ++ j)) H
def rAddU (K : PySem.W.Frag) : R2 := fun x y H Q => rAddI x y H Q ∨ rAddT x y H Q ∨ rCat x y H Q ∨ rCatA K x y H Q
theorem opAdd : OpR X (binaryOp .Add) (rAddU X.K) := or2 op_add (or2 op_add_str (or2 op_cat op_catA))
def rSubI : R2 := rI0 fun i j => .int (i - j)
theorem opSub : OpR X (binaryOp .Sub) rSubI := op_sub
def rMulI : R2 := rI (fun i j => CMul i j ∨ CMulW i j) fun i j => .int (i * j)
theorem op_mulI : OpR X (binaryOp .Mult) rMulI := opI fun _ _ _ _ _ _ _ hc q => mul_int q (hc.elim CMul.ok CMulW.ok)
def rRepS : R2 := fun x y H Q => ∃ z n, x = .str z ∧ y = .int n ∧ z.length ≤ 1000 ∧ 0 ≤ n ∧ n ≤ 1000 ∧ Q (.str (Txt.mul z n)) H
theorem op_repS : OpR X (binaryOp .Mult) rRepS := by
  intro pins s σ H x y v u Q I rx ry h
  obtain ⟨z, n, rfl, rfl, hz, h0, h1, q⟩ := h
  obtain ⟨t, rfl⟩ := rx
  obtain ⟨t', rfl⟩ := ry
  refine SB.mul ⟨?_, fun a _ => ?_, fun a _ => ?_⟩ fun t2 k => ⟨.str _, H, I.tok k, ⟨_, rfl⟩, q⟩
  · rw [decide_eq_false (show ¬ n < -(2 ^ 63 : Int) by omega), decide_eq_false (show ¬ n ≥ 2 ^ 63 by omega)]
    rfl
  · have h2 : (1000 : Int) ≤ (2 ^ 63 - 1) / n := by
      apply Int.le_ediv_of_mul_le (by omega)
      omega
    omega
  · have h2 : z.length * n.toNat ≤ 1000 * 1000 := Nat.mul_le_mul hz (by omega)
    unfold Builtin.Str.tooLong
    rw [decide_eq_false]
    rw [sizeLine_eq]
    omega
def rMulU (K : PySem.W.Frag) : R2 := fun x y H Q => rMulI x y H Q ∨ rRepS x y H Q ∨ rRep x y H Q ∨ rRepT K x y H Q
theorem opMul : OpR X (binaryOp .Mult) (rMulU X.K) := or2 op_mulI (or2 op_repS (or2 op_rep op_repT))
def rDivI : R2 := rI CDivW fun i j => .int (i / j)
theorem opDiv : OpR X (binaryOp .FloorDiv) rDivI := op_fdivW
def rModI : R2 := rI (fun _ j => 0 < j) fun i j => .int (i % j)
theorem opMod : OpR X (binaryOp .Mod) rModI := op_mod
/-! comparisons; hu: room -/
def rEqU (K : PySem.W.Frag) : R2 := fun x y H Q => rEq x y H Q ∨ rEqD K x y H Q
def rNeU (K : PySem.W.Frag) : R2 := fun x y H Q => rNe x y H Q ∨ rNeD K x y H Q
theorem opEq (hu : X.A.units + 64 < cLine) : OpR X (compareOp .Eq) (rEqU X.K) := or2 op_eq (op_eqD hu)
theorem opNe (hu : X.A.units + 64 < cLine) : OpR X (compareOp .NotEq) (rNeU X.K) := or2 op_ne (op_neD hu)
def rLtI : R2 := rI0 fun i j => .bl (decide (i < j))
def rGtI : R2 := rI0 fun i j => .bl (decide (j < i))
def rLeI : R2 := rI0 fun i j => .bl (decide (i ≤ j))
def rGeI : R2 := rI0 fun i j => .bl (decide (j ≤ i))
def rLeT : R2 := fun x y H Q => ∃ i j, x = .str i ∧ y = .str j ∧ Q (.bl (!decide (j.cps.toList < i.cps.toList))) H
def rLeU : R2 := fun x y H Q => rLeI x y H Q ∨ rLeT x y H Q
theorem opLt : OpR X (compareOp .Lt) rLtI := op_lt
theorem opGt : OpR X (compareOp .Gt) rGtI := op_gt
theorem opLe : OpR X (compareOp .LtE) rLeU := or2 op_le op_le_str
theorem opGe : OpR X (compareOp .GtE) rGeI := op_ge
def rIsNn : R2 := fun x y H Q => y = .non ∧ Q (.bl (decide (x = .non))) H
def rNotNn : R2 := fun x y H Q => y = .non ∧ Q (.bl (!decide (x = .non))) H
theorem opIsN : OpR X (compareOp .Is) rIsNn := op_isN
theorem opNotN : OpR X (compareOp .IsNot) rNotNn := op_notN
/-- x in (a, b, ..), x in [..], a sign in a text -/
def rSignIn : R2 := fun x y H Q => ∃ (c : Nat) (z : Str), x = .str ⟨#[c]⟩ ∧ y = .str z ∧ Q (.bl (decide (c ∈ z.cps.toList))) H
def rSignNotIn : R2 := fun x y H Q => ∃ (c : Nat) (z : Str), x = .str ⟨#[c]⟩ ∧ y = .str z ∧ Q (.bl (!decide (c ∈ z.cps.toList))) H
def rInU (K : PySem.W.Frag) : R2 := fun x y H Q => rIn K false x y H Q ∨ rSignIn x y H Q
def rNotInU (K : PySem.W.Frag) : R2 := fun x y H Q => rIn K true x y H Q ∨ rSignNotIn x y H Q
theorem opIn : OpR X (compareOp .In) (rInU X.K) := or2 op_in_seq op_in_sign
theorem opNotIn : OpR X (compareOp .NotIn) (rNotInU X.K) := or2 op_notIn_seq op_notIn_sign
/-! slices, items stored by an operator -/
def rSlS : V → Option Int → Option Int → Hp → VK → Prop := fun x lo hi H Q => ∃ z, x = .str z ∧ z.length ≤ sizeLine ∧ Q (.str (cutS z lo hi)) H
def rSlU (K : PySem.W.Frag) : V → Option Int → Option Int → Hp → VK → Prop := fun x lo hi H Q => rSlL K x lo hi H Q ∨ rSlT K x lo hi H Q
theorem slU : SlR X (rSlU X.K) := SlR.or sl_list sl_tup
def rGetL (K : PySem.W.Frag) : R2 := fun x y H Q => ∃ p xs k v, x = .ref p ∧ y = .int k ∧ 0 ≤ k ∧ SqL K H p xs ∧ xs[k.toNat]? = some v ∧ Q v H
theorem get_list : PGet X (rGetL X.K) := by
  intro pins s σ H o i ov iv Q I ro ri h
  obtain ⟨p, xs, k, v, rfl, rfl, h0, hp, hat, q⟩ := h
  cases ro
  obtain ⟨t, rfl⟩ := ri
  obtain ⟨its, r, pl, hz⟩ := I.list hp
  obtain ⟨u, hu, ru⟩ := r.get hat
  have hl := r.length
  have hn := line63
  have hj := (List.getElem?_eq_some_iff.mp hat).1
  exact wpAny_getItem_list pl.isList h0 (by omega) (by simpa using hu) ⟨v, H, I, ru, q⟩
end
end Pk
set_option Elab.async false
set_option linter.all false
set_option maxRecDepth 100000
set_option maxHeartbeats 2000000
namespace Pk
open PySem PySem.Spec L2 PyProof.Rows
/-! ### built-ins by name -/
theorem boot_len : bootBuiltins "len" = some (.builtin "len") := PySem.boot_len
theorem boot_isinstance : bootBuiltins "isinstance" = some (.builtin "isinstance") := by decide +kernel
theorem boot_abs : bootBuiltins "abs" = some (.builtin "abs") := by decide +kernel
theorem boot_ord : bootBuiltins "ord" = some (.builtin "ord") := by decide +kernel
theorem boot_all : bootBuiltins "all" = some (.builtin "all") := by decide +kernel
theorem boot_any : bootBuiltins "any" = some (.builtin "any") := by decide +kernel
theorem boot_sum : bootBuiltins "sum" = some (.builtin "sum") := by decide +kernel
theorem boot_max : bootBuiltins "max" = some (.builtin "max") := by decide +kernel
theorem boot_min : bootBuiltins "min" = some (.builtin "min") := by decide +kernel
theorem boot_repr : bootBuiltins "repr" = some (.builtin "repr") := by decide +kernel
theorem boot_sorted : bootBuiltins "sorted" = some (.builtin "sorted") := by decide +kernel
theorem boot_t_int : bootBuiltins "int" = some (.type "int") := by decide +kernel
theorem boot_t_bool : bootBuiltins "bool" = some (.type "bool") := by decide +kernel
theorem boot_t_str : bootBuiltins "str" = some (.type "str") := by decide +kernel
theorem boot_t_list : bootBuiltins "list" = some (.type "list") := by decide +kernel
theorem boot_t_tuple : bootBuiltins "tuple" = some (.type "tuple") := by decide +kernel
theorem boot_t_dict : bootBuiltins "dict" = some (.type "dict") := by decide +kernel
section
variable {X : Cx}
def rLenU (K : PySem.W.Frag) : List V → Hp → VK → Prop := fun xs H Q => (∃ x n, xs = [x] ∧ LenV K x H n ∧ Q (.int n) H) ∨ ∃ a kvs, xs = [V.ref a] ∧ H a = some (.dK kvs) ∧ Q (.int kvs.length) H
theorem callLen : CallR X (.builtin "len") (rLenU X.K) := orC call_len call_lenD
def rAbs : List V → Hp → VK → Prop := fun xs H Q => ∃ i, xs = [.int i] ∧ Q (.int (if i < 0 then -i else i)) H
def rOrd : List V → Hp → VK → Prop := fun xs H Q => ∃ x, xs = [.str x] ∧ x.length = 1 ∧ Q (.int (x.cps.getD 0 0 : Nat)) H
def rMax2 : List V → Hp → VK → Prop := fun xs H Q => ∃ i j, xs = [.int i, .int j] ∧ Q (.int (if j > i then j else i)) H
def rMin2 : List V → Hp → VK → Prop := fun xs H Q => ∃ i j, xs = [.int i, .int j] ∧ Q (.int (if j < i then j else i)) H
def rInt1 : List V → Hp → VK → Prop := fun xs H Q => (∃ i, xs = [.int i] ∧ Q (.int i) H) ∨ ∃ k, xs = [.bl k] ∧ Q (.int (if k then 1 else 0)) H
def rIntS : List V → Hp → VK → Prop := fun xs H Q => ∃ a n, xs = [.str a] ∧ PySem.intText? a = some n ∧ a.length ≤ 640 ∧ Q (.int n) H
def rIntU : List V → Hp → VK → Prop := fun xs H Q => rInt1 xs H Q ∨ rIntS xs H Q
theorem callInt : CallR X (.type "int") rIntU := orC call_int1 call_int_str
def rBool1 : List V → Hp → VK → Prop := fun xs H Q => (∃ i, xs = [.int i] ∧ Q (.bl (i != 0)) H) ∨ ∃ k, xs = [.bl k] ∧ Q (.bl k) H
def rListOf (K : PySem.W.Frag) : List V → Hp → VK → Prop := fun xs H Q => ∃ p ys, xs = [.ref p] ∧ (SqL K H p ys ∨ SqT K H p ys) ∧ ∀ l, H l = none → Q (.ref l) (upd H l (.lst ys))
def rTupleOf (K : PySem.W.Frag) : List V → Hp → VK → Prop := fun xs H Q => ∃ p ys, xs = [.ref p] ∧ ((SqL K H p ys ∧ ∀ l, H l = none → Q (.ref l) (upd H l (.tup ys))) ∨ (SqT K H p ys ∧ Q (.ref p) H))
def rPowI : R2 := rI CPow fun i j => .int (i ^ j.toNat)
theorem opPow : OpR X (binaryOp .Pow) rPowI := op_pow
def tTru (K : PySem.W.Frag) (ta : TE) : TT := fun σ H Q => ta σ H fun x H' => ∃ k, TruV K x H' k ∧ Q k H'
def tJoin (K : PySem.W.Frag) (to ta : TE) : TE := tBM K "str" (fun x xs H Q => ∃ a p, ∃ ys : List Str, x = .str a ∧ xs = [.ref p] ∧ (SqL K H p (ys.map V.str) ∨ SqT K H p (ys.map V.str)) ∧ JoinOk a ys = true ∧ Q (.str (Txt.join a ys)) H) to (tCons ta tNil)
end
/-! ### a def that is called: where it stands, what it promises -/
structure Cal (P : Program) (w : World) (K : PySem.W.Frag) (mg : Str → Option Value) (base : Heap) (CX : CXT) (k : Nat) (x : Str) (ps : List Str) (ds : List Value) (sp : Sp) : Prop where
  ex : ∃ f fd, FnOk P w K mg base CX k f fd ps sp ∧ mg x = some (.ref f) ∧ PySem.W.keepIn K (.ref f) = true ∧ Binds K fd ps ds
structure CalG (P : Program) (w : World) (K : PySem.W.Frag) (mg : Str → Option Value) (base : Heap) (CX : CXT) (k : Nat) (x : Str) (ps : List Str) (sp : Sp) : Prop where
  ex : ∃ f fd, FnG P w K mg base CX k f fd ps sp ∧ mg x = some (.ref f) ∧ PySem.W.keepIn K (.ref f) = true ∧ Binds K fd ps []
section
variable {X : Cx} {CX : CXT} {k j : Nat} {ps : List Str} {ds : List Value} {dvs : List V} {sp : Sp} {E : XK} {x : Str} {p pos : Pos} {e : Expr} {es : List Expr} {t : TA}
theorem pe_cal (F : Cal X.prog X.w X.K X.mg X.base CX k x ps [] sp) (hr : Room j X.A) (hx : Passes CX X E) (ha : PA X (e :: es) t) (hj : k ≤ j := by first | decide | omega) (hg : Gl X x := by rfl)
    (h1 : (x == ("__debug__" : Str)) = false := by decide) (h2 : starEach (e :: es) X.env = (false, eval e X.env) :: starEach es X.env := by rfl) (h3 : (backTo pos (starEach es X.env)).any (·.1) = false := by rfl) :
    PE X (.Call (.Name x p) (e :: es) [] pos) (tCall sp [] E t) := by
  obtain ⟨f, fd, F, hm, hk, hb⟩ := F.ex
  exact pe_call F (hr.mono hj) hg hm hk hb .nil hx ha h1 h2 h3
theorem pe_calD (F : Cal X.prog X.w X.K X.mg X.base CX k x ps ds sp) (hd : Vals dvs ds) (hr : Room j X.A) (hx : Passes CX X E) (ha : PA X (e :: es) t) (hj : k ≤ j := by first | decide | omega) (hg : Gl X x := by rfl)
    (h1 : (x == ("__debug__" : Str)) = false := by decide) (h2 : starEach (e :: es) X.env = (false, eval e X.env) :: starEach es X.env := by rfl) (h3 : (backTo pos (starEach es X.env)).any (·.1) = false := by rfl) :
    PE X (.Call (.Name x p) (e :: es) [] pos) (tCall sp dvs E t) := by
  obtain ⟨f, fd, F, hm, hk, hb⟩ := F.ex
  exact pe_call F (hr.mono hj) hg hm hk hb hd hx ha h1 h2 h3
theorem pe_calg (F : CalG X.prog X.w X.K X.mg X.base CX k x ps sp) (gd : X.A.guards = some []) (hr : Room j X.A) (hx : Passes CX X E) (ha : PA X (e :: es) t) (hj : k ≤ j := by first | decide | omega) (hg : Gl X x := by rfl)
    (h1 : (x == ("__debug__" : Str)) = false := by decide) (h2 : starEach (e :: es) X.env = (false, eval e X.env) :: starEach es X.env := by rfl) (h3 : (backTo pos (starEach es X.env)).any (·.1) = false := by rfl) :
    PE X (.Call (.Name x p) (e :: es) [] pos) (tCall sp [] E t) := by
  obtain ⟨f, fd, F, hm, hk, hb⟩ := F.ex
  exact pe_callG F gd (hr.mono hj) hg hm hk hb hx ha h1 h2 h3
end
theorem room_repr {k : Nat} {A : Around} (hr : Room k A) : A.units + 68 < cLine := by have := hr.un; omega
/-! ### what is kept -/
/-- all that was tracked but b -/
def Kp (b : Addr) (H H' : Hp) : Prop := ∀ c o, H c = some o → c ≠ b → H' c = some o
theorem Kp.refl {b : Addr} {H : Hp} : Kp b H H := fun _ _ h _ => h
theorem Kp.trans {b : Addr} {H H1 H2 : Hp} (a : Kp b H H1) (c : Kp b H1 H2) : Kp b H H2 := fun d o h n => c d o (a d o h n) n
theorem Kp.of {b : Addr} {H H' : Hp} (s : Same H H') : Kp b H H' := fun c o h _ => s c o h
theorem same_new {H : Hp} {p : Addr} {o : HO} (h : H p = none) : Same H (upd H p o) := fun b u q => by
  rw [upd_ne (ne_of_none q h)]
  exact q
theorem kp_new {b : Addr} {H : Hp} {p : Addr} {o : HO} (h : H p = none) : Kp b H (upd H p o) := Kp.of (same_new h)
theorem Kp.laid {b : Addr} {H H1 : Hp} {p : Addr} {o : HO} (k : Kp b H H1) (h : H1 p = none) : Kp b H (upd H1 p o) := k.trans (kp_new h)
/-- the object b itself is written -/
theorem kp_put {b : Addr} {H : Hp} {o : HO} : Kp b H (upd H b o) := fun c u h n => by
  rw [upd_ne n]
  exact h
theorem Kp.put {b : Addr} {H H1 : Hp} {o : HO} (k : Kp b H H1) : Kp b H (upd H1 b o) := k.trans kp_put
/-- an object that was not tracked at the beginning is written -/
theorem Kp.other {b p : Addr} {H H1 : Hp} {o : HO} (k : Kp b H H1) (h : H p = none) : Kp b H (upd H1 p o) := fun c u q n => by
  rw [upd_ne (ne_of_none q h)]
  exact k c u q n
theorem Kp.tup {K : PySem.W.Frag} {b a : Addr} {H H' : Hp} {xs ys : List V} (k : Kp b H H') (hb : H b = some (.lst ys)) (h : SqT K H a xs) : SqT K H' a xs := by
  rcases h with (h | ⟨o, h⟩) | h
  · exact .inl (.inl (k _ _ h (ne_of h hb (by intro z; cases z))))
  · exact .inl (.inr ⟨o, k _ _ h (ne_of h hb (by intro z; cases z))⟩)
  · exact .inr h
/-! ### the bag of draws -/
structure Bag (H : Hp) (b l : Addr) : Prop where
  ex : ∃ (x m p : Int) (xs : List Int), H b = some (.lst [.int x, .int m, .int p, .ref l]) ∧ H l = some (.lst (xs.map V.int)) ∧ 0 ≤ x ∧ 0 ≤ m ∧ m < 2147483647 ∧ 0 ≤ p ∧ xs.length ≤ 63 ∧ ∀ c ∈ xs, 0 ≤ c
theorem Bag.ne {H : Hp} {b l : Addr} (B : Bag H b l) : l ≠ b := by
  obtain ⟨x, m, p, xs, h1, h2, _⟩ := B.ex
  intro e
  rw [e, h1] at h2
  cases xs with
  | nil => cases h2
  | cons _ r => cases r with
    | nil => cases h2
    | cons _ r => cases r with
      | nil => cases h2
      | cons _ r => cases r with
        | nil => cases h2
        | cons _ r => simp at h2
/-- what is new does not touch the bag -/
theorem Bag.same {H H' : Hp} {b l : Addr} (B : Bag H b l) (s : Same H H') : Bag H' b l := by
  obtain ⟨x, m, p, xs, h1, h2, r⟩ := B.ex
  exact ⟨x, m, p, xs, s _ _ h1, s _ _ h2, r⟩
theorem Bag.at {H : Hp} {b l : Addr} (B : Bag H b l) : ∃ xs, H b = some (.lst xs) := by
  obtain ⟨x, m, p, xs, h1, h2, r⟩ := B.ex
  exact ⟨_, h1⟩
theorem Bag.at2 {H : Hp} {b l : Addr} (B : Bag H b l) : ∃ xs, H l = some (.lst xs) := by
  obtain ⟨x, m, p, xs, h1, h2, r⟩ := B.ex
  exact ⟨_, h2⟩
theorem Bag.put {H : Hp} {b l c : Addr} {o : HO} (B : Bag H b l) (h1 : b ≠ c) (h2 : l ≠ c) : Bag (upd H c o) b l := by
  obtain ⟨x, m, p, xs, e1, e2, r⟩ := B.ex
  exact ⟨x, m, p, xs, by rw [upd_ne h1]; exact e1, by rw [upd_ne h2]; exact e2, r⟩
/-- a number drawn below n -/
def sp_law_take (K : PySem.W.Frag) : Sp := fun vs H Q _ => ∃ b l n, vs = [.ref b, .int n] ∧ Bag H b l ∧ 0 < n ∧ n ≤ 10 ^ 100 ∧ ∀ v H', 0 ≤ v → v < n → Bag H' b l → Kp b H H' → Q (.int v) H'
/-- a new bag of a script -/
def sp_law_bag (K : PySem.W.Frag) : Sp := fun vs H Q _ => ∃ (a : Addr) (ns : List Int), vs = [.ref a] ∧ SqL K H a (ns.map V.int) ∧ ∀ b l H', H b = none → H l = none → Bag H' b l → Same H H' → Q (.ref b) H'
end Pk
set_option Elab.async false
set_option linter.all false
set_option maxRecDepth 100000
set_option maxHeartbeats 2000000
namespace Pk
open PySem PySem.Spec L2 PyProof.Rows
def t_law_bag (K : PySem.W.Frag) : TS :=
  (tRet (tLst (tCons (tC (.int 0)) (tCons (tC (.int 1234567891)) (tCons (tC (.int 0)) (tCons (tLc (iList K (tSl (rSlU K) (tVar 0) tNoPart (tPart (tC (.int 63))))) (gName 1) tYes (tCB (rAbs) (tCons (tVar 1) tNil)) [1]) tNil))))))
def t_law_take (K : PySem.W.Frag) : TS :=
  (Evl.tCut (tIfS (tTest (tOp (rEqU K) (tOp (rIx K) (tVar 0) (tC (.int 0))) (tC (.int 0)))) (tSeq (tAsg (tC (.int 0)) (gName 2))
    (Evl.tCut (tIfS (tTest (tOp (rLtI) (tOp (rIx K) (tVar 0) (tC (.int 2))) (tCB (rLenU K) (tCons (tOp (rIx K) (tVar 0) (tC (.int 3))) tNil)))) (tAsg (tOp (rIx K) (tOp (rIx K) (tVar 0) (tC (.int 3))) (tOp (rIx K) (tVar 0) (tC (.int 2)))) (gName 2)) tNext)
    (tSeq (tAugS (tVar 0) (tC (.int 2)) (tC (.int 1)) (rGetL K) (ipI fun i j => i + j) rSetL)
    (Evl.tCut (tIfS (tTest (tOp (rGeI) (tVar 2) (tC (.int 1000000000000000000)))) (tAsg (tVar 2) (gSub (tVar 0) (tC (.int 0)) rSetL)) tNext)
    (tSeq (tAsg (tOp (rAddU K) (tOp (rAddU K) (tOp (rMulU K) (tOp (rIx K) (tVar 0) (tC (.int 1))) (tC (.int 48271))) (tOp (rModI) (tCB (rIntU) (tCons (tVar 2) tNil)) (tC (.int 2147483647)))) (tOp (rMulU K) (tC (.int 7919)) (tOp (rIx K) (tVar 0) (tC (.int 2))))) (gName 3))
    (tAsg (tOp (rModI) (tCB (rIntU) (tCons (tVar 3) tNil)) (tC (.int 2147483647))) (gSub (tVar 0) (tC (.int 1)) rSetL))))))) tNext)
    (tSeq (tIfS (tTest (tOp (rGtI) (tOp (rIx K) (tVar 0) (tC (.int 0))) (tC (.int 0)))) (tSeq (tAsg (tOp (rModI) (tCB (rIntU) (tCons (tOp (rIx K) (tVar 0) (tC (.int 0))) tNil)) (tVar 1)) (gName 4))
    (tSeq (tAsg (tOp (rDivI) (tOp (rIx K) (tVar 0) (tC (.int 0))) (tVar 1)) (gSub (tVar 0) (tC (.int 0)) rSetL))
    (tRet (tVar 4)))) tNext)
    (tSeq (tAsg (tOp (rModI) (tCB (rIntU) (tCons (tOp (rMulU K) (tOp (rAddU K) (tOp (rIx K) (tVar 0) (tC (.int 1))) (tC (.int 1))) (tC (.int 39373))) tNil)) (tC (.int 1000000007))) (gName 5))
    (tSeq (tAsg (tOp (rModI) (tCB (rIntU) (tCons (tOp (rMulU K) (tOp (rModI) (tCB (rIntU) (tCons (tOp (rMulU K) (tVar 5) (tVar 5)) tNil)) (tC (.int 998244353))) (tC (.int 30011))) tNil)) (tC (.int 998244353))) (gName 6))
    (tSeq (tIfS (tTest (tOp (rGtI) (tVar 1) (tC (.int 1000000)))) (tRet (tOp (rModI) (tCB (rIntU) (tCons (tOp (rAddU K) (tOp (rMulU K) (tVar 6) (tC (.int 1000000007))) (tVar 5)) tNil)) (tVar 1))) tNext)
    (tRet (tOp (rModI) (tCB (rIntU) (tCons (tOp (rDivI) (tVar 6) (tC (.int 7))) tNil)) (tVar 1))))))))
abbrev EndsOf (Q : VK) : Ends := { nx := fun _ H' => Q .non H', rt := Q }
theorem ln_law_take {K : PySem.W.Frag} {vs : List V} {H : Hp} {Q : VK} {E : XK} (h : sp_law_take K vs H Q E) : vs.length = 2 := by obtain ⟨_, _, _, rfl, _⟩ := h; rfl
theorem ln_law_bag {K : PySem.W.Frag} {vs : List V} {H : Hp} {Q : VK} {E : XK} (h : sp_law_bag K vs H Q E) : vs.length = 1 := by obtain ⟨_, _, rfl, _⟩ := h; rfl
/-! ### slices by natural numbers -/
theorem cutV_to (xs : List V) (k : Nat) : cutV xs none (some (k : Int)) = xs.take k := by
  unfold cutV
  rw [HT.sIx_none, HT.sIx_nat]
  show (xs.drop 0).take (min k xs.length - 0) = xs.take k
  rw [List.drop_zero, Nat.sub_zero]
  exact (List.take_eq_take_min).symm
theorem cutV_from (xs : List V) (k : Nat) : cutV xs (some (k : Int)) none = xs.drop k := by
  unfold cutV
  rw [HT.sIx_none, HT.sIx_nat]
  by_cases h : k ≤ xs.length
  · rw [Nat.min_eq_left h, List.take_of_length_le]
    rw [List.length_drop]
    exact Nat.le_refl _
  · rw [Nat.min_eq_right (by omega), List.drop_length, List.drop_eq_nil_of_le (by omega), List.take_nil]
theorem take_map_get {α β : Type} {f : α → β} {l : List α} {i : Nat} {x : α} (h : l[i]? = some x) : (l.take (i + 1)).map f = (l.take i).map f ++ [f x] := by
  rw [List.take_add_one, h]
  simp
def iabs (i : Int) : Int := if i < 0 then -i else i
theorem rd_law_bag {K : PySem.W.Frag} {vs : List V} {H : Hp} {Q : VK} {E : XK} (h : sp_law_bag K vs H Q E) : t_law_bag K (EndsOf Q) (start ["", ""] vs) H := by
  obtain ⟨a, ns, rfl, hS, k⟩ := h
  refine ⟨_, rfl, 63, rfl, .inl ⟨a, _, rfl, hS, fun p hp => ?_⟩⟩
  have e1 : cutV (ns.map V.int) none (some 63) = (ns.take 63).map V.int := by
    rw [show (63 : Int) = ((63 : Nat) : Int) from rfl, cutV_to, List.map_take]
  rw [e1]
  refine ⟨p, rfl, ⟨_, SqL.of upd_same⟩, fun D hD => ?_⟩
  refine lc_list (xs := (ns.take 63).map V.int) (fun i H' => Same (upd H p (.lst ((ns.take 63).map V.int))) H' ∧ H' D = some (.lst (((ns.take 63).take i).map fun z => V.int (iabs z)))) ⟨same_new hD, upd_same⟩ (fun i H' _ s => s.1.seq (SqL.of upd_same)) ?_ ?_
  · rintro i x H' hx ⟨s, e⟩
    rw [List.getElem?_map] at hx
    cases hz : (ns.take 63)[i]? with
    | none => rw [hz] at hx; cases hx
    | some z =>
      rw [hz] at hx
      cases hx
      have hi := (List.getElem?_eq_some_iff.mp hz).1
      have hl : (ns.take 63).length ≤ 63 := by rw [List.length_take]; omega
      refine ⟨rfl, ?_⟩
      refine ⟨_, rfl, z, rfl, _, e, ?_, fun b o q => ?_, ?_⟩
      · rw [List.length_map, List.length_take]
        exact small1000 (by omega)
      · rw [upd_ne (ne_of_none q hD)]
        exact s b o q
      · rw [upd_same, take_map_get hz]
        rfl
  · rintro H' ⟨s, e⟩
    refine ⟨by show 4 ≤ sizeLine; decide, fun b hb => ?_⟩
    rw [List.length_map, List.take_length] at e
    refine k b D _ ?_ ?_ ⟨0, 1234567891, 0, ((ns.take 63).map iabs), upd_same, ?_, by omega, by omega, by omega, by omega, ?_, ?_⟩ ?_
    · exact (same_new hp).free (s.free hb)
    · exact (same_new hp).free hD
    · rw [upd_ne (ne_of_none e hb), e, List.map_map]
      rfl
    · rw [List.length_map, List.length_take]
      omega
    · intro c hc
      obtain ⟨z, _, rfl⟩ := List.mem_map.mp hc
      unfold iabs
      split <;> omega
    · exact (same_new hp).trans (s.trans (same_new hb))

theorem ifI {x y : Int} {A B : Prop} (h1 : x = y → A) (h2 : x ≠ y → B) : if decide (V.int x = V.int y) = true then A else B := by
  by_cases h : x = y
  · rw [if_pos (decide_eq_true (congrArg V.int h))]
    exact h1 h
  · rw [if_neg]
    · exact h2 h
    · intro z
      exact h (V.int.inj (of_decide_eq_true z))
theorem ifD {p : Prop} [Decidable p] {A B : Prop} (h1 : p → A) (h2 : ¬ p → B) : if decide p = true then A else B := by
  by_cases h : p
  · rw [if_pos (decide_eq_true h)]
    exact h1 h
  · rw [if_neg (fun z => h (of_decide_eq_true z))]
    exact h2 h
theorem div_ok {n : Int} (h0 : 0 < n) (h1 : n ≤ 10 ^ 100) : CDivW 0 n := by
  refine ⟨h0, ?_⟩
  have h2 : n.natAbs < 2 ^ 9000 := by
    have z : n.natAbs ≤ 10 ^ 100 := by omega
    have z2 : (10 : Nat) ^ 100 < 2 ^ 9000 := by decide +kernel
    omega
  by_cases e : n.natAbs = 0
  · rw [e]; decide
  · exact (Nat.log2_lt e).mpr h2
theorem rd_law_take {K : PySem.W.Frag} {vs : List V} {H : Hp} {Q : VK} {E : XK} (h : sp_law_take K vs H Q E) : t_law_take K (EndsOf Q) (start ["", "", "", "", "", "", ""] vs) H := by
  obtain ⟨b, l, n, rfl, B, h0, h1, k⟩ := h
  have nlb := B.ne
  obtain ⟨x, m, p, xs, hb, hl, x0, m0, m1, p0, l63, c0⟩ := B.ex
  refine ⟨fun σ' H' => ∃ (s2 s3 : Option V) (x m p : Int), σ' = [some (.ref b), some (.int n), s2, s3, none, none, none] ∧ H' b = some (.lst [.int x, .int m, .int p, .ref l]) ∧ H' l = some (.lst (xs.map V.int)) ∧ 0 ≤ x ∧ 0 ≤ m ∧ m < 2147483647 ∧ 0 ≤ p ∧ Kp b H H', ?_, ?_⟩
  · refine ⟨_, rfl, .inl ⟨b, _, _, _, rfl, rfl, SqL.of hb, rfl, .inl ⟨rfl, _, rfl, ?_⟩⟩⟩
    refine ifI (fun e => ?_) (fun _ => ⟨_, _, x, m, p, rfl, hb, hl, x0, m0, m1, p0, Kp.refl⟩)
    subst e
    -- the next cell, 0 behind the script
    refine ⟨fun σ' H' => H' = H ∧ ∃ c, 0 ≤ c ∧ σ' = [some (.ref b), some (.int n), some (.int c), none, none, none, none], ?_, ?_⟩
    · refine ⟨_, rfl, .inl ⟨b, _, _, _, rfl, rfl, SqL.of hb, rfl, _, rfl, .inl ⟨b, _, _, _, rfl, rfl, SqL.of hb, rfl, .inl ⟨_, _, rfl, .inl ⟨_, SqL.of hl, rfl⟩, _, _, rfl, rfl, _, rfl, ?_⟩⟩⟩⟩
      refine ifD (fun q => ?_) (fun _ => ⟨rfl, 0, by decide, rfl⟩)
      rw [List.length_map] at q
      have hp : p.toNat < xs.length := by omega
      have ep : p = ((p.toNat : Nat) : Int) := by omega
      have g : (xs.map V.int)[p.toNat]? = some (.int (xs[p.toNat])) := by rw [List.getElem?_map, List.getElem?_eq_getElem hp]; rfl
      refine ⟨_, rfl, .inl ⟨b, _, _, _, rfl, rfl, SqL.of hb, rfl, _, rfl, .inl ⟨b, _, _, _, rfl, rfl, SqL.of hb, rfl, .inl ⟨l, _, p, _, rfl, rfl, SqL.of hl, by rw [ep]; exact atI_nat g, ?_⟩⟩⟩⟩
      exact ⟨rfl, _, c0 _ (List.getElem_mem hp), rfl⟩
    rintro σ' H' ⟨rfl, c, cc, rfl⟩
    -- the place
    refine ⟨_, rfl, b, _, 2, _, rfl, rfl, by decide, SqL.of hb, rfl, _, _, rfl, rfl, b, _, 2, 2, rfl, rfl, hb, rfl, ?_⟩
    have hb' : (upd H' b (.lst [.int 0, .int m, .int (p + 1), .ref l])) b = some (.lst [.int 0, .int m, .int (p + 1), .ref l]) := upd_same
    have hl' : (upd H' b (.lst [.int 0, .int m, .int (p + 1), .ref l])) l = some (.lst (xs.map V.int)) := by rw [upd_ne nlb]; exact hl
    have kp' : Kp b H' (upd H' b (.lst [.int 0, .int m, .int (p + 1), .ref l])) := kp_put
    show Evl.tCut _ _ _ _ (upd H' b (.lst [.int 0, .int m, .int (p + 1), .ref l]))
    generalize upd H' b (.lst [.int 0, .int m, .int (p + 1), .ref l]) = H2 at hb' hl' kp' ⊢
    -- a great cell fills the bag
    refine ⟨fun σ' H3 => σ' = [some (.ref b), some (.int n), some (.int c), none, none, none, none] ∧ ∃ x, 0 ≤ x ∧ H3 b = some (.lst [.int x, .int m, .int (p + 1), .ref l]) ∧ H3 l = some (.lst (xs.map V.int)) ∧ Kp b H' H3, ?_, ?_⟩
    · refine ⟨_, rfl, _, _, rfl, rfl, _, rfl, ?_⟩
      refine ifD (fun q => ?_) (fun _ => ⟨rfl, 0, by decide, hb', hl', kp'⟩)
      refine ⟨_, rfl, _, rfl, b, _, 0, 0, rfl, rfl, hb', rfl, rfl, c, cc, upd_same, by rw [upd_ne nlb]; exact hl', kp'.put⟩
    rintro σ' H3 ⟨rfl, x, x0', hb3, hl3, kp3⟩
    refine ⟨_, rfl, .inl ⟨b, _, _, _, rfl, rfl, SqL.of hb3, rfl, .inl ⟨_, _, rfl, rfl, .inl (.inl (by omega)), ?_⟩⟩⟩
    refine ⟨_, rfl, .inl (.inl ⟨_, rfl, _, _, rfl, rfl, (by show (0 : Int) < _; decide), .inl ⟨_, _, rfl, rfl, ?_⟩⟩)⟩
    refine ⟨_, rfl, .inl ⟨b, _, _, _, rfl, rfl, SqL.of hb3, rfl, .inl ⟨_, _, rfl, rfl, .inl (.inl (by omega)), .inl ⟨_, _, rfl, rfl, ?_⟩⟩⟩⟩
    refine ⟨_, rfl, .inl (.inl ⟨_, rfl, _, _, rfl, rfl, (by show (0 : Int) < _; decide), ?_⟩)⟩
    refine ⟨_, rfl, b, _, 1, 1, rfl, rfl, hb3, rfl, ?_⟩
    exact ⟨_, _, x, _, p + 1, rfl, upd_same, by rw [upd_ne nlb]; exact hl3, x0', Int.emod_nonneg _ (by decide), Int.emod_lt_of_pos _ (by decide), by omega, kp3.put⟩
  · rintro σ' H' ⟨s2, s3, x, m, p, rfl, hb, hl, x0, m0, m1, p0, kp⟩
    refine ⟨_, rfl, .inl ⟨b, _, _, _, rfl, rfl, SqL.of hb, rfl, _, _, rfl, rfl, _, rfl, ?_⟩⟩
    refine ifD (fun hx => ?_) (fun hx => ?_)
    · refine ⟨_, rfl, .inl ⟨b, _, _, _, rfl, rfl, SqL.of hb, rfl, .inl (.inl ⟨_, rfl, _, rfl, _, _, rfl, rfl, h0, ?_⟩)⟩⟩
      refine ⟨_, rfl, .inl ⟨b, _, _, _, rfl, rfl, SqL.of hb, rfl, _, rfl, _, _, rfl, rfl, div_ok h0 h1, ?_⟩⟩
      refine ⟨_, rfl, b, _, _, 0, rfl, rfl, hb, rfl, ?_⟩
      refine ⟨_, rfl, k _ _ (Int.emod_nonneg _ (by omega)) (Int.emod_lt_of_pos _ h0) ⟨x / n, m, p, xs, upd_same, by rw [upd_ne nlb]; exact hl, Int.ediv_nonneg x0 (by omega), m0, m1, p0, l63, c0⟩ kp.put⟩
    · refine ⟨_, rfl, .inl ⟨b, _, _, _, rfl, rfl, SqL.of hb, rfl, .inl ⟨_, _, rfl, rfl, .inl ⟨_, _, rfl, rfl, .inl (.inl (by omega)), ?_⟩⟩⟩⟩
      refine .inl (.inl ⟨_, rfl, _, _, rfl, rfl, (by show (0 : Int) < _; decide), ?_⟩)
      generalize hw : (m + 1) * 39373 % 1000000007 = w
      have w0 : 0 ≤ w := by rw [← hw]; exact Int.emod_nonneg _ (by decide)
      have w1 : w < 1000000007 := by rw [← hw]; exact Int.emod_lt_of_pos _ (by decide)
      refine ⟨_, rfl, _, rfl, .inl ⟨_, _, rfl, rfl, .inl (.inl (by omega)), ?_⟩⟩
      refine .inl (.inl ⟨_, rfl, _, _, rfl, rfl, (by show (0 : Int) < _; decide), .inl ⟨_, _, rfl, rfl, .inl (.inr (by decide)), .inl (.inl ⟨_, rfl, _, _, rfl, rfl, (by show (0 : Int) < _; decide), ?_⟩)⟩⟩)
      generalize hz : w * w % 998244353 * 30011 % 998244353 = z
      have z0 : 0 ≤ z := by rw [← hz]; exact Int.emod_nonneg _ (by decide)
      have z1 : z < 998244353 := by rw [← hz]; exact Int.emod_lt_of_pos _ (by decide)
      refine ⟨_, rfl, _, _, rfl, rfl, _, rfl, ?_⟩
      have B' : Bag H' b l := ⟨x, m, p, xs, hb, hl, x0, m0, m1, p0, l63, c0⟩
      refine ifD (fun _ => ?_) (fun _ => ?_)
      · refine ⟨_, rfl, .inl ⟨_, _, rfl, rfl, .inl (.inl (by omega)), _, rfl, .inl ⟨_, _, rfl, rfl, .inl (.inl ⟨_, rfl, _, rfl, _, _, rfl, rfl, h0, ?_⟩)⟩⟩⟩
        exact k _ _ (Int.emod_nonneg _ (by omega)) (Int.emod_lt_of_pos _ h0) B' kp
      · refine ⟨_, rfl, _, _, rfl, rfl, ⟨by decide, by decide⟩, .inl (.inl ⟨_, rfl, _, rfl, _, _, rfl, rfl, h0, ?_⟩)⟩
        exact k _ _ (Int.emod_nonneg _ (by omega)) (Int.emod_lt_of_pos _ h0) B' kp
end Pk
set_option Elab.async false
set_option linter.all false
set_option maxRecDepth 100000
set_option maxHeartbeats 2000000
namespace Pk
open PySem PySem.Spec L2 PyProof.Rows
theorem kit_same {K : PySem.W.Frag} {v : Value} : PySem.W.kitOne K v v = some true := by
  unfold PySem.W.kitOne
  simp
/-! ### own classes: bundles of what the top says of them -/
/-- a def that is a class's own: where it stands, what it promises -/
structure Own (P : Program) (w : World) (K : PySem.W.Frag) (mg : Str → Option Value) (base : Heap) (CX : CXT) (k : Nat) (C : Addr) (m : Str) (ps : List Str) (sp : Sp) : Prop where
  ex : ∃ f fd, FnOk P w K mg base CX k f fd ps sp ∧ PySem.W.findIn K (.ref C) m = some (some (.ref f)) ∧ PySem.W.isFn K (.ref f) = true ∧ PySem.W.keepIn K (.ref f) = true ∧ PySem.W.fnIn K f = true ∧ Binds K fd ps []
/-- a property of a class -/
structure Pro (P : Program) (w : World) (K : PySem.W.Frag) (mg : Str → Option Value) (base : Heap) (CX : CXT) (k : Nat) (C : Addr) (m : Str) (ps : List Str) (sp : Sp) : Prop where
  ex : ∃ p f fd, FnOk P w K mg base CX k f fd ps sp ∧ PropOf K C m p f ∧ Binds K fd ps []
/-- a class of the text -/
structure Kls (K : PySem.W.Frag) (mg : Str → Option Value) (x : Str) (C : Addr) : Prop where
  at_ : mg x = some (.ref C)
  cl : Cls K C
  ma : PySem.W.makesIn K C = true
  kp : PySem.W.keepIn K (.ref C) = true
  sf : PySem.W.selfFirst K C = true
  ic : C8.InsC K C
  ne : PySem.W.findIn K (.ref C) "__ne__" = some (some (.builtin "object.__ne__"))
section
variable {X : Cx} {CX : CXT} {k j : Nat} {C : Addr} {ps : List Str} {sp : Sp} {E : XK} {x m : Str} {p pos apos : Pos} {e o fe : Expr} {es : List Expr} {ta tf te : TE} {t : TA}
theorem run_code {pins : List (Addr × Obj)} {σ : L2.St} {H : Hp} {s : Shared} {f : Addr} {fd : FuncData} {Q : VK} {us : List Value} {vs : List V} (F : FnOk X.prog X.w X.K X.mg X.base CX k f fd ps sp) (hr : Room k X.A) (hb : Binds X.K fd ps [])
    (hx : Passes CX X E) (I : Inv X pins σ H s) (r : Vals vs us) (h : sp vs H Q E) :
    codeAny (model X.prog X.w) X.A (.call (.ref f) ⟨us, []⟩) (fun r s' => match r with | .ok (.ret v) => EP X pins σ Q v s' | .ok _ => False | .error e => X.xe e s') s := by
  have n : (us ++ ([] : List Value)).length = ps.length := by
    rw [List.append_nil, ← r.length]
    exact F.len _ _ _ _ h
  have b := hb s us I.kIn n
  rw [List.append_nil] at b
  apply codeAny_mono (F.run X.A X.stack s H ⟨us, []⟩ us vs Q E hr I.env0 b r h)
  intro res s2 q
  match res, q with
  | .error er, q => exact hx pins σ H s er s2 I q
  | .ok (.ret u), q => exact I.after q
/-- C(e, ..) -/
theorem pe_mk (c : Kls X.K X.mg x C) (F : Own X.prog X.w X.K X.mg X.base CX k C "__init__" ps sp) (hr : Room j X.A) (hx : Passes CX X E) (ha : PA X (e :: es) t) (hj : k + 1 ≤ j := by first | decide | omega) (hg : Gl X x := by rfl)
    (h1 : (x == ("__debug__" : Str)) = false := by decide) (h2 : starEach (e :: es) X.env = (false, eval e X.env) :: starEach es X.env := by rfl) (h3 : (backTo pos (starEach es X.env)).any (·.1) = false := by rfl) :
    PE X (.Call (.Name x p) (e :: es) [] pos) (tMake C sp [] E t) := by
  obtain ⟨f, fd, G, a1, a2, a3, _, b⟩ := F.ex
  exact pe_make ⟨c.ma, a1, a2, c.kp⟩ G (hr.mono hj) hg c.at_ b .nil hx ha h1 h2 h3
/-- o.m(e, ..), o.m() -/
theorem pe_mt (c : Kls X.K X.mg x C) (F : Own X.prog X.w X.K X.mg X.base CX k C m ps sp) (he : PE X o ta) (hr : Room j X.A) (hx : Passes CX X E) (ha : PA X (e :: es) t) (hj : k ≤ j := by first | decide | omega)
    {pl : Sem Bool} (hst : starEach (e :: es) X.env = (false, eval e X.env) :: starEach es X.env := by rfl) (hpl : (backTo pos (starEach es X.env)).any (·.1) = false := by rfl)
    (ht : eval (.Call (.Attribute o m apos) (e :: es) [] pos) X.env = (do
      let ov ← eval o X.env
      standAt apos.atName
      let (f, first) ← holding [ov] (getMethod ov m pl)
      callWith pos f first (backTo pos (starEach (e :: es) X.env)) (backToKw pos (keywordEach [] X.env))) := by rfl) :
    PE X (.Call (.Attribute o m apos) (e :: es) [] pos) (tMeth C m sp [] E ta t) := by
  obtain ⟨f, fd, G, a1, a2, a3, _, b⟩ := F.ex
  exact pe_meth he c.cl ⟨a1, a2, a3⟩ G (hr.mono hj) b .nil hx ha hst hpl ht
theorem pe_mt0 (c : Kls X.K X.mg x C) (F : Own X.prog X.w X.K X.mg X.base CX k C m ps sp) (he : PE X o ta) (hr : Room j X.A) (hx : Passes CX X E) (hj : k ≤ j := by first | decide | omega)
    {pl : Sem Bool} (ht : eval (.Call (.Attribute o m apos) [] [] pos) X.env = (do
      let ov ← eval o X.env
      standAt apos.atName
      let (f, first) ← holding [ov] (getMethod ov m pl)
      callWith pos f first (backTo pos (starEach [] X.env)) (backToKw pos (keywordEach [] X.env))) := by rfl) :
    PE X (.Call (.Attribute o m apos) [] [] pos) (tMeth C m sp [] E ta tNil) := by
  obtain ⟨f, fd, G, a1, a2, a3, _, b⟩ := F.ex
  exact pe_meth0 he c.cl ⟨a1, a2, a3⟩ G (hr.mono hj) b .nil hx ht
/-- o.f, a property -/
theorem pe_pr (c : Kls X.K X.mg x C) (F : Pro X.prog X.w X.K X.mg X.base CX k C m ps sp) (he : PE X o ta) (hr : Room j X.A) (hx : Passes CX X.nox E) (hj : k + 1 ≤ j := by first | decide | omega)
    (hab : attributeBase o m X.env (eval o X.env) = eval o X.env := by rfl) : PE X (.Attribute o m pos) (tProp C sp [] E ta) := by
  obtain ⟨q, f, fd, G, a1, b⟩ := F.ex
  exact pe_prop he c.cl a1 G (hr.mono hj) b .nil hx hab
/-- f(e, ..), f an instance of the class at C -/
def tCallI (C : Addr) (sp : Sp) (E : XK) (tf : TE) (t : TA) : TE := fun σ H Q => tf σ H fun y H1 => ∃ a, y = V.ref a ∧ t σ H1 fun vs H2 => (∃ dx fs, H2 a = some (.ins C dx fs)) ∧ sp (V.ref a :: vs) H2 Q E
theorem pe_in (F : Own X.prog X.w X.K X.mg X.base CX k C "__call__" ps sp) (hf : PE X fe tf) (hr : Room j X.A) (hx : Passes CX X E) (ha : PA X (e :: es) t) (hj : k ≤ j := by first | decide | omega)
    (ht : eval (.Call fe (e :: es) [] pos) X.env = (do callWith pos (← eval fe X.env) [] (backTo pos (starEach (e :: es) X.env)) (backToKw pos (keywordEach [] X.env))) := by rfl)
    (h2 : starEach (e :: es) X.env = (false, eval e X.env) :: starEach es X.env := by rfl) (h3 : (backTo pos (starEach es X.env)).any (·.1) = false := by rfl) : PE X (.Call fe (e :: es) [] pos) (tCallI C sp E tf t) := by
  obtain ⟨f, fd, G, a1, a2, a3, a4, b⟩ := F.ex
  constructor
  intro pins s σ H Q I h
  refine Call_ (thn (hf.run pins s σ H _ I h) ?_) ht
  rintro u s1 ⟨y, H1, I1, ry, a, rfl, q⟩
  obtain rfl : u = Value.ref a := ry
  refine StX.callO_with (thn (ha.run pos pins s1 σ H1 _ I1 q) ?_) h2 h3
  rintro us s2 ⟨vs, H2, I2, r, hi, q2⟩
  obtain ⟨ox, od, J, hd⟩ := StX.insC_at I2 (.inr hi)
  exact ⟨⟨C, ox, od, J, hd⟩, wpAny_call (PySem.W.kco_code I2.kIn J hd a1 a2 a4 (run_code (us := .ref a :: us) (vs := .ref a :: vs) G (hr.mono hj) b hx I2 (.cons rfl r) q2))⟩
/-- x op y, both instances of the class at C -/
def rOwnB (C : Addr) (sp : Sp) (E : XK) : R2 := fun x y H Q => ∃ a b dx fs dy gs, x = .ref a ∧ y = .ref b ∧ H a = some (.ins C dx fs) ∧ H b = some (.ins C dy gs) ∧ sp [x, y] H Q E
theorem op_ownB {op : Operator} (c : Kls X.K X.mg x C) (F : Own X.prog X.w X.K X.mg X.base CX k C (PySem.dunder op.info.2) ps sp) (hr : Room j X.A) (hx : Passes CX X E) (hj : k ≤ j := by first | decide | omega) : OpR X (binaryOp op) (rOwnB C sp E) := by
  obtain ⟨f, fd, G, a1, a2, a3, a4, bb⟩ := F.ex
  intro pins s σ H u v ov iv Q I ru rv h
  obtain ⟨a, b, dx, fs, dy, gs, rfl, rfl, ha, hb, q⟩ := h
  cases (show ov = Value.ref a from ru)
  cases (show iv = Value.ref b from rv)
  obtain ⟨_, O, _⟩ := ins_get I.hok ha
  obtain ⟨od, J, _⟩ := O.look
  obtain ⟨_, O', _⟩ := ins_get I.hok hb
  obtain ⟨od', J', _⟩ := O'.look
  obtain ⟨_, hF⟩ := I.fr
  refine PySem.W.binop_K (op := op) hF I.ok.mod.kin J J'.type c.sf a1 a2 ?_
  refine wpAny_mono (run_fn (us := [.ref a, .ref b]) (vs := [.ref a, .ref b]) G (hr.mono hj) bb .nil hx I (.cons rfl (.cons rfl .nil)) q) ?_ fun _ _ z => z
  rintro w s' ⟨z, H', I', rz, qz⟩
  exact SlX.cmpback rz ⟨z, H', I', rz, qz⟩
/-- o op= y, o an instance of the class at C -/
def ipOwn (C : Addr) (sp : Sp) (E : XK) : TIp := fun x y H Q => ∃ a dx fs, x = .ref a ∧ H a = some (.ins C dx fs) ∧ sp [x, y] H Q E
theorem ip_own {op : Operator} (c : Kls X.K X.mg x C) (F : Own X.prog X.w X.K X.mg X.base CX k C (dunderI op.info.2) ps sp) (hr : Room j X.A) (hx : Passes CX X E) (hj : k ≤ j := by first | decide | omega) : PIp X op (ipOwn C sp E) := by
  obtain ⟨f, fd, G, a1, a2, a3, a4, bb⟩ := F.ex
  intro pins s σ H u v ov iv Q I ru rv h
  obtain ⟨a, dx, fs, rfl, ha, q⟩ := h
  cases (show ov = Value.ref a from ru)
  obtain ⟨_, O, _⟩ := ins_get I.hok ha
  obtain ⟨od, J, _⟩ := O.look
  obtain ⟨_, hF⟩ := I.fr
  refine PySem.W.ksp_inplace (op := op) hF I.ok.mod.kin J c.sf a1 a2 ?_
  refine wpAny_mono (run_fn (us := [.ref a, iv]) (vs := [.ref a, v]) G (hr.mono hj) bb .nil hx I (.cons rfl (.cons rv .nil)) q) ?_ fun _ _ z => z
  rintro w s' ⟨z, H', I', rz, qz⟩
  exact SlX.cmpback rz ⟨z, H', I', rz, qz⟩
end
end Pk
set_option Elab.async false
set_option linter.all false
set_option maxRecDepth 100000
set_option maxHeartbeats 2000000
namespace Pk
open PySem PySem.Spec L2 PyProof.Rows
/-- where the package's classes stand -/
structure Cs where
  PipeError : Addr
  Wrong : Addr
  TooMany : Addr
  Overdrawn : Addr
  NotPassed : Addr
  Rule : Addr
  Account : Addr
  at_least : Addr := 0
  Twice : Addr := 0
  Unknown : Addr := 0
  Ring : Addr := 0
  BadGuide : Addr := 0
  Narrow : Addr := 0
  NoStep : Addr := 0
  Unready : Addr := 0
  NoCredit : Addr := 0
  Nothing : Addr := 0
  Broken : Addr := 0
  BadSlow : Addr := 0
  BadFrame : Addr := 0
  IsSlow : Addr := 0
  Unlike : Addr := 0
  NoDeed : Addr := 0
  Full : Addr := 0
  Refused : Addr := 0
  NoEntry : Addr := 0
  NoText : Addr := 0
  NoCommand : Addr := 0
  Plan : Addr := 0
  Machine : Addr := 0
  Sender : Addr := 0
  Reader : Addr := 0
  Standings : Addr := 0
  Layout : Addr := 0
  Book : Addr := 0
  Desk : Addr := 0
theorem iteT' {c : Bool} {A B : Prop} (e : c = true) (h : A) : if c = true then A else B := by
  rw [if_pos e]
  exact h
theorem iteF' {c : Bool} {A B : Prop} (e : c = false) (h : B) : if c = true then A else B := by
  rw [if_neg (by rw [e]; decide)]
  exact h
theorem vals_ints1 {i : Int} (t : Tok) : Vals [.int i] [.int i t] := .cons ⟨t, rfl⟩ .nil
/-! ### trees of rules -/
inductive Tr where
  | at (t q : Int)
  | or (a b : Tr)
  | and (a b : Tr)
namespace Tr
def lv : Tr → Nat
  | .at _ _ => 1
  | .or a b => lv a + lv b
  | .and a b => lv a + lv b
def dp : Tr → Nat
  | .at _ _ => 1
  | .or a b => max (dp a) (dp b) + 1
  | .and a b => max (dp a) (dp b) + 1
/-- nodes -/
def nd : Tr → Nat
  | .at _ _ => 1
  | .or a b => nd a + nd b + 1
  | .and a b => nd a + nd b + 1
def ok : Tr → Prop
  | .at t q => 1 ≤ t ∧ t ≤ 10 ^ 50 ∧ 1 ≤ q ∧ q ≤ 6
  | .or a b => ok a ∧ ok b
  | .and a b => ok a ∧ ok b
def give : Tr → Int → Int
  | .at t q, i => if t ≤ i then i - i % q else 0
  | .or a b, i => if give b i > give a i then give b i else give a i
  | .and a b, i => if give b i < give a i then give b i else give a i
def starts : Tr → List Int
  | .at t _ => [t]
  | .or a b => starts a ++ starts b
  | .and a b => starts a ++ starts b
def pd : Tr → PyData
  | .at t q => .tuple [.str "at", .int t, .int q]
  | .or a b => .tuple [.str "or", pd a, pd b]
  | .and a b => .tuple [.str "and", pd a, pd b]
theorem lv_pos : ∀ T : Tr, 1 ≤ lv T
  | .at _ _ => Nat.le_refl _
  | .or a b => Nat.le_trans (lv_pos a) (Nat.le_add_right _ _)
  | .and a b => Nat.le_trans (lv_pos a) (Nat.le_add_right _ _)
theorem dp_le : ∀ T : Tr, dp T ≤ lv T
  | .at _ _ => Nat.le_refl _
  | .or a b => by
    have h1 := dp_le a
    have h2 := dp_le b
    have h3 := lv_pos a
    have h4 := lv_pos b
    show max (dp a) (dp b) + 1 ≤ lv a + lv b
    omega
  | .and a b => by
    have h1 := dp_le a
    have h2 := dp_le b
    have h3 := lv_pos a
    have h4 := lv_pos b
    show max (dp a) (dp b) + 1 ≤ lv a + lv b
    omega
theorem dp_pos (T : Tr) : 1 ≤ dp T := by cases T <;> (unfold dp; omega)
theorem starts_len : ∀ T : Tr, (starts T).length = lv T
  | .at _ _ => rfl
  | .or a b => by show (starts a ++ starts b).length = _; rw [List.length_append, starts_len a, starts_len b]; rfl
  | .and a b => by show (starts a ++ starts b).length = _; rw [List.length_append, starts_len a, starts_len b]; rfl
/-- a tree as data: its depth, its text -/
theorem pd_depth : ∀ T : Tr, (pd T).depth ≤ dp T
  | .at t q => by show (PyData.tuple [.str "at", .int t, .int q]).depth ≤ 1; simp [PyData.depth, PyData.depthAll]
  | .or a b => by
    have h1 := pd_depth a
    have h2 := pd_depth b
    show (PyData.tuple [.str "or", pd a, pd b]).depth ≤ max (dp a) (dp b) + 1
    simp only [PyData.depth, PyData.depthAll]
    omega
  | .and a b => by
    have h1 := pd_depth a
    have h2 := pd_depth b
    show (PyData.tuple [.str "and", pd a, pd b]).depth ≤ max (dp a) (dp b) + 1
    simp only [PyData.depth, PyData.depthAll]
    omega
theorem pd_lay : ∀ T : Tr, (pd T).canLay0 = true
  | .at t q => by show (PyData.tuple [.str "at", .int t, .int q]).canLay0 = true; simp only [PyData.canLay0, PyData.canLayAll0]; decide +kernel
  | .or a b => by
    show (PyData.tuple [.str "or", pd a, pd b]).canLay0 = true
    simp only [PyData.canLay0, PyData.canLayAll0, pd_lay a, pd_lay b]; decide +kernel
  | .and a b => by
    show (PyData.tuple [.str "and", pd a, pd b]).canLay0 = true
    simp only [PyData.canLay0, PyData.canLayAll0, pd_lay a, pd_lay b]; decide +kernel
theorem log_ok {n : Int} (h0 : 0 ≤ n) (h1 : n ≤ 10 ^ 100) : n.natAbs.log2 < 1920 := by
  have h2 : n.natAbs < 2 ^ 1920 := by
    have z : n.natAbs ≤ 10 ^ 100 := by omega
    have z2 : (10 : Nat) ^ 100 < 2 ^ 1920 := by decide +kernel
    omega
  by_cases e : n.natAbs = 0
  · rw [e]; decide
  · exact (Nat.log2_lt e).mpr h2
theorem pd_show : ∀ T : Tr, ok T → (pd T).showable = true
  | .at t q, h => by
    obtain ⟨h1, h2, h3, h4⟩ := h
    show (PyData.tuple [.str "at", .int t, .int q]).showable = true
    have e1 : decide (t.natAbs.log2 < 1920) = true := decide_eq_true (log_ok (by omega) (by omega))
    have e2 : decide (q.natAbs.log2 < 1920) = true := decide_eq_true (log_ok (by omega) (by omega))
    simp only [PyData.showable, PyData.showableAll, e1, e2]; decide
  | .or a b, h => by
    show (PyData.tuple [.str "or", pd a, pd b]).showable = true
    simp only [PyData.showable, PyData.showableAll, pd_show a h.1, pd_show b h.2]; decide
  | .and a b, h => by
    show (PyData.tuple [.str "and", pd a, pd b]).showable = true
    simp only [PyData.showable, PyData.showableAll, pd_show a h.1, pd_show b h.2]; decide
theorem pd_siz : ∀ T : Tr, siz (pd T) + 100 ≤ 5000 * lv T
  | .at t q => by
    show siz (PyData.tuple [.str "at", .int t, .int q]) + 100 ≤ 5000 * 1
    have e : ((Str.ofString "at").length) = 2 := rfl
    simp only [siz, sizL]
    omega
  | .or a b => by
    have h1 := pd_siz a
    have h2 := pd_siz b
    have h3 := lv_pos a
    show siz (PyData.tuple [.str "or", pd a, pd b]) + 100 ≤ 5000 * (lv a + lv b)
    have e : ((Str.ofString "or").length) = 2 := rfl
    simp only [siz, sizL]
    omega
  | .and a b => by
    have h1 := pd_siz a
    have h2 := pd_siz b
    have h3 := lv_pos a
    show siz (PyData.tuple [.str "and", pd a, pd b]) + 100 ≤ 5000 * (lv a + lv b)
    have e : ((Str.ofString "and").length) = 3 := rfl
    simp only [siz, sizL]
    omega
end Tr
/-! ### trees in the heap -/
def TrAt (K : PySem.W.Frag) (H : Hp) : V → Tr → Prop
  | v, .at t q => ∃ a, v = .ref a ∧ SqT K H a [.str "at", .int t, .int q]
  | v, .or x y => ∃ a u w, v = .ref a ∧ SqT K H a [.str "or", u, w] ∧ TrAt K H u x ∧ TrAt K H w y
  | v, .and x y => ∃ a u w, v = .ref a ∧ SqT K H a [.str "and", u, w] ∧ TrAt K H u x ∧ TrAt K H w y
/-- tuples stay -/
def Tups (K : PySem.W.Frag) (H H' : Hp) : Prop := ∀ a xs, SqT K H a xs → SqT K H' a xs
section
variable {K : PySem.W.Frag} {H H' : Hp} {v : V} {T : Tr}
theorem TrAt.mono (s : Tups K H H') : ∀ {T : Tr} {v : V}, TrAt K H v T → TrAt K H' v T
  | .at t q, _, ⟨a, e, h⟩ => ⟨a, e, s _ _ h⟩
  | .or x y, _, ⟨a, u, w, e, h, h1, h2⟩ => ⟨a, u, w, e, s _ _ h, TrAt.mono s h1, TrAt.mono s h2⟩
  | .and x y, _, ⟨a, u, w, e, h, h1, h2⟩ => ⟨a, u, w, e, s _ _ h, TrAt.mono s h1, TrAt.mono s h2⟩
theorem Tups.same (s : Same H H') : Tups K H H' := fun a xs h => by
  rcases h with (h | ⟨o, h⟩) | h
  · exact .inl (.inl (s _ _ h))
  · exact .inl (.inr ⟨o, s _ _ h⟩)
  · exact .inr h
theorem Tups.kp {b : Addr} {ys : List V} (k : Kp b H H') (hb : H b = some (.lst ys)) : Tups K H H' := fun a xs h => k.tup hb h
theorem Tups.trans {H2 : Hp} (a : Tups K H H') (b : Tups K H' H2) : Tups K H H2 := fun x xs h => b x xs (a x xs h)
/-- an object that is no tuple is written -/
theorem Tups.put {p : Addr} {o u : HO} (h : H p = some u) (nt : ∀ xs, u ≠ .tup xs) (nf : ∀ ob xs, u ≠ .frz ob (.tup xs)) : Tups K H (upd H p o) := fun a xs q => by
  rcases q with (q | ⟨ob, q⟩) | q
  · exact .inl (.inl (by rw [upd_ne (ne_of q h fun e => nt _ e.symm)]; exact q))
  · exact .inl (.inr ⟨ob, by rw [upd_ne (ne_of q h fun e => nf _ _ e.symm)]; exact q⟩)
  · exact .inr q
theorem TrAt.ref (h : TrAt K H v T) : ∃ a, v = .ref a := by
  cases T with
  | «at» t q => obtain ⟨a, e, _⟩ := h; exact ⟨a, e⟩
  | or x y => obtain ⟨a, _, _, e, _⟩ := h; exact ⟨a, e⟩
  | and x y => obtain ⟨a, _, _, e, _⟩ := h; exact ⟨a, e⟩
theorem TrAt.dp : ∀ {T : Tr} {v : V}, TrAt K H v T → Dp K H v T.pd
  | .at t q, _, ⟨a, e, h⟩ => by subst e; exact .tup h (.cons (.str _) (.cons (.int _) (.cons (.int _) .nil)))
  | .or x y, _, ⟨a, u, w, e, h, h1, h2⟩ => by subst e; exact .tup h (.cons (.str _) (.cons (TrAt.dp h1) (.cons (TrAt.dp h2) .nil)))
  | .and x y, _, ⟨a, u, w, e, h, h1, h2⟩ => by subst e; exact .tup h (.cons (.str _) (.cons (TrAt.dp h1) (.cons (TrAt.dp h2) .nil)))
/-- what a tree's tuple is -/
theorem TrAt.tuple (h : TrAt K H v T) : ∃ a w x y, v = .ref a ∧ SqT K H a [.str w, x, y] ∧
    ((w = "at" ∧ ∃ t q, T = .at t q ∧ x = .int t ∧ y = .int q) ∨ (w = "or" ∧ ∃ A B, T = .or A B ∧ TrAt K H x A ∧ TrAt K H y B) ∨ (w = "and" ∧ ∃ A B, T = .and A B ∧ TrAt K H x A ∧ TrAt K H y B)) := by
  cases T with
  | «at» t q => obtain ⟨a, e, s⟩ := h; exact ⟨a, _, _, _, e, s, .inl ⟨rfl, t, q, rfl, rfl, rfl⟩⟩
  | or x y => obtain ⟨a, u, w, e, s, h1, h2⟩ := h; exact ⟨a, _, _, _, e, s, .inr (.inl ⟨rfl, x, y, rfl, h1, h2⟩)⟩
  | and x y => obtain ⟨a, u, w, e, s, h1, h2⟩ := h; exact ⟨a, _, _, _, e, s, .inr (.inr ⟨rfl, x, y, rfl, h1, h2⟩)⟩
end
end Pk
set_option Elab.async false
set_option linter.all false
set_option maxRecDepth 100000
set_option maxHeartbeats 2000000
namespace Pk
open PySem PySem.Spec L2 PyProof.Rows
section
variable {K : PySem.W.Frag} {C : Cs} {vs : List V} {H H' : Hp} {Q : VK} {E : XK} {n : Nat}
/-! ### numbers -/
def sp_is_integer (K : PySem.W.Frag) : Sp := fun vs H Q _ => ∃ i, vs = [.int i] ∧ Q (.bl true) H
def t_is_integer (K : PySem.W.Frag) : TS :=
  (tRet (tAndV (tCB (rIsi K) (tCons (tVar 0) (tCons (tC (.ty "int")) tNil))) (tNotV (tCB (rIsi K) (tCons (tVar 0) (tCons (tC (.ty "bool")) tNil))))))
theorem ln_is_integer (h : sp_is_integer K vs H Q E) : vs.length = 1 := by obtain ⟨_, rfl, _⟩ := h; rfl
theorem kit_ii {K : PySem.W.Frag} : PySem.W.kitOne K (.type "int") (.type "int") = some true := kit_ty (by decide +kernel)
theorem kit_ib {K : PySem.W.Frag} : PySem.W.kitOne K (.type "int") (.type "bool") = some false := kit_ty (by decide +kernel)
theorem kit_tt {K : PySem.W.Frag} : PySem.W.kitOne K (.type "tuple") (.type "tuple") = some true := kit_ty (by decide +kernel)
theorem kit_ss {K : PySem.W.Frag} : PySem.W.kitOne K (.type "str") (.type "str") = some true := kit_ty (by decide +kernel)
theorem rd_is_integer (h : sp_is_integer K vs H Q E) : t_is_integer K (EndsOf Q) (start [""] vs) H := by
  obtain ⟨i, rfl, k⟩ := h
  refine ⟨_, rfl, _, _, _, _, true, rfl, .ty _, .base (.int i), kit_ii, true, rfl, ?_⟩
  exact ⟨_, rfl, _, _, _, _, false, rfl, .ty _, .base (.int i), kit_ib, false, rfl, k⟩
def sp_is_number (K : PySem.W.Frag) : Sp := fun vs H Q _ => ∃ l i, vs = [.int l, .int i] ∧ Q (.bl (decide (l ≤ i))) H
def t_is_number (K : PySem.W.Frag) : TS :=
  (tRet (tAndV (tCall (sp_is_integer K) [] E0 (tCons (tVar 1) tNil)) (tOp (rGeI) (tVar 1) (tVar 0))))
theorem ln_is_number (h : sp_is_number K vs H Q E) : vs.length = 2 := by obtain ⟨_, _, rfl, _⟩ := h; rfl
theorem rd_is_number (h : sp_is_number K vs H Q E) : t_is_number K (EndsOf Q) (start ["", ""] vs) H := by
  obtain ⟨l, i, rfl, k⟩ := h
  exact ⟨_, rfl, i, rfl, true, rfl, _, rfl, _, rfl, _, _, rfl, rfl, k⟩
def sp_is_by (K : PySem.W.Frag) : Sp := fun vs H Q _ => ∃ i, vs = [.int i] ∧ Q (.bl (decide (1 ≤ i) && decide (i ≤ 6))) H
def t_is_by (K : PySem.W.Frag) : TS :=
  (tRet (tAndV (tCall (sp_is_number K) [] E0 (tCons (tC (.int 1)) (tCons (tVar 0) tNil))) (tOp (rLeU) (tVar 0) (tC (.int 6)))))
theorem ln_is_by (h : sp_is_by K vs H Q E) : vs.length = 1 := by obtain ⟨_, rfl, _⟩ := h; rfl
theorem rd_is_by (h : sp_is_by K vs H Q E) : t_is_by K (EndsOf Q) (start [""] vs) H := by
  obtain ⟨i, rfl, k⟩ := h
  refine ⟨_, rfl, 1, i, rfl, _, rfl, ?_⟩
  cases hb : decide ((1 : Int) ≤ i) with
  | false => rw [hb] at k; exact k
  | true => rw [hb] at k; exact ⟨_, rfl, .inl ⟨_, _, rfl, rfl, k⟩⟩
/-! ### trees -/
def Tr.word : Tr → Str
  | .at _ _ => "at"
  | .or _ _ => "or"
  | .and _ _ => "and"
def Tr.isAt : Tr → Bool
  | .at _ _ => true
  | _ => false
def sp_has_word (K : PySem.W.Frag) : Sp := fun vs H Q _ => ∃ (v : V) (T : Tr) (p : Addr) (ws : List Str), vs = [v, .ref p] ∧ TrAt K H v T ∧ SqT K H p (ws.map V.str) ∧ Q (.bl (inV (.str T.word) (ws.map V.str))) H
def t_has_word (K : PySem.W.Frag) : TS :=
  (tSeq (tIfS (tOr (tNot (tB (tCB (rIsi K) (tCons (tVar 0) (tCons (tC (.ty "tuple")) tNil))))) (tTest (tOp (rNeU K) (tCB (rLenU K) (tCons (tVar 0) tNil)) (tC (.int 3))))) (tRet (tC (.bl false))) tNext)
    (tRet (tAndV (tCB (rIsi K) (tCons (tOp (rIx K) (tVar 0) (tC (.int 0))) (tCons (tC (.ty "str")) tNil))) (tOp (rInU K) (tOp (rIx K) (tVar 0) (tC (.int 0))) (tVar 1)))))
theorem ln_has_word (h : sp_has_word K vs H Q E) : vs.length = 2 := by obtain ⟨_, _, _, _, rfl, _⟩ := h; rfl
theorem flat_strs (ws : List Str) : (ws.map V.str).all flatV = true := by
  induction ws with
  | nil => rfl
  | cons x r ih => exact ih
theorem sqt_ty {a : Addr} {xs : List V} (h : SqT K H a xs) : TyX K H (.ref a) (.type "tuple") := by
  rcases h with (h | ⟨o, h⟩) | ⟨o, its, n, h, c, _⟩
  · exact .base (.tup h)
  · exact .fTuple h
  · exact .kTuple h c
theorem rd_has_word (h : sp_has_word K vs H Q E) : t_has_word K (EndsOf Q) (start ["", ""] vs) H := by
  obtain ⟨v, T, p, ws, rfl, hT, hp, k⟩ := h
  obtain ⟨a, w, x, y, rfl, s, cw⟩ := hT.tuple
  have ew : w = T.word := by
    rcases cw with ⟨rfl, _, _, rfl, _⟩ | ⟨rfl, _, _, rfl, _⟩ | ⟨rfl, _, _, rfl, _⟩ <;> rfl
  subst ew
  refine ⟨_, rfl, _, _, _, _, true, rfl, .ty _, sqt_ty s, kit_tt, true, rfl, ?_⟩
  refine ⟨_, rfl, .inl ⟨_, 3, rfl, .inr ⟨_, s, rfl⟩, .inl ⟨rfl, _, rfl, ?_⟩⟩⟩
  refine ⟨_, rfl, .inr (.inl ⟨a, _, 0, _, rfl, rfl, s, rfl, ?_⟩)⟩
  refine ⟨_, _, _, _, true, rfl, .ty _, .base (.str _), kit_ss, true, rfl, ?_⟩
  refine ⟨_, rfl, .inr (.inl ⟨a, _, 0, _, rfl, rfl, s, rfl, ?_⟩)⟩
  exact ⟨_, rfl, .inl ⟨p, _, rfl, .inr hp, rfl, flat_strs ws, k⟩⟩
def sp_is_leaf (K : PySem.W.Frag) : Sp := fun vs H Q _ => ∃ v T, vs = [v] ∧ TrAt K H v T ∧ T.ok ∧ ∀ H', Same H H' → Q (.bl T.isAt) H'
def t_is_leaf (K : PySem.W.Frag) : TS :=
  (tRet (tAndV (tCall (sp_has_word K) [] E0 (tCons (tVar 0) (tCons (tTup (tCons (tC (.str "at")) tNil)) tNil))) (tAndV (tCall (sp_is_number K) [] E0 (tCons (tC (.int 1)) (tCons (tOp (rIx K) (tVar 0) (tC (.int 1))) tNil))) (tCall (sp_is_by K) [] E0 (tCons (tOp (rIx K) (tVar 0) (tC (.int 2))) tNil)))))
theorem ln_is_leaf (h : sp_is_leaf K vs H Q E) : vs.length = 1 := by obtain ⟨_, _, rfl, _⟩ := h; rfl
theorem two_fit : (1 : Nat) ≤ sizeLine ∧ (2 : Nat) ≤ sizeLine ∧ (3 : Nat) ≤ sizeLine ∧ (4 : Nat) ≤ sizeLine := by decide
theorem rd_is_leaf (h : sp_is_leaf K vs H Q E) : t_is_leaf K (EndsOf Q) (start [""] vs) H := by
  obtain ⟨v, T, rfl, hT, ok, k⟩ := h
  refine ⟨_, rfl, two_fit.1, fun p hp => ?_⟩
  have s := same_new (o := .tup [.str "at"]) hp
  have hT' := hT.mono (Tups.same s)
  refine ⟨v, T, p, ["at"], rfl, hT', SqT.of upd_same, _, rfl, ?_⟩
  obtain ⟨a, w, x, y, rfl, sq, cw⟩ := hT'.tuple
  rcases cw with ⟨rfl, t, q, rfl, rfl, rfl⟩ | ⟨rfl, A, B, rfl, _⟩ | ⟨rfl, A, B, rfl, _⟩
  · obtain ⟨o1, o2, o3, o4⟩ := ok
    refine iteT' (show inV (V.str "at") [V.str "at"] = true by decide +kernel) ?_
    refine ⟨_, rfl, .inr (.inl ⟨a, _, 1, _, rfl, rfl, sq, rfl, 1, t, rfl, _, rfl, ?_⟩)⟩
    rw [decide_eq_true o1]
    refine iteT' rfl ?_
    refine ⟨_, rfl, .inr (.inl ⟨a, _, 2, _, rfl, rfl, sq, rfl, q, rfl, ?_⟩)⟩
    rw [decide_eq_true o3, decide_eq_true o4]
    exact k _ s
  · refine iteF' (show inV (V.str "or") [V.str "at"] = false by decide +kernel) ?_
    exact k _ s
  · refine iteF' (show inV (V.str "and") [V.str "at"] = false by decide +kernel) ?_
    exact k _ s
/-! the stack of is_tree: values and trees -/
abbrev Ps := List (V × Tr)
def Ps.lvs (zs : Ps) : Nat := (zs.map fun z => z.2.lv).sum
def Ps.nds (zs : Ps) : Nat := (zs.map fun z => z.2.nd).sum
def Ps.At (K : PySem.W.Frag) (H : Hp) (zs : Ps) : Prop := ∀ z ∈ zs, TrAt K H z.1 z.2 ∧ z.2.ok
theorem Ps.At.mono {zs : Ps} (h : Ps.At K H zs) (s : Tups K H H') : Ps.At K H' zs := fun z hz => ⟨(h z hz).1.mono s, (h z hz).2⟩
theorem Ps.lvs_app (a b : Ps) : Ps.lvs (a ++ b) = Ps.lvs a + Ps.lvs b := by unfold Ps.lvs; rw [List.map_append, List.sum_append]
theorem Ps.nds_app (a b : Ps) : Ps.nds (a ++ b) = Ps.nds a + Ps.nds b := by unfold Ps.nds; rw [List.map_append, List.sum_append]
theorem Ps.len_le : ∀ zs : Ps, zs.length ≤ Ps.lvs zs
  | [] => Nat.le_refl _
  | z :: r => by
    have h1 := Ps.len_le r
    have h2 := z.2.lv_pos
    show r.length + 1 ≤ (z.2.lv :: (r.map fun z => z.2.lv)).sum
    rw [List.sum_cons]
    unfold Ps.lvs at h1
    omega
theorem nil_or_last {α : Type} (l : List α) : l = [] ∨ ∃ r x, l = r ++ [x] := by
  cases h : l.reverse with
  | nil => left; exact List.reverse_eq_nil_iff.mp h
  | cons x r => right; exact ⟨r.reverse, x, by rw [← List.reverse_cons, ← h, List.reverse_reverse]⟩
def sp_is_tree (K : PySem.W.Frag) : Sp := fun vs H Q _ => ∃ v T, vs = [v] ∧ TrAt K H v T ∧ T.ok ∧ T.lv ≤ 6 ∧ ∀ H', Same H H' → Q (.bl true) H'
def t_is_tree (K : PySem.W.Frag) : TS :=
  (tSeq (tAsg (tLst (tCons (tVar 0) tNil)) (gName 1))
    (tSeq (tAsg (tC (.int 0)) (gName 2))
    (tSeq (tWhile (tTest (tOp (rGtI) (tCB (rLenU K) (tCons (tVar 1) tNil)) (tC (.int 0)))) (tSeq (tAsg (tBM0 K "list" rPop (tVar 1)) (gName 3))
    (Evl.tCut (tIfS (tB (tCall (sp_is_leaf K) [] E0 (tCons (tVar 3) tNil))) (tAsg (tOp (rAddU K) (tVar 2) (tC (.int 1))) (gName 2)) (tIfS (tB (tCall (sp_has_word K) [] E0 (tCons (tVar 3) (tCons (tTup (tCons (tC (.str "or")) (tCons (tC (.str "and")) tNil))) tNil)))) (tSeq (tDrop (tBM K "list" rAppend (tVar 1) (tCons (tOp (rIx K) (tVar 3) (tC (.int 1))) tNil)))
    (tDrop (tBM K "list" rAppend (tVar 1) (tCons (tOp (rIx K) (tVar 3) (tC (.int 2))) tNil)))) (tRet (tC (.bl false)))))
    (tIfS (tTest (tOp (rGtI) (tOp (rAddU K) (tVar 2) (tCB (rLenU K) (tCons (tVar 1) tNil))) (tC (.int 6)))) (tRet (tC (.bl false))) tNext))))
    (tRet (tC (.bl true))))))
theorem ln_is_tree (h : sp_is_tree K vs H Q E) : vs.length = 1 := by obtain ⟨_, _, rfl, _⟩ := h; rfl
theorem rd_is_tree (h : sp_is_tree K vs H Q E) : t_is_tree K (EndsOf Q) (start ["", "", "", ""] vs) H := by
  obtain ⟨v, T, rfl, hT, ok, l6, k⟩ := h
  refine ⟨_, rfl, two_fit.1, fun w hw => ?_⟩
  have s0 := same_new (o := .lst [v]) hw
  refine ⟨fun m σ' H' => ∃ (zs : Ps) (lf : Nat) (pt : Option V), σ' = [some v, some (.ref w), some (.int lf), pt] ∧ H' w = some (.lst (zs.map (·.1))) ∧ Ps.At K H' zs ∧ lf + zs.lvs = T.lv ∧ Same H H' ∧ m = zs.nds,
    ⟨_, [(v, T)], 0, none, rfl, upd_same, fun z hz => ?_, ?_, s0, rfl⟩, ?_⟩
  · rw [List.mem_singleton.mp hz]
    exact ⟨hT.mono (Tups.same s0), ok⟩
  · show 0 + (T.lv + 0) = T.lv
    omega
  rintro m σ' H' ⟨zs, lf, pt, rfl, hwl, hz, hl, s, rfl⟩
  refine ⟨_, rfl, .inl ⟨_, _, rfl, .inl ⟨_, SqL.of hwl, rfl⟩, _, _, rfl, rfl, _, rfl, ?_⟩⟩
  rw [List.length_map]
  rcases nil_or_last zs with rfl | ⟨rs, ⟨u, S⟩, rfl⟩
  · refine iteF' (by decide) ?_
    exact k H' s
  refine iteT' (decide_eq_true (by rw [List.length_append, List.length_singleton]; omega)) ?_
  obtain ⟨hu, hok⟩ := hz (u, S) (List.mem_append_right _ (List.mem_singleton.mpr rfl))
  have hu : TrAt K H' u S := hu
  have hok : S.ok := hok
  have e1 : (rs ++ [(u, S)]).map (·.1) = rs.map (·.1) ++ [u] := by rw [List.map_append]; rfl
  rw [e1] at hwl
  refine ⟨fun σ2 H2 => ∃ (zs : Ps) (lf : Nat) (pt : Option V), σ2 = [some v, some (.ref w), some (.int lf), pt] ∧ H2 w = some (.lst (zs.map (·.1))) ∧ Ps.At K H2 zs ∧ lf + zs.lvs = T.lv ∧ Same H H2 ∧ zs.nds < Ps.nds (rs ++ [(u, S)]), fun σ2 H2 ⟨zs, lf, pt, a1, a2, a3, a4, a5, a6⟩ => ⟨_, a6, zs, lf, pt, a1, a2, a3, a4, a5, rfl⟩, ?_⟩
  -- part = waiting.pop()
  refine ⟨_, rfl, .inl ⟨rfl, _, SqL.of hwl⟩, w, _, u, rfl, rfl, hwl, ?_, ?_⟩
  · rw [List.length_append, List.length_singleton, Nat.add_sub_cancel, List.getElem?_append_right (Nat.le_refl _), Nat.sub_self]
    rfl
  rw [List.dropLast_concat]
  have tp : Tups K H' (upd H' w (.lst (rs.map (·.1)))) := Tups.put hwl (fun _ z => nomatch z) fun _ _ z => nomatch z
  have s1 : Same H (upd H' w (.lst (rs.map (·.1)))) := fun b o e => by rw [upd_ne (ne_of_none e hw)]; exact s b o e
  have hrs : Ps.At K (upd H' w (.lst (rs.map (·.1)))) rs := fun z q => ⟨(hz z (List.mem_append_left _ q)).1.mono tp, (hz z (List.mem_append_left _ q)).2⟩
  have hu1 := hu.mono tp
  have hw1 : (upd H' w (.lst (rs.map (·.1)))) w = some (.lst (rs.map (·.1))) := upd_same
  rw [Ps.lvs_app] at hl
  have hS : Ps.lvs [(u, S)] = S.lv := by show S.lv + 0 = S.lv; omega
  have hN : Ps.nds [(u, S)] = S.nd := by show S.nd + 0 = S.nd; omega
  rw [hS] at hl
  rw [Ps.nds_app, hN]
  generalize upd H' w (.lst (rs.map (·.1))) = G at s1 hrs hu1 hw1 ⊢
  -- is it a leaf, is it two trees
  refine ⟨fun σ2 H2 => ∃ (zs : Ps) (lf : Nat), σ2 = [some v, some (.ref w), some (.int lf), some u] ∧ H2 w = some (.lst (zs.map (·.1))) ∧ Ps.At K H2 zs ∧ lf + zs.lvs = T.lv ∧ Same H H2 ∧ Ps.nds zs < Ps.nds rs + S.nd, ?_, ?_⟩
  · refine ⟨_, rfl, u, S, rfl, hu1, hok, fun G1 g1 => ⟨_, rfl, ?_⟩⟩
    have hu2 := hu1.mono (Tups.same g1)
    obtain ⟨a, wd, x, y, rfl, sq, cw⟩ := hu2.tuple
    rcases cw with ⟨rfl, t, q, rfl, rfl, rfl⟩ | cw
    · refine iteT' rfl ?_
      refine ⟨_, rfl, .inl ⟨_, _, rfl, rfl, ?_⟩⟩
      exact ⟨rs, lf + 1, rfl, g1 _ _ hw1, hrs.mono (Tups.same g1), by have h1 : (Tr.at t q).lv = 1 := rfl; omega, s1.trans g1, by have h1 : (Tr.at t q).nd = 1 := rfl; omega⟩
    obtain ⟨A, B, hAB, hA, hB, oA, oB, eL, eN, hin⟩ : ∃ A B, S.isAt = false ∧ TrAt K G1 x A ∧ TrAt K G1 y B ∧ A.ok ∧ B.ok ∧ S.lv = A.lv + B.lv ∧ S.nd = A.nd + B.nd + 1 ∧ inV (.str S.word) (([("or" : Str), ("and" : Str)] : List Str).map V.str) = true := by
      rcases cw with ⟨rfl, A, B, rfl, hA, hB⟩ | ⟨rfl, A, B, rfl, hA, hB⟩
      · exact ⟨A, B, rfl, hA, hB, hok.1, hok.2, rfl, rfl, show inV (V.str "or") [V.str "or", V.str "and"] = true by decide +kernel⟩
      · exact ⟨A, B, rfl, hA, hB, hok.1, hok.2, rfl, rfl, show inV (V.str "and") [V.str "or", V.str "and"] = true by decide +kernel⟩
    refine iteF' hAB ?_
    refine ⟨_, rfl, two_fit.2.1, fun p hp => ?_⟩
    have g2 := same_new (o := .tup [.str "or", .str "and"]) hp
    refine ⟨_, S, p, ["or", "and"], rfl, hu2.mono (Tups.same g2), SqT.of upd_same, _, rfl, ?_⟩
    refine iteT' hin ?_
    have hw2 := g2 _ _ (g1 _ _ hw1)
    have sq2 := (Tups.same (K := K) g2) _ _ sq
    have hr2 := (hrs.mono (Tups.same g1)).mono (Tups.same g2)
    have hA2 := hA.mono (Tups.same g2)
    have hB2 := hB.mono (Tups.same g2)
    have s2 := s1.trans (g1.trans g2)
    generalize upd G1 p (.tup [.str "or", .str "and"]) = G2 at hw2 sq2 hr2 hA2 hB2 s2 ⊢
    have nw : H w = none := hw
    have lr : (rs.map (·.1)).length ≤ 6 := by
      rw [List.length_map]
      have z := Ps.len_le rs
      omega
    refine ⟨_, rfl, .inl ⟨rfl, _, SqL.of hw2⟩, _, rfl, .inr (.inl ⟨a, _, 1, _, rfl, rfl, sq2, rfl, ?_⟩)⟩
    refine ⟨w, _, x, rfl, rfl, hw2, small1000 (by omega), ?_⟩
    have t3 : Tups K G2 (upd G2 w (.lst (rs.map (·.1) ++ [x]))) := Tups.put hw2 (fun _ z => nomatch z) fun _ _ z => nomatch z
    refine ⟨_, rfl, .inl ⟨rfl, _, SqL.of upd_same⟩, _, rfl, .inr (.inl ⟨a, _, 2, _, rfl, rfl, t3 _ _ sq2, rfl, ?_⟩)⟩
    refine ⟨w, _, y, rfl, rfl, upd_same, small1000 (by rw [List.length_append, List.length_singleton]; omega), ?_⟩
    rw [upd_upd]
    have t4 : Tups K G2 (upd G2 w (.lst (rs.map (·.1) ++ [x] ++ [y]))) := Tups.put hw2 (fun _ z => nomatch z) fun _ _ z => nomatch z
    refine ⟨rs ++ [(x, A), (y, B)], lf, rfl, ?_, fun z q => ?_, ?_, fun b o e => ?_, ?_⟩
    · rw [upd_same, List.map_append, List.append_assoc]
      rfl
    · rcases List.mem_append.mp q with q | q
      · exact ⟨(hr2 z q).1.mono t4, (hr2 z q).2⟩
      · rcases List.mem_cons.mp q with rfl | q
        · exact ⟨hA2.mono t4, oA⟩
        · rw [List.mem_singleton.mp q]
          exact ⟨hB2.mono t4, oB⟩
    · rw [Ps.lvs_app]
      have h1 : Ps.lvs [(x, A), (y, B)] = A.lv + B.lv := by show A.lv + (B.lv + 0) = _; omega
      omega
    · rw [upd_ne (ne_of_none e hw)]
      exact s2 b o e
    · rw [Ps.nds_app]
      have h1 : Ps.nds [(x, A), (y, B)] = A.nd + B.nd := by show A.nd + (B.nd + 0) = _; omega
      omega
  rintro σ2 H2 ⟨zs2, lf2, rfl, b2, b3, b4, b5, b6⟩
  -- not too many
  refine ⟨_, rfl, _, rfl, .inl ⟨_, _, rfl, .inl ⟨_, SqL.of b2, rfl⟩, .inl ⟨_, _, rfl, rfl, _, _, rfl, rfl, _, rfl, ?_⟩⟩⟩
  have z := Ps.len_le zs2
  refine iteF' (decide_eq_false (by rw [List.length_map]; omega)) ?_
  exact ⟨zs2, lf2, _, rfl, b2, b3, b4, b5, b6⟩
end
end Pk
set_option Elab.async false
set_option linter.all false
set_option maxRecDepth 100000
set_option maxHeartbeats 2000000
namespace Pk
open PySem PySem.Spec L2 PyProof.Rows
section
variable {K : PySem.W.Frag} {C : Cs} {vs : List V} {H H' : Hp} {Q : VK} {E : XK} {n : Nat}
theorem g3 {i j l : Nat} {a : Addr} {σ : L2.St} {R : L2.St → Hp → Prop} {x y z : V} (s : SqT K H a [x, y, z]) (h : R (((σ.set i (some x)).set j (some y)).set l (some z)) H) :
    gTup K 3 (gCons (gName i) (gCons (gName j) (gCons (gName l) gNil))) (.ref a) σ H R := ⟨a, _, rfl, s, rfl, _, _, rfl, _, _, rfl, _, _, rfl, rfl, h⟩
theorem ifS {x y : Str} {A B : Prop} (h1 : x = y → A) (h2 : x ≠ y → B) : if decide (V.str x = V.str y) = true then A else B := by
  by_cases h : x = y
  · rw [if_pos (decide_eq_true (congrArg V.str h))]
    exact h1 h
  · rw [if_neg]
    · exact h2 h
    · intro z
      exact h (V.str.inj (of_decide_eq_true z))
theorem or_at : ("or" : Str) ≠ "at" := by decide +kernel
theorem and_at : ("and" : Str) ≠ "at" := by decide +kernel
theorem and_or : ("and" : Str) ≠ "or" := by decide +kernel
def sp_given (K : PySem.W.Frag) (n : Nat) : Sp := fun vs H Q _ => ∃ v T i, vs = [v, .int i] ∧ TrAt K H v T ∧ T.ok ∧ T.dp ≤ n ∧ Q (.int (T.give i)) H
def t_given (K : PySem.W.Frag) (n : Nat) : TS :=
  (tSeq (tAsg (tVar 0) (gTup K 3 (gCons (gName 2) (gCons (gName 3) (gCons (gName 4) gNil)))))
    (tSeq (tIfS (tTest (tOp (rEqU K) (tVar 2) (tC (.str "at")))) (tRet (tIf (tTest (tOp (rGeI) (tVar 1) (tVar 3))) (tOp (rSubI) (tVar 1) (tOp (rModI) (tVar 1) (tVar 4))) (tC (.int 0)))) tNext)
    (tSeq (tIfS (tTest (tOp (rEqU K) (tVar 2) (tC (.str "or")))) (tRet (tCB (rMax2) (tCons (tCall (sp_given K n) [] E0 (tCons (tVar 3) (tCons (tVar 1) tNil))) (tCons (tCall (sp_given K n) [] E0 (tCons (tVar 4) (tCons (tVar 1) tNil))) tNil)))) tNext)
    (tRet (tCB (rMin2) (tCons (tCall (sp_given K n) [] E0 (tCons (tVar 3) (tCons (tVar 1) tNil))) (tCons (tCall (sp_given K n) [] E0 (tCons (tVar 4) (tCons (tVar 1) tNil))) tNil)))))))
theorem no_given (h : sp_given K 0 vs H Q E) : False := by
  obtain ⟨_, T, _, _, _, _, h, _⟩ := h
  have := T.dp_pos
  omega
theorem ln_given (h : sp_given K n vs H Q E) : vs.length = 2 := by obtain ⟨_, _, _, rfl, _⟩ := h; rfl
theorem rd_given (h : sp_given K (n + 1) vs H Q E) : t_given K n (EndsOf Q) (start ["", "", "", "", ""] vs) H := by
  obtain ⟨v, T, i, rfl, hT, ok, hd, k⟩ := h
  obtain ⟨a, w, x, y, rfl, s, cw⟩ := hT.tuple
  refine ⟨_, rfl, g3 s ?_⟩
  refine ⟨_, rfl, .inl ⟨rfl, _, rfl, ?_⟩⟩
  rcases cw with ⟨rfl, t, q, rfl, rfl, rfl⟩ | ⟨rfl, A, B, rfl, hA, hB⟩ | ⟨rfl, A, B, rfl, hA, hB⟩
  · refine ifS (fun _ => ?_) (fun z => absurd rfl z)
    obtain ⟨o1, o2, o3, o4⟩ := ok
    have e : (Tr.at t q).give i = if t ≤ i then i - i % q else 0 := rfl
    rw [e] at k
    refine ⟨_, rfl, _, rfl, _, _, rfl, rfl, _, rfl, ?_⟩
    refine ifD (fun c => ?_) (fun c => ?_)
    · rw [if_pos c] at k
      exact ⟨_, rfl, _, rfl, _, rfl, _, _, rfl, rfl, (by show (0 : Int) < q; omega), _, _, rfl, rfl, k⟩
    · rw [if_neg c] at k
      exact k
  · refine ifS (fun z => absurd z or_at) (fun _ => ?_)
    refine ⟨_, rfl, .inl ⟨rfl, _, rfl, ?_⟩⟩
    refine ifS (fun _ => ?_) (fun z => absurd rfl z)
    have hd' : max A.dp B.dp + 1 ≤ n + 1 := hd
    exact ⟨_, rfl, _, rfl, x, A, i, rfl, hA, ok.1, by omega, _, rfl, _, rfl, y, B, i, rfl, hB, ok.2, by omega, _, _, rfl, k⟩
  · refine ifS (fun z => absurd z and_at) (fun _ => ?_)
    refine ⟨_, rfl, .inl ⟨rfl, _, rfl, ?_⟩⟩
    refine ifS (fun z => absurd z and_or) (fun _ => ?_)
    have hd' : max A.dp B.dp + 1 ≤ n + 1 := hd
    exact ⟨_, rfl, _, rfl, x, A, i, rfl, hA, ok.1, by omega, _, rfl, _, rfl, y, B, i, rfl, hB, ok.2, by omega, _, _, rfl, k⟩
/-- the leaves of a tree: from where on, multiples of what -/
def Tr.lvs : Tr → List (Int × Int)
  | .at t q => [(t, q)]
  | .or a b => a.lvs ++ b.lvs
  | .and a b => a.lvs ++ b.lvs
theorem Tr.lvs_len : ∀ T : Tr, T.lvs.length = T.lv
  | .at _ _ => rfl
  | .or a b => by show (a.lvs ++ b.lvs).length = _; rw [List.length_append, a.lvs_len, b.lvs_len]; rfl
  | .and a b => by show (a.lvs ++ b.lvs).length = _; rw [List.length_append, a.lvs_len, b.lvs_len]; rfl
theorem Tr.lvs_starts : ∀ T : Tr, T.lvs.map Prod.fst = T.starts
  | .at _ _ => rfl
  | .or a b => by show (a.lvs ++ b.lvs).map _ = _; rw [List.map_append, a.lvs_starts, b.lvs_starts]; rfl
  | .and a b => by show (a.lvs ++ b.lvs).map _ = _; rw [List.map_append, a.lvs_starts, b.lvs_starts]; rfl
def LeafAt (K : PySem.W.Frag) (H : Hp) (v : V) (l : Int × Int) : Prop := ∃ a, v = .ref a ∧ SqT K H a [.str "at", .int l.1, .int l.2]
def LvsAt (K : PySem.W.Frag) (H : Hp) (xs : List V) (ls : List (Int × Int)) : Prop := xs.length = ls.length ∧ ∀ (i : Nat) x l, xs[i]? = some x → ls[i]? = some l → LeafAt K H x l
theorem LvsAt.mono {xs : List V} {ls : List (Int × Int)} (h : LvsAt K H xs ls) (s : Tups K H H') : LvsAt K H' xs ls := ⟨h.1, fun i x l e1 e2 => by
  obtain ⟨a, e, q⟩ := h.2 i x l e1 e2
  exact ⟨a, e, s _ _ q⟩⟩
theorem LvsAt.app {xs ys : List V} {ls ms : List (Int × Int)} (h : LvsAt K H xs ls) (h2 : LvsAt K H ys ms) : LvsAt K H (xs ++ ys) (ls ++ ms) := by
  refine ⟨by rw [List.length_append, List.length_append, h.1, h2.1], fun i x l e1 e2 => ?_⟩
  by_cases c : i < xs.length
  · rw [List.getElem?_append_left c] at e1
    rw [List.getElem?_append_left (by rw [← h.1]; exact c)] at e2
    exact h.2 i x l e1 e2
  · rw [List.getElem?_append_right (by omega)] at e1
    rw [List.getElem?_append_right (by rw [← h.1]; omega), ← h.1] at e2
    exact h2.2 _ x l e1 e2
def sp_leaves_of (K : PySem.W.Frag) (n : Nat) : Sp := fun vs H Q _ => ∃ v T, vs = [v] ∧ TrAt K H v T ∧ T.dp ≤ n ∧ T.lv ≤ 6 ∧ ∀ p H' xs, H p = none → Same H H' → H' p = some (.lst xs) → LvsAt K H' xs T.lvs → Q (.ref p) H'
def t_leaves_of (K : PySem.W.Frag) (n : Nat) : TS :=
  (tSeq (tAsg (tVar 0) (gTup K 3 (gCons (gName 1) (gCons (gName 2) (gCons (gName 3) gNil)))))
    (tSeq (tIfS (tTest (tOp (rEqU K) (tVar 1) (tC (.str "at")))) (tRet (tLst (tCons (tVar 0) tNil))) tNext)
    (tRet (tOp (rAddU K) (tCall (sp_leaves_of K n) [] E0 (tCons (tVar 2) tNil)) (tCall (sp_leaves_of K n) [] E0 (tCons (tVar 3) tNil))))))
theorem no_leaves_of (h : sp_leaves_of K 0 vs H Q E) : False := by
  obtain ⟨_, T, _, _, h, _⟩ := h
  have := T.dp_pos
  omega
theorem ln_leaves_of (h : sp_leaves_of K n vs H Q E) : vs.length = 1 := by obtain ⟨_, _, rfl, _⟩ := h; rfl
theorem rd_leaves_of (h : sp_leaves_of K (n + 1) vs H Q E) : t_leaves_of K n (EndsOf Q) (start ["", "", "", ""] vs) H := by
  obtain ⟨v, T, rfl, hT, hd, hl, k⟩ := h
  obtain ⟨a, w, x, y, rfl, s, cw⟩ := hT.tuple
  refine ⟨_, rfl, g3 s ?_⟩
  refine ⟨_, rfl, .inl ⟨rfl, _, rfl, ?_⟩⟩
  have two : ∀ {A B : Tr}, T.lvs = A.lvs ++ B.lvs → T.lv = A.lv + B.lv → max A.dp B.dp + 1 ≤ n + 1 → TrAt K H x A → TrAt K H y B →
      tRet (tOp (rAddU K) (tCall (sp_leaves_of K n) [] E0 (tCons (tVar 2) tNil)) (tCall (sp_leaves_of K n) [] E0 (tCons (tVar 3) tNil))) (EndsOf Q) [some (.ref a), some (.str w), some x, some y] H := by
    intro A B e1 e2 hd' hA hB
    refine ⟨_, rfl, x, A, rfl, hA, by omega, by omega, fun p H1 xs hp s1 h1 l1 => ?_⟩
    refine ⟨_, rfl, y, B, rfl, hB.mono (Tups.same s1), by omega, by omega, fun p2 H2 ys hp2 s2 h2 l2 => ?_⟩
    refine .inr (.inr (.inl ⟨p, p2, _, _, rfl, rfl, s2 _ _ h1, h2, ?_, fun r hr => ?_⟩))
    · rw [l1.1, l2.1, A.lvs_len, B.lvs_len]
      exact Nat.le_of_lt (small1000 (by omega))
    · refine k r _ _ ((s1.trans s2).free hr) ((s1.trans s2).trans (same_new hr)) upd_same ?_
      rw [e1]
      exact ((l1.mono (Tups.same s2)).app l2).mono (Tups.same (same_new hr))
  rcases cw with ⟨rfl, t, q, rfl, rfl, rfl⟩ | ⟨rfl, A, B, rfl, hA, hB⟩ | ⟨rfl, A, B, rfl, hA, hB⟩
  · refine ifS (fun _ => ?_) (fun z => absurd rfl z)
    refine ⟨_, rfl, two_fit.1, fun p hp => k p _ _ hp (same_new hp) upd_same ⟨rfl, fun i x l e1 e2 => ?_⟩⟩
    match i, e1, e2 with
    | 0, e1, e2 =>
      cases e1
      cases e2
      exact ⟨a, rfl, Tups.same (same_new hp) _ _ s⟩
    | i + 1, e1, _ => exact nomatch e1
  · refine ifS (fun z => absurd z or_at) (fun _ => ?_)
    exact two rfl rfl hd hA hB
  · refine ifS (fun z => absurd z and_at) (fun _ => ?_)
    exact two rfl rfl hd hA hB
def sp_starts_of (K : PySem.W.Frag) : Sp := fun vs H Q _ => ∃ v T, vs = [v] ∧ TrAt K H v T ∧ T.dp ≤ 7 ∧ T.lv ≤ 6 ∧ ∀ p H', H p = none → Same H H' → H' p = some (.lst (T.starts.map V.int)) → Q (.ref p) H'
def t_starts_of (K : PySem.W.Frag) : TS :=
  (tRet (tLc (iList K (tCall (sp_leaves_of K 7) [] E0 (tCons (tVar 0) tNil))) (gTup K 3 (gCons (gName 1) (gCons (gName 2) (gCons (gName 1) gNil)))) tYes (tVar 2) [1, 2]))
theorem ln_starts_of (h : sp_starts_of K vs H Q E) : vs.length = 1 := by obtain ⟨_, _, rfl, _⟩ := h; rfl
theorem rd_starts_of (h : sp_starts_of K vs H Q E) : t_starts_of K (EndsOf Q) (start ["", "", ""] vs) H := by
  obtain ⟨v, T, rfl, hT, hd, hl, k⟩ := h
  refine ⟨_, rfl, v, T, rfl, hT, hd, hl, fun p G xs hp s1 h1 l1 => ?_⟩
  refine ⟨p, rfl, ⟨_, SqL.of h1⟩, fun D hD => ?_⟩
  refine lc_list (K := K) (a := p) (xs := xs) (fun i F => Same G F ∧ F D = some (.lst ((T.starts.take i).map V.int))) ⟨same_new hD, upd_same⟩ (fun i F _ s => s.1.seq (SqL.of h1)) ?_ ?_
  · rintro i x F hx ⟨s, hz⟩
    obtain ⟨lt, ex⟩ := List.getElem?_eq_some_iff.mp hx
    have lt2 : i < T.lvs.length := by rw [← l1.1]; exact lt
    obtain ⟨a, rfl, sa⟩ := l1.2 i x T.lvs[i] hx (List.getElem?_eq_getElem lt2)
    have lt3 : i < T.starts.length := by rw [T.starts_len, ← T.lvs_len]; exact lt2
    refine g3 (Tups.same s _ _ sa) ⟨rfl, ?_⟩
    refine ⟨_, rfl, _, hz, small1000 ?_, fun c o q => ?_, ?_⟩
    · rw [List.length_map, List.length_take]
      have := T.starts_len
      omega
    · rw [upd_ne (ne_of_none q hD)]
      exact s c o q
    · rw [upd_same, List.take_succ_eq_append_getElem lt3, List.map_append]
      have e : T.starts[i] = (T.lvs[i]).1 := by
        have z : (T.lvs.map Prod.fst)[i]? = T.starts[i]? := by rw [T.lvs_starts]
        rw [List.getElem?_map, List.getElem?_eq_getElem lt2, List.getElem?_eq_getElem lt3] at z
        exact (Option.some.inj z).symm
      rw [e]
      rfl
  · rintro F ⟨s, hz⟩
    rw [l1.1, T.lvs_len, ← T.starts_len, List.take_length] at hz
    exact k D F (s1.free hD) (s1.trans s) hz
/-! ### Rules -/
structure FxRule (K : PySem.W.Frag) (C : Cs) : Prop where
  cl : Cls K C.Rule
  no : NoAttr K C.Rule "_tree"
  ic : C8.InsC K C.Rule
theorem lk_tree {f : Str} {u : V} (h : (f == ("_tree" : Str)) = false) : List.lookup f [(("_tree" : Str), u)] = none := by simp [List.lookup, h]
def RuleAt (K : PySem.W.Frag) (C : Cs) (H : Hp) (v : V) (T : Tr) : Prop := ∃ a dx u, v = .ref a ∧ H a = some (.ins C.Rule dx [("_tree", u)]) ∧ TrAt K H u T ∧ T.ok ∧ T.lv ≤ 6 ∧ FxRule K C
theorem RuleAt.mono {v : V} {T : Tr} (h : RuleAt K C H v T) (s : Tups K H H') (k : ∀ a dx fs, H a = some (.ins C.Rule dx fs) → H' a = some (.ins C.Rule dx fs)) : RuleAt K C H' v T := by
  obtain ⟨a, dx, u, e, h1, h2, r⟩ := h
  exact ⟨a, dx, u, e, k _ _ _ h1, h2.mono s, r⟩
theorem RuleAt.same {v : V} {T : Tr} (h : RuleAt K C H v T) (s : Same H H') : RuleAt K C H' v T := h.mono (Tups.same s) fun _ _ _ e => s _ _ e
theorem RuleAt.kp {v : V} {T : Tr} {b : Addr} {ys : List V} (h : RuleAt K C H v T) (k : Kp b H H') (hb : H b = some (.lst ys)) : RuleAt K C H' v T := h.mono (Tups.kp k hb) fun _ _ _ e => k _ _ e (ne_of e hb fun z => nomatch z)
def sp_Rule___init__ (K : PySem.W.Frag) (C : Cs) : Sp := fun vs H Q _ => ∃ p dx u T, vs = [.ref p, u] ∧ H p = some (.ins C.Rule dx []) ∧ TrAt K H u T ∧ T.ok ∧ T.lv ≤ 6 ∧ FxRule K C ∧
  ∀ H', H' p = some (.ins C.Rule dx [("_tree", u)]) → (∀ b o, H b = some o → b ≠ p → H' b = some o) → Q .non H'
def t_Rule___init__ (K : PySem.W.Frag) : TS :=
  (tSeq (tIfS (tNot (tB (tCall (sp_is_tree K) [] E0 (tCons (tVar 1) tNil)))) tNever tNext)
    (sFld K (tVar 0) (tVar 1) "_tree"))
theorem ln_Rule___init__ (h : sp_Rule___init__ K C vs H Q E) : vs.length = 2 := by obtain ⟨_, _, _, _, rfl, _⟩ := h; rfl
theorem rd_Rule___init__ (h : sp_Rule___init__ K C vs H Q E) : t_Rule___init__ K (EndsOf Q) (start ["", ""] vs) H := by
  obtain ⟨p, dx, u, T, rfl, hp, hT, ok, l6, fx, k⟩ := h
  refine ⟨_, rfl, u, T, rfl, hT, ok, l6, fun H1 s => ⟨true, rfl, ?_⟩⟩
  refine ⟨_, rfl, _, rfl, p, _, dx, _, rfl, s _ _ hp, fx.cl, fx.no, by show 0 < 1000; decide, ?_⟩
  refine k _ upd_same fun b o e n => ?_
  rw [upd_ne n]
  exact s b o e
/-- what Rule(tree) makes -/
theorem make_rule {t : TA} {σ : L2.St} {u : V} {T : Tr} {G : Hp} (fx : FxRule K C) (ok : T.ok) (l6 : T.lv ≤ 6) (hT : TrAt K G u T) (k : ∀ x H', G x = none → Same G H' → RuleAt K C H' (.ref x) T → Q (.ref x) H') :
    ∀ x dx, G x = none → G dx = none → dx ≠ x → sp_Rule___init__ K C (.ref x :: ([u] ++ [])) (upd (upd G dx (.own x)) x (.ins C.Rule dx [])) (fun v H2 => v = .non ∧ Q (.ref x) H2) E := by
  intro x dx hx hd ne
  have s : Same G (upd (upd G dx (.own x)) x (.ins C.Rule dx [])) := fun b o e => by
    rw [upd_ne (ne_of_none e hx), upd_ne (ne_of_none e hd)]
    exact e
  refine ⟨x, dx, u, T, rfl, upd_same, hT.mono (Tups.same s), ok, l6, fx, fun H' h1 h2 => ⟨rfl, ?_⟩⟩
  have s2 : Same G H' := fun b o e => h2 b o (s b o e) (ne_of_none e hx)
  exact k x H' hx s2 ⟨x, dx, u, rfl, h1, hT.mono (Tups.same s2), ok, l6, fx⟩
theorem Tr.dp6 {T : Tr} (h : T.lv ≤ 6) : T.dp ≤ 7 := by have := T.dp_le; omega
def sp_Rule___call__ (K : PySem.W.Frag) (C : Cs) : Sp := fun vs H Q _ => ∃ v T i, vs = [v, .int i] ∧ RuleAt K C H v T ∧ Q (.int (T.give i)) H
def t_Rule___call__ (K : PySem.W.Frag) : TS :=
  (tRet (tCall (sp_given K 7) [] E0 (tCons (tFld K (tVar 0) "_tree") (tCons (tVar 1) tNil))))
theorem ln_Rule___call__ (h : sp_Rule___call__ K C vs H Q E) : vs.length = 2 := by obtain ⟨_, _, _, rfl, _⟩ := h; rfl
theorem rd_Rule___call__ (h : sp_Rule___call__ K C vs H Q E) : t_Rule___call__ K (EndsOf Q) (start ["", ""] vs) H := by
  obtain ⟨v, T, i, rfl, ⟨a, dx, u, rfl, ha, hT, ok, l6, fx⟩, k⟩ := h
  exact ⟨_, rfl, a, _, dx, _, u, rfl, ha, fx.cl, fx.no, rfl, _, rfl, u, T, i, rfl, hT, ok, Tr.dp6 l6, k⟩
def sp_Rule_rest (K : PySem.W.Frag) (C : Cs) : Sp := fun vs H Q _ => ∃ v T i, vs = [v, .int i] ∧ RuleAt K C H v T ∧ Q (.int (i - T.give i)) H
def t_Rule_rest (K : PySem.W.Frag) : TS :=
  (tRet (tOp (rSubI) (tVar 1) (tCall (sp_given K 7) [] E0 (tCons (tFld K (tVar 0) "_tree") (tCons (tVar 1) tNil)))))
theorem ln_Rule_rest (h : sp_Rule_rest K C vs H Q E) : vs.length = 2 := by obtain ⟨_, _, _, rfl, _⟩ := h; rfl
theorem rd_Rule_rest (h : sp_Rule_rest K C vs H Q E) : t_Rule_rest K (EndsOf Q) (start ["", ""] vs) H := by
  obtain ⟨v, T, i, rfl, ⟨a, dx, u, rfl, ha, hT, ok, l6, fx⟩, k⟩ := h
  exact ⟨_, rfl, _, rfl, a, _, dx, _, u, rfl, ha, fx.cl, fx.no, rfl, _, rfl, u, T, i, rfl, hT, ok, Tr.dp6 l6, _, _, rfl, rfl, k⟩
def sp_Rule_tree (K : PySem.W.Frag) (C : Cs) : Sp := fun vs H Q _ => ∃ v T, vs = [v] ∧ RuleAt K C H v T ∧ ∀ u, TrAt K H u T → Q u H
def t_Rule_tree (K : PySem.W.Frag) : TS :=
  (tRet (tFld K (tVar 0) "_tree"))
theorem ln_Rule_tree (h : sp_Rule_tree K C vs H Q E) : vs.length = 1 := by obtain ⟨_, _, rfl, _⟩ := h; rfl
theorem rd_Rule_tree (h : sp_Rule_tree K C vs H Q E) : t_Rule_tree K (EndsOf Q) (start [""] vs) H := by
  obtain ⟨v, T, rfl, ⟨a, dx, u, rfl, ha, hT, ok, l6, fx⟩, k⟩ := h
  exact ⟨_, rfl, a, _, dx, _, u, rfl, ha, fx.cl, fx.no, rfl, k u hT⟩
def Tr.join (w : Str) (A B : Tr) : Tr := if w = "or" then .or A B else .and A B
theorem Tr.join_lv (w : Str) (A B : Tr) : (Tr.join w A B).lv = A.lv + B.lv := by unfold Tr.join; split <;> rfl
theorem Tr.join_ok {w : Str} {A B : Tr} (a : A.ok) (b : B.ok) : (Tr.join w A B).ok := by unfold Tr.join; split <;> exact ⟨a, b⟩
def sp_joined (K : PySem.W.Frag) (C : Cs) : Sp := fun vs H Q _ => ∃ (w : Str) (u v : V) (A B : Tr), vs = [.str w, u, v] ∧ (w = "or" ∨ w = "and") ∧ TrAt K H u A ∧ TrAt K H v B ∧ A.ok ∧ B.ok ∧ A.lv + B.lv ≤ 6 ∧ FxRule K C ∧
  ∀ x H', H x = none → Same H H' → RuleAt K C H' (.ref x) (Tr.join w A B) → Q (.ref x) H'
def t_joined (K : PySem.W.Frag) (C : Cs) : TS :=
  (tSeq (tIfS (tTest (tOp (rGtI) (tOp (rAddU K) (tCB (rLenU K) (tCons (tCall (sp_starts_of K) [] E0 (tCons (tVar 1) tNil)) tNil)) (tCB (rLenU K) (tCons (tCall (sp_starts_of K) [] E0 (tCons (tVar 2) tNil)) tNil))) (tC (.int 6)))) tNever tNext)
    (tRet (tMake C.Rule (sp_Rule___init__ K C) [] E0 (tCons (tTup (tCons (tVar 0) (tCons (tVar 1) (tCons (tVar 2) tNil)))) tNil))))
theorem ln_joined (h : sp_joined K C vs H Q E) : vs.length = 3 := by obtain ⟨_, _, _, _, _, rfl, _⟩ := h; rfl
theorem rd_joined (h : sp_joined K C vs H Q E) : t_joined K C (EndsOf Q) (start ["", "", ""] vs) H := by
  obtain ⟨w, u, v, A, B, rfl, hw, hA, hB, oA, oB, l6, fx, k⟩ := h
  refine ⟨_, rfl, u, A, rfl, hA, Tr.dp6 (by omega), by omega, fun p H1 hp s1 h1 => ?_⟩
  refine .inl ⟨_, _, rfl, .inl ⟨_, SqL.of h1, rfl⟩, ?_⟩
  refine ⟨_, rfl, v, B, rfl, hB.mono (Tups.same s1), Tr.dp6 (by omega), by omega, fun p2 H2 hp2 s2 h2 => ?_⟩
  refine .inl ⟨_, _, rfl, .inl ⟨_, SqL.of h2, rfl⟩, .inl ⟨_, _, rfl, rfl, _, _, rfl, rfl, _, rfl, ?_⟩⟩
  rw [List.length_map, List.length_map, A.starts_len, B.starts_len]
  refine iteF' (decide_eq_false (by omega)) ?_
  have s := s1.trans s2
  refine ⟨_, rfl, _, rfl, _, rfl, two_fit.2.2.1, fun q hq => ?_⟩
  have s3 := same_new (o := .tup [.str w, u, v]) hq
  have hT : TrAt K (upd H2 q (.tup [.str w, u, v])) (.ref q) (Tr.join w A B) := by
    unfold Tr.join
    rcases hw with rfl | rfl
    · rw [if_pos rfl]
      exact ⟨q, u, v, rfl, SqT.of upd_same, hA.mono (Tups.same (s.trans s3)), hB.mono (Tups.same (s.trans s3))⟩
    · rw [if_neg and_or]
      exact ⟨q, u, v, rfl, SqT.of upd_same, hA.mono (Tups.same (s.trans s3)), hB.mono (Tups.same (s.trans s3))⟩
  exact make_rule (t := tNil) (σ := []) fx (Tr.join_ok oA oB) (by rw [Tr.join_lv]; exact l6) hT fun x H' hx s4 r => k x H' ((s.trans s3).free hx) ((s.trans s3).trans s4) r
def sp_Rule___or__ (K : PySem.W.Frag) (C : Cs) : Sp := fun vs H Q _ => ∃ u v A B, vs = [u, v] ∧ RuleAt K C H u A ∧ RuleAt K C H v B ∧ A.lv + B.lv ≤ 6 ∧ ∀ x H', H x = none → Same H H' → RuleAt K C H' (.ref x) (.or A B) → Q (.ref x) H'
def sp_Rule___and__ (K : PySem.W.Frag) (C : Cs) : Sp := fun vs H Q _ => ∃ u v A B, vs = [u, v] ∧ RuleAt K C H u A ∧ RuleAt K C H v B ∧ A.lv + B.lv ≤ 6 ∧ ∀ x H', H x = none → Same H H' → RuleAt K C H' (.ref x) (.and A B) → Q (.ref x) H'
def t_Rule___or__ (K : PySem.W.Frag) (C : Cs) : TS :=
  (tRet (tCall (sp_joined K C) [] E0 (tCons (tC (.str "or")) (tCons (tFld K (tVar 0) "_tree") (tCons (tFld K (tVar 1) "_tree") tNil)))))
def t_Rule___and__ (K : PySem.W.Frag) (C : Cs) : TS :=
  (tRet (tCall (sp_joined K C) [] E0 (tCons (tC (.str "and")) (tCons (tFld K (tVar 0) "_tree") (tCons (tFld K (tVar 1) "_tree") tNil)))))
theorem ln_Rule___or__ (h : sp_Rule___or__ K C vs H Q E) : vs.length = 2 := by obtain ⟨_, _, _, _, rfl, _⟩ := h; rfl
theorem ln_Rule___and__ (h : sp_Rule___and__ K C vs H Q E) : vs.length = 2 := by obtain ⟨_, _, _, _, rfl, _⟩ := h; rfl
theorem rd_Rule___or__ (h : sp_Rule___or__ K C vs H Q E) : t_Rule___or__ K C (EndsOf Q) (start ["", ""] vs) H := by
  obtain ⟨u, v, A, B, rfl, ⟨a, dx, x, rfl, ha, hA, oA, _, fx⟩, ⟨b, dy, y, rfl, hb, hB, oB, _, _⟩, l6, k⟩ := h
  refine ⟨_, rfl, a, _, dx, _, x, rfl, ha, fx.cl, fx.no, rfl, _, rfl, b, _, dy, _, y, rfl, hb, fx.cl, fx.no, rfl, ?_⟩
  exact ⟨"or", x, y, A, B, rfl, .inl rfl, hA, hB, oA, oB, l6, fx, fun r H' hr s q => k r H' hr s (by unfold Tr.join at q; rw [if_pos rfl] at q; exact q)⟩
theorem rd_Rule___and__ (h : sp_Rule___and__ K C vs H Q E) : t_Rule___and__ K C (EndsOf Q) (start ["", ""] vs) H := by
  obtain ⟨u, v, A, B, rfl, ⟨a, dx, x, rfl, ha, hA, oA, _, fx⟩, ⟨b, dy, y, rfl, hb, hB, oB, _, _⟩, l6, k⟩ := h
  refine ⟨_, rfl, a, _, dx, _, x, rfl, ha, fx.cl, fx.no, rfl, _, rfl, b, _, dy, _, y, rfl, hb, fx.cl, fx.no, rfl, ?_⟩
  exact ⟨"and", x, y, A, B, rfl, .inr rfl, hA, hB, oA, oB, l6, fx, fun r H' hr s q => k r H' hr s (by unfold Tr.join at q; rw [if_neg and_or] at q; exact q)⟩
def sp_at_least (K : PySem.W.Frag) (C : Cs) : Sp := fun vs H Q _ => ∃ t q, vs = [.int t, .int q] ∧ (Tr.at t q).ok ∧ FxRule K C ∧ ∀ x H', H x = none → Same H H' → RuleAt K C H' (.ref x) (.at t q) → Q (.ref x) H'
def t_at_least (K : PySem.W.Frag) (C : Cs) : TS :=
  (tSeq (tIfS (tNot (tB (tCall (sp_is_number K) [] E0 (tCons (tC (.int 1)) (tCons (tVar 0) tNil))))) tNever tNext)
    (tSeq (tIfS (tNot (tB (tCall (sp_is_by K) [] E0 (tCons (tVar 1) tNil)))) tNever tNext)
    (tRet (tMake C.Rule (sp_Rule___init__ K C) [] E0 (tCons (tTup (tCons (tC (.str "at")) (tCons (tVar 0) (tCons (tVar 1) tNil)))) tNil)))))
theorem ln_at_least (h : sp_at_least K C vs H Q E) : vs.length = 2 := by obtain ⟨_, _, rfl, _⟩ := h; rfl
theorem rd_at_least (h : sp_at_least K C vs H Q E) : t_at_least K C (EndsOf Q) (start ["", ""] vs) H := by
  obtain ⟨t, q, rfl, ok, fx, k⟩ := h
  obtain ⟨o1, o2, o3, o4⟩ := id ok
  refine ⟨_, rfl, 1, t, rfl, _, rfl, ?_⟩
  rw [decide_eq_true o1]
  refine ⟨_, rfl, q, rfl, _, rfl, ?_⟩
  rw [decide_eq_true o3, decide_eq_true o4]
  refine ⟨_, rfl, _, rfl, two_fit.2.2.1, fun p hp => ?_⟩
  have s := same_new (o := .tup [.str "at", .int t, .int q]) hp
  exact make_rule (t := tNil) (σ := []) fx ok (by show 1 ≤ 6; decide) ⟨p, rfl, SqT.of upd_same⟩ fun x H' hx s2 r => k x H' (s.free hx) (s.trans s2) r
end
end Pk
set_option Elab.async false
set_option linter.all false
set_option maxRecDepth 100000
set_option maxHeartbeats 2000000
namespace Pk
open PySem PySem.Spec L2 PyProof.Rows
section
variable {K : PySem.W.Frag} {C : Cs} {vs : List V} {H H' : Hp} {Q : VK} {E : XK} {n : Nat}
def sp_law_alike (K : PySem.W.Frag) : Sp := fun vs H Q _ => ∃ x y d, vs = [x, y] ∧ Dp K H x d ∧ Dp K H y d ∧ Good d ∧ Q (.bl true) H
def t_law_alike (K : PySem.W.Frag) : TS :=
  (tRet (tAndV (tOp (rEqU K) (tVar 0) (tVar 1)) (tOp (rEqU K) (tCB (rRepr K) (tCons (tVar 0) tNil)) (tCB (rRepr K) (tCons (tVar 1) tNil)))))
theorem ln_law_alike (h : sp_law_alike K vs H Q E) : vs.length = 2 := by obtain ⟨_, _, _, rfl, _⟩ := h; rfl
theorem rd_law_alike (h : sp_law_alike K vs H Q E) : t_law_alike K (EndsOf Q) (start ["", ""] vs) H := by
  obtain ⟨x, y, d, rfl, hx, hy, g, k⟩ := h
  refine ⟨_, rfl, _, rfl, .inr ⟨d, d, hx, hy, g.sh, g.sh, _, rfl, ?_⟩⟩
  rw [g.same]
  refine ⟨_, rfl, x, d, rfl, hx, g, _, rfl, y, d, rfl, hy, g, .inl ⟨rfl, ?_⟩⟩
  rw [decide_eq_true rfl]
  exact k
theorem pick2 {x y : V} {v : Int} (h0 : 0 ≤ v) (h1 : v < 2) : ∃ z, atI [x, y] v = some z ∧ ((v = 0 ∧ z = x) ∨ (v = 1 ∧ z = y)) := by
  rcases (by omega : v = 0 ∨ v = 1) with rfl | rfl
  · exact ⟨x, rfl, .inl ⟨rfl, rfl⟩⟩
  · exact ⟨y, rfl, .inr ⟨rfl, rfl⟩⟩
def sp_law_draw_size (K : PySem.W.Frag) : Sp := fun vs H Q _ => ∃ b l top sc, vs = [.ref b, .int top, .int sc] ∧ Bag H b l ∧ 1 ≤ top ∧ top ≤ 1000 ∧ 1 ≤ sc ∧ ∀ v H', 1 ≤ v → v ≤ top * sc → Bag H' b l → Kp b H H' → Q (.int v) H'
def t_law_draw_size (K : PySem.W.Frag) : TS :=
  (tRet (tOp (rMulU K) (tOp (rAddU K) (tC (.int 1)) (tCall (sp_law_take K) [] E0 (tCons (tVar 0) (tCons (tVar 1) tNil)))) (tOp (rIx K) (tLst (tCons (tC (.int 1)) (tCons (tVar 2) tNil))) (tCall (sp_law_take K) [] E0 (tCons (tVar 0) (tCons (tC (.int 2)) tNil))))))
theorem ln_law_draw_size (h : sp_law_draw_size K vs H Q E) : vs.length = 3 := by obtain ⟨_, _, _, _, rfl, _⟩ := h; rfl
theorem rd_law_draw_size (h : sp_law_draw_size K vs H Q E) : t_law_draw_size K (EndsOf Q) (start ["", "", ""] vs) H := by
  obtain ⟨b, l, top, sc, rfl, B, t1, t2, s1, k⟩ := h
  refine ⟨_, rfl, _, rfl, b, l, top, rfl, B, by omega, by omega, fun r H1 r0 r1 B1 k1 => ?_⟩
  refine .inl ⟨_, _, rfl, rfl, _, rfl, two_fit.2.1, fun p hp => ?_⟩
  have k2 := k1.laid (o := .lst [.int 1, .int sc]) hp
  refine ⟨_, rfl, b, l, 2, rfl, B1.same (same_new hp), by decide, by decide, fun j H2 j0 j1 B2 k3 => ?_⟩
  have hp2 : H2 p = some (.lst [.int 1, .int sc]) := by
    refine k3 p _ upd_same ?_
    obtain ⟨ys, hb⟩ := B1.at
    exact (ne_of_none hb hp).symm
  obtain ⟨z, hz, cz⟩ := pick2 (x := .int 1) (y := .int sc) j0 j1
  refine .inl ⟨p, _, j, z, rfl, rfl, SqL.of hp2, hz, ?_⟩
  rcases cz with ⟨_, rfl⟩ | ⟨_, rfl⟩
  · refine .inl ⟨_, _, rfl, rfl, .inl (.inl (by omega)), ?_⟩
    refine k _ _ (by omega) ?_ B2 (k2.trans k3)
    have : top * 1 ≤ top * sc := Int.mul_le_mul_of_nonneg_left s1 (by omega)
    omega
  · refine .inl ⟨_, _, rfl, rfl, .inl (.inl (by omega)), ?_⟩
    have h1 : (1 + r) * sc ≤ top * sc := Int.mul_le_mul_of_nonneg_right (by omega) (by omega)
    have h2 : 1 * 1 ≤ (1 + r) * sc := Int.mul_le_mul (by omega) s1 (by omega) (by omega)
    exact k _ _ (by omega) h1 B2 (k2.trans k3)
theorem Tr.give_or (a b : Tr) (i : Int) : (Tr.or a b).give i = if b.give i > a.give i then b.give i else a.give i := rfl
theorem Tr.give_and (a b : Tr) (i : Int) : (Tr.and a b).give i = if b.give i < a.give i then b.give i else a.give i := rfl
def sp_law_give (K : PySem.W.Frag) (n : Nat) : Sp := fun vs H Q _ => ∃ v T i, vs = [v, .int i] ∧ TrAt K H v T ∧ T.ok ∧ T.dp ≤ n ∧ ∀ H', Same H H' → Q (.int (T.give i)) H'
def t_law_give (K : PySem.W.Frag) (n : Nat) : TS :=
  (tSeq (tAsg (tVar 0) (gTup K 3 (gCons (gName 2) (gCons (gName 3) (gCons (gName 4) gNil)))))
    (tSeq (tIfS (tTest (tOp (rEqU K) (tVar 2) (tC (.str "at")))) (tRet (tIf (tTest (tOp (rGeI) (tVar 1) (tVar 3))) (tOp (rSubI) (tVar 1) (tOp (rModI) (tCB (rIntU) (tCons (tVar 1) tNil)) (tVar 4))) (tC (.int 0)))) tNext)
    (tSeq (tAsg (tLst (tCons (tCall (sp_law_give K n) [] E0 (tCons (tVar 3) (tCons (tVar 1) tNil))) (tCons (tCall (sp_law_give K n) [] E0 (tCons (tVar 4) (tCons (tVar 1) tNil))) tNil))) (gName 5))
    (tRet (tIf (tTest (tOp (rEqU K) (tVar 2) (tC (.str "or")))) (tCB (rMax K) (tCons (tVar 5) tNil)) (tCB (rMin K) (tCons (tVar 5) tNil)))))))
theorem no_law_give (h : sp_law_give K 0 vs H Q E) : False := by
  obtain ⟨_, T, _, _, _, _, h, _⟩ := h
  have := T.dp_pos
  omega
theorem ln_law_give (h : sp_law_give K n vs H Q E) : vs.length = 2 := by obtain ⟨_, _, _, rfl, _⟩ := h; rfl
theorem rd_law_give (h : sp_law_give K (n + 1) vs H Q E) : t_law_give K n (EndsOf Q) (start ["", "", "", "", "", ""] vs) H := by
  obtain ⟨v, T, i, rfl, hT, ok, hd, k⟩ := h
  obtain ⟨a, w, x, y, rfl, s, cw⟩ := hT.tuple
  refine ⟨_, rfl, g3 s ?_⟩
  refine ⟨_, rfl, .inl ⟨rfl, _, rfl, ?_⟩⟩
  rcases cw with ⟨rfl, t, q, rfl, rfl, rfl⟩ | ⟨rfl, A, B, rfl, hA, hB⟩ | ⟨rfl, A, B, rfl, hA, hB⟩
  · refine ifS (fun _ => ?_) (fun z => absurd rfl z)
    obtain ⟨o1, o2, o3, o4⟩ := ok
    have k := k H (Same.refl H)
    have e : (Tr.at t q).give i = if t ≤ i then i - i % q else 0 := rfl
    rw [e] at k
    refine ⟨_, rfl, _, rfl, _, _, rfl, rfl, _, rfl, ?_⟩
    refine ifD (fun c => ?_) (fun c => ?_)
    · rw [if_pos c] at k
      exact ⟨_, rfl, _, rfl, .inl (.inl ⟨_, rfl, _, rfl, _, _, rfl, rfl, (by show (0 : Int) < q; omega), _, _, rfl, rfl, k⟩)⟩
    · rw [if_neg c] at k
      exact k
  · refine ifS (fun z => absurd z or_at) (fun _ => ?_)
    have hd' : max A.dp B.dp + 1 ≤ n + 1 := hd
    refine ⟨_, rfl, _, rfl, x, A, i, rfl, hA, ok.1, by omega, fun H1 s1 => ?_⟩
    refine ⟨_, rfl, _, rfl, y, B, i, rfl, hB.mono (Tups.same s1), ok.2, by omega, fun H2 s2 => ⟨two_fit.2.1, fun p hp => ?_⟩⟩
    refine ⟨_, rfl, .inl ⟨rfl, _, rfl, ?_⟩⟩
    refine ifS (fun _ => ?_) (fun z => absurd rfl z)
    refine ⟨_, rfl, p, [A.give i, B.give i], rfl, SqL.of upd_same, Nat.succ_pos _, fun m hm hy => ?_⟩
    have e : m = (Tr.or A B).give i := by
      rw [Tr.give_or]
      have h1 := hy (A.give i) (List.mem_cons_self ..)
      have h2 := hy (B.give i) (List.mem_cons_of_mem _ (List.mem_cons_self ..))
      rcases List.mem_cons.mp hm with rfl | hm
      · split <;> omega
      · have := List.mem_singleton.mp hm
        split <;> omega
    rw [e]
    exact k _ ((s1.trans s2).trans (same_new hp))
  · refine ifS (fun z => absurd z and_at) (fun _ => ?_)
    have hd' : max A.dp B.dp + 1 ≤ n + 1 := hd
    refine ⟨_, rfl, _, rfl, x, A, i, rfl, hA, ok.1, by omega, fun H1 s1 => ?_⟩
    refine ⟨_, rfl, _, rfl, y, B, i, rfl, hB.mono (Tups.same s1), ok.2, by omega, fun H2 s2 => ⟨two_fit.2.1, fun p hp => ?_⟩⟩
    refine ⟨_, rfl, .inl ⟨rfl, _, rfl, ?_⟩⟩
    refine ifS (fun z => absurd z and_or) (fun _ => ?_)
    refine ⟨_, rfl, p, [A.give i, B.give i], rfl, SqL.of upd_same, Nat.succ_pos _, fun m hm hy => ?_⟩
    have e : m = (Tr.and A B).give i := by
      rw [Tr.give_and]
      have h1 := hy (A.give i) (List.mem_cons_self ..)
      have h2 := hy (B.give i) (List.mem_cons_of_mem _ (List.mem_cons_self ..))
      rcases List.mem_cons.mp hm with rfl | hm
      · split <;> omega
      · have := List.mem_singleton.mp hm
        split <;> omega
    rw [e]
    exact k _ ((s1.trans s2).trans (same_new hp))
/-! ### a drawn rule -/
def Tr.le (m : Int) : Tr → Prop
  | .at t _ => t ≤ m
  | .or a b => le m a ∧ le m b
  | .and a b => le m a ∧ le m b
theorem Bag.nb {b l D : Addr} (B : Bag H b l) (h : H D = none) : D ≠ b := by
  obtain ⟨ys, hb⟩ := B.at
  exact (ne_of_none hb h).symm
theorem Bag.nl {b l D : Addr} (B : Bag H b l) (h : H D = none) : D ≠ l := by
  obtain ⟨ys, hb⟩ := B.at2
  exact (ne_of_none hb h).symm
theorem Bag.tups {b l : Addr} (B : Bag H b l) (k : Kp b H H') : Tups K H H' := by
  obtain ⟨ys, hb⟩ := B.at
  exact Tups.kp k hb
def Ps.Ok (K : PySem.W.Frag) (H : Hp) (m : Int) (zs : Ps) : Prop := ∀ z ∈ zs, TrAt K H z.1 z.2 ∧ z.2.ok ∧ z.2.le m
theorem Ps.Ok.mono {zs : Ps} {m : Int} (h : Ps.Ok K H m zs) (s : Tups K H H') : Ps.Ok K H' m zs := fun z hz => ⟨(h z hz).1.mono s, (h z hz).2⟩
theorem Tups.add {p : Addr} {o u : HO} (h : H p = some u) (nt : ∀ xs, u ≠ .tup xs) (nf : ∀ ob xs, u ≠ .frz ob (.tup xs)) : Tups K H (upd H p o) := Tups.put h nt nf
theorem lst_tups {p : Addr} {o : HO} {xs : List V} (h : H p = some (.lst xs)) : Tups K H (upd H p o) := Tups.put h (fun _ z => nomatch z) fun _ _ z => nomatch z
def sp_law_draw_rule (K : PySem.W.Frag) : Sp := fun vs H Q _ => ∃ b l top sc many, vs = [.ref b, .int top, .int sc, .int many] ∧ Bag H b l ∧ 1 ≤ top ∧ top ≤ 1000 ∧ 1 ≤ sc ∧ top * sc ≤ 10 ^ 50 ∧ 1 ≤ many ∧ many ≤ 100 ∧
  ∀ v T H', TrAt K H' v T → T.ok → T.le (top * sc) → (T.lv : Int) = many → Bag H' b l → Kp b H H' → Q v H'
def t_law_draw_rule (K : PySem.W.Frag) : TS :=
  (tSeq (tAsg (tLc (iRng1 (tCons (tVar 3) tNil)) (gName 6) tYes (tTup (tCons (tC (.str "at")) (tCons (tCall (sp_law_draw_size K) [] E0 (tCons (tVar 0) (tCons (tVar 1) (tCons (tVar 2) tNil)))) (tCons (tOp (rAddU K) (tC (.int 1)) (tCall (sp_law_take K) [] E0 (tCons (tVar 0) (tCons (tC (.int 6)) tNil)))) tNil)))) [6]) (gName 4))
    (tSeq (tWhile (tTest (tOp (rGtI) (tCB (rLenU K) (tCons (tVar 4) tNil)) (tC (.int 1)))) (tSeq (tAsg (tCall (sp_law_take K) [] E0 (tCons (tVar 0) (tCons (tOp (rSubI) (tCB (rLenU K) (tCons (tVar 4) tNil)) (tC (.int 1))) tNil))) (gName 5))
    (tAsg (tOp (rAddU K) (tOp (rAddU K) (tSl (rSlU K) (tVar 4) tNoPart (tPart (tVar 5))) (tLst (tCons (tTup (tCons (tOp (rIx K) (tLst (tCons (tC (.str "or")) (tCons (tC (.str "and")) tNil))) (tCall (sp_law_take K) [] E0 (tCons (tVar 0) (tCons (tC (.int 2)) tNil)))) (tCons (tOp (rIx K) (tVar 4) (tVar 5)) (tCons (tOp (rIx K) (tVar 4) (tOp (rAddU K) (tVar 5) (tC (.int 1)))) tNil)))) tNil))) (tSl (rSlU K) (tVar 4) (tPart (tOp (rAddU K) (tVar 5) (tC (.int 2)))) tNoPart)) (gName 4))))
    (tRet (tOp (rIx K) (tVar 4) (tC (.int 0))))))
theorem ln_law_draw_rule (h : sp_law_draw_rule K vs H Q E) : vs.length = 4 := by obtain ⟨_, _, _, _, _, rfl, _⟩ := h; rfl
theorem split2 {α : Type} {l : List α} {j : Nat} (h : j + 1 < l.length) : l = l.take j ++ (l[j] :: l[j + 1] :: l.drop (j + 2)) := by
  rw [← List.drop_eq_getElem_cons (by omega), ← List.drop_eq_getElem_cons (by omega), List.take_append_drop]
theorem rd_law_draw_rule (h : sp_law_draw_rule K vs H Q E) : t_law_draw_rule K (EndsOf Q) (start ["", "", "", "", "", "", ""] vs) H := by
  obtain ⟨b, l, top, sc, many, rfl, B, t1, t2, s1, ts, m1, m2, k⟩ := h
  have nb : ∀ {D : Addr}, H D = none → D ≠ b := fun h => B.nb h
  refine ⟨_, rfl, many, rfl, by omega, by omega, fun D hD => ?_⟩
  refine lc_range (lo := 0) (n := many.toNat) (fun i H' => Bag H' b l ∧ Kp b H H' ∧ ∃ zs : Ps, zs.length = i ∧ zs.lvs = i ∧ H' D = some (.lst (zs.map (·.1))) ∧ Ps.Ok K H' (top * sc) zs) ⟨B.same (same_new hD), kp_new hD, [], rfl, rfl, upd_same, fun z hz => nomatch hz⟩ ?_ ?_
  · rintro i G hi ⟨B1, k1, zs, hl, hv, hz, ok⟩
    refine ⟨rfl, ?_⟩
    refine ⟨_, rfl, _, rfl, _, rfl, b, l, top, sc, rfl, B1, t1, t2, s1, fun t G1 a0 a1 B2 k2 => ?_⟩
    refine ⟨_, rfl, b, l, 6, rfl, B2, by decide, by decide, fun q G2 q0 q1 B3 k3 => .inl ⟨_, _, rfl, rfl, two_fit.2.2.1, fun p hp => ?_⟩⟩
    have k23 := k2.trans k3
    have hz2 := k23 D _ hz (nb hD)
    have s4 := same_new (o := .tup [.str "at", .int t, .int (1 + q)]) hp
    have tp : Tups K G (upd G2 p (.tup [.str "at", .int t, .int (1 + q)])) := (B1.tups k23).trans (Tups.same s4)
    refine ⟨_, s4 _ _ hz2, small1000 (by rw [List.length_map]; omega), ?_, (k1.trans (k23.trans (Kp.of s4))).other hD, zs ++ [(.ref p, .at t (1 + q))], ?_, ?_, ?_, ?_⟩
    · exact (B3.same s4).put (nb hD).symm (B.nl hD).symm
    · rw [List.length_append, hl]; rfl
    · rw [Ps.lvs_app, hv]; rfl
    · rw [upd_same, List.map_append]; rfl
    · intro z q
      have tD := lst_tups (K := K) (o := .lst (zs.map (·.1) ++ [V.ref p])) (s4 _ _ hz2)
      rcases List.mem_append.mp q with q | q
      · exact ⟨((ok z q).1.mono tp).mono tD, (ok z q).2⟩
      · rw [List.mem_singleton.mp q]
        exact ⟨⟨p, rfl, tD _ _ (SqT.of upd_same)⟩, ⟨a0, by omega, by omega, by omega⟩, a1⟩
  rintro G ⟨B1, k1, zs, hl, hv, hz, ok⟩
  refine ⟨fun m σ' H' => ∃ (zs : Ps) (D : Addr) (at' : Option V), σ' = [some (.ref b), some (.int top), some (.int sc), some (.int many), some (.ref D), at', none] ∧ H D = none ∧ H' D = some (.lst (zs.map (·.1))) ∧ Ps.Ok K H' (top * sc) zs ∧
    zs.lvs = many.toNat ∧ 1 ≤ zs.length ∧ zs.length ≤ 100 ∧ Bag H' b l ∧ Kp b H H' ∧ m = zs.length, ⟨_, zs, D, none, rfl, hD, hz, ok, hv, by omega, by omega, B1, k1, rfl⟩, ?_⟩
  clear hl hv hz ok zs B1 k1 hD
  rintro m σ' G ⟨zs, D, at', rfl, hD, hz, ok, hv, l1, l2, B1, k1, rfl⟩
  refine ⟨_, rfl, .inl ⟨_, _, rfl, .inl ⟨_, SqL.of hz, rfl⟩, _, _, rfl, rfl, _, rfl, ?_⟩⟩
  rw [List.length_map]
  refine ifD (fun c => ?_) (fun c => ?_)
  · -- two neighbours become one
    refine ⟨fun σ2 H2 => ∃ (zs2 : Ps) (D2 : Addr) (at' : Option V), σ2 = [some (.ref b), some (.int top), some (.int sc), some (.int many), some (.ref D2), at', none] ∧ H D2 = none ∧ H2 D2 = some (.lst (zs2.map (·.1))) ∧ Ps.Ok K H2 (top * sc) zs2 ∧
      zs2.lvs = many.toNat ∧ 1 ≤ zs2.length ∧ zs2.length ≤ 100 ∧ Bag H2 b l ∧ Kp b H H2 ∧ zs2.length < zs.length, fun σ2 H2 ⟨zs2, D2, at', a1, a2, a3, a4, a5, a6, a7, a8, a9, a10⟩ => ⟨_, a10, zs2, D2, at', a1, a2, a3, a4, a5, a6, a7, a8, a9, rfl⟩, ?_⟩
    refine ⟨_, rfl, _, rfl, .inl ⟨_, _, rfl, .inl ⟨_, SqL.of hz, rfl⟩, _, _, rfl, rfl, ?_⟩⟩
    rw [List.length_map]
    refine ⟨b, l, _, rfl, B1, by omega, by omega, fun at' G1 a0 a1 B2 k2 => ?_⟩
    have hz1 := k2 D _ hz (nb hD)
    obtain ⟨j, rfl⟩ : ∃ j : Nat, at' = (j : Int) := ⟨at'.toNat, by omega⟩
    have hj : j + 1 < zs.length := by omega
    have t1 := B1.tups (K := K) k2
    have kp1 := k1.trans k2
    have ok1 := ok.mono t1
    clear hz ok B1 k1 t1
    -- some[:at]
    refine ⟨_, rfl, _, rfl, _, rfl, .inl ⟨D, _, rfl, SqL.of hz1, fun p1 hp1 => ?_⟩⟩
    rw [cutV_to]
    have e1 := same_new (o := .lst ((zs.map (·.1)).take j)) hp1
    -- ['or', 'and'][..]
    refine ⟨two_fit.2.1, fun p2 hp2 => ?_⟩
    have e2 := same_new (o := .lst [.str "or", .str "and"]) hp2
    have e12 := e1.trans e2
    refine ⟨_, rfl, b, l, 2, rfl, B2.same e12, by decide, by decide, fun w G2 w0 w1 B3 k3 => ?_⟩
    have np2 : p2 ≠ b := (B2.same e1).nb hp2
    have np1 : p1 ≠ b := B2.nb hp1
    obtain ⟨wd, hw, cw⟩ := pick2 (x := .str "or") (y := .str "and") w0 w1
    have h2 := k3 p2 _ upd_same np2
    have h1 := k3 p1 _ (e2 _ _ upd_same) np1
    have hz2 := k3 D _ (e12 _ _ hz1) (nb hD)
    have tt : Tups K G1 G2 := (Tups.same e12).trans ((B2.same e12).tups k3)
    have ok2 := ok1.mono tt
    have kp2 := kp1.trans ((Kp.of e12).trans k3)
    refine .inl ⟨p2, _, w, wd, rfl, rfl, SqL.of h2, hw, ?_⟩
    -- some[at], some[at + 1]
    have g1 : (zs.map (·.1))[j]? = some (zs[j].1) := by rw [List.getElem?_map, List.getElem?_eq_getElem (by omega)]; rfl
    have g2 : (zs.map (·.1))[j + 1]? = some (zs[j + 1].1) := by rw [List.getElem?_map, List.getElem?_eq_getElem hj]; rfl
    refine ⟨_, rfl, _, rfl, .inl ⟨D, _, _, _, rfl, rfl, SqL.of hz2, at_of rfl g1, ?_⟩⟩
    refine ⟨_, rfl, _, rfl, .inl ⟨_, _, rfl, rfl, .inl ⟨D, _, _, _, rfl, rfl, SqL.of hz2, at_of (by omega) g2, ?_⟩⟩⟩
    refine ⟨two_fit.2.2.1, fun p3 hp3 => ?_⟩
    have e3 := same_new (o := .tup [wd, zs[j].1, zs[j + 1].1]) hp3
    refine ⟨two_fit.1, fun p4 hp4 => ?_⟩
    have e4 := same_new (o := .lst [.ref p3]) hp4
    have e34 := e3.trans e4
    refine .inr (.inr (.inl ⟨p1, p4, _, _, rfl, rfl, e34 _ _ h1, upd_same, ?_, fun p5 hp5 => ?_⟩))
    · rw [List.length_take, List.length_map, List.length_singleton]
      exact Nat.le_of_lt (small1000 (by omega))
    have e5 := same_new (o := .lst ((zs.map (·.1)).take j ++ [.ref p3])) hp5
    have e35 := e34.trans e5
    refine ⟨_, rfl, _, rfl, .inl ⟨_, _, rfl, rfl, _, rfl, .inl ⟨D, _, rfl, SqL.of (e35 _ _ hz2), fun p6 hp6 => ?_⟩⟩⟩
    rw [show ((j : Int) + 2) = ((j + 2 : Nat) : Int) from rfl, cutV_from]
    have e6 := same_new (o := .lst ((zs.map (·.1)).drop (j + 2))) hp6
    refine .inr (.inr (.inl ⟨p5, p6, _, _, rfl, rfl, e6 _ _ upd_same, upd_same, ?_, fun p7 hp7 => ?_⟩))
    · rw [List.length_append, List.length_take, List.length_drop, List.length_map, List.length_singleton]
      exact Nat.le_of_lt (small1000 (by omega))
    have e7 := same_new (o := .lst ((zs.map (·.1)).take j ++ [.ref p3] ++ (zs.map (·.1)).drop (j + 2))) hp7
    have all : Same G2 _ := e35.trans (e6.trans e7)
    obtain ⟨A, hA⟩ : ∃ A, A = (zs[j]).2 := ⟨_, rfl⟩
    obtain ⟨Z, hZ⟩ : ∃ Z, Z = (zs[j + 1]).2 := ⟨_, rfl⟩
    obtain ⟨q1, q2, q3⟩ := ok2 _ (List.getElem_mem (show j < zs.length by omega))
    obtain ⟨r1, r2, r3⟩ := ok2 _ (List.getElem_mem hj)
    rw [← hA] at q1 q2 q3
    rw [← hZ] at r1 r2 r3
    -- the tree of both
    obtain ⟨W, hW, oW, lW, vW⟩ : ∃ W : Tr, (∀ G', Same G2 G' → G' p3 = some (.tup [wd, zs[j].1, zs[j + 1].1]) → TrAt K G' (.ref p3) W) ∧ W.ok ∧ W.le (top * sc) ∧ W.lv = A.lv + Z.lv := by
      rcases cw with ⟨_, rfl⟩ | ⟨_, rfl⟩
      · exact ⟨.or A Z, fun G' s h => ⟨p3, _, _, rfl, SqT.of h, q1.mono (Tups.same s), r1.mono (Tups.same s)⟩, ⟨q2, r2⟩, ⟨q3, r3⟩, rfl⟩
      · exact ⟨.and A Z, fun G' s h => ⟨p3, _, _, rfl, SqT.of h, q1.mono (Tups.same s), r1.mono (Tups.same s)⟩, ⟨q2, r2⟩, ⟨q3, r3⟩, rfl⟩
    have hp3' := (e4.trans (e5.trans (e6.trans e7))) p3 _ upd_same
    refine ⟨zs.take j ++ [(.ref p3, W)] ++ zs.drop (j + 2), p7, _, rfl, ?_, ?_, ?_, ?_, ?_, ?_, B3.same all, kp2.trans (Kp.of all), ?_⟩
    · cases e : H p7 with
      | none => rfl
      | some o =>
        have z1 := (kp2.trans (Kp.of (e35.trans e6))) p7 o e
        by_cases hb : p7 = b
        · obtain ⟨ys, hb'⟩ := (B3.same (e35.trans e6)).at
          rw [hb, hb'] at hp7
          cases hp7
        · rw [z1 hb] at hp7
          cases hp7
    · rw [upd_same, List.map_append, List.map_append, List.map_take, List.map_drop]
      rfl
    · intro z hz
      rcases List.mem_append.mp hz with hz | hz
      · rcases List.mem_append.mp hz with hz | hz
        · exact (ok2.mono (Tups.same all)) z (List.mem_of_mem_take hz)
        · rw [List.mem_singleton.mp hz]
          exact ⟨hW _ all hp3', oW, lW⟩
      · exact (ok2.mono (Tups.same all)) z (List.mem_of_mem_drop hz)
    · have e0 : Ps.lvs zs = Ps.lvs (zs.take j) + (A.lv + (Z.lv + Ps.lvs (zs.drop (j + 2)))) := by
        conv => lhs; rw [split2 hj, Ps.lvs_app]
        rw [hA, hZ]
        rfl
      have e1 : Ps.lvs [((.ref p3 : V), W)] = W.lv := by show W.lv + 0 = W.lv; omega
      rw [Ps.lvs_app, Ps.lvs_app, e1, vW]
      omega
    all_goals
      rw [List.length_append, List.length_append, List.length_take, List.length_drop, List.length_singleton]
      omega
  · -- one is left
    obtain ⟨⟨v, T⟩, rfl⟩ : ∃ z, zs = [z] := by
      cases zs with
      | nil => exact absurd l1 (by decide)
      | cons z r =>
        cases r with
        | nil => exact ⟨z, rfl⟩
        | cons y r => exact absurd (by rw [List.length_cons, List.length_cons]; omega) c
    obtain ⟨a1, a2, a3⟩ := ok (v, T) (List.mem_singleton.mpr rfl)
    have e : T.lv = many.toNat := hv
    exact ⟨_, rfl, .inl ⟨D, _, 0, v, rfl, rfl, SqL.of hz, rfl, k v T G a1 a2 a3 (by omega) B1 k1⟩⟩
end
end Pk
set_option Elab.async false
set_option linter.all false
set_option maxRecDepth 100000
set_option maxHeartbeats 2000000
namespace Pk
open PySem PySem.Spec L2 PyProof.Rows
section
variable {K : PySem.W.Frag} {C : Cs} {vs : List V} {H H' : Hp} {Q : VK} {E : XK} {n : Nat}
theorem RuleAt.kpB {v : V} {T : Tr} {b l : Addr} (h : RuleAt K C H v T) (B : Bag H b l) (k : Kp b H H') : RuleAt K C H' v T := by
  obtain ⟨ys, hb⟩ := B.at
  exact h.kp k hb
def sp_law_made (K : PySem.W.Frag) (C : Cs) (n : Nat) : Sp := fun vs H Q _ => ∃ b l v T, vs = [.ref b, v] ∧ Bag H b l ∧ TrAt K H v T ∧ T.ok ∧ T.lv ≤ 6 ∧ T.dp ≤ n ∧ FxRule K C ∧ ∀ x H', RuleAt K C H' x T → Bag H' b l → Kp b H H' → Q x H'
def t_law_made (K : PySem.W.Frag) (C : Cs) (n : Nat) : TS :=
  (tSeq (tAsg (tVar 1) (gTup K 3 (gCons (gName 2) (gCons (gName 3) (gCons (gName 4) gNil)))))
    (tSeq (tIfS (tTest (tOp (rEqU K) (tCall (sp_law_take K) [] E0 (tCons (tVar 0) (tCons (tC (.int 2)) tNil))) (tC (.int 0)))) (tRet (tMake C.Rule (sp_Rule___init__ K C) [] E0 (tCons (tVar 1) tNil))) tNext)
    (tSeq (tIfS (tTest (tOp (rEqU K) (tVar 2) (tC (.str "at")))) (tRet (tIf (tTest (tOp (rEqU K) (tVar 4) (tC (.int 1)))) (tCall (sp_at_least K C) [.int 1] E0 (tCons (tVar 3) tNil)) (tCall (sp_at_least K C) [] E0 (tCons (tVar 3) (tCons (tVar 4) tNil))))) tNext)
    (tSeq (tPar 5 6 (tCons (tCall (sp_law_made K C n) [] E0 (tCons (tVar 0) (tCons (tVar 3) tNil))) (tCons (tCall (sp_law_made K C n) [] E0 (tCons (tVar 0) (tCons (tVar 4) tNil))) tNil)))
    (tRet (tIf (tTest (tOp (rEqU K) (tVar 2) (tC (.str "or")))) (tOp (rOwnB C.Rule (sp_Rule___or__ K C) E0) (tVar 5) (tVar 6)) (tOp (rOwnB C.Rule (sp_Rule___and__ K C) E0) (tVar 5) (tVar 6))))))))
theorem no_law_made (h : sp_law_made K C 0 vs H Q E) : False := by
  obtain ⟨_, _, _, T, _, _, _, _, _, h, _⟩ := h
  have := T.dp_pos
  omega
theorem ln_law_made (h : sp_law_made K C n vs H Q E) : vs.length = 2 := by obtain ⟨_, _, _, _, rfl, _⟩ := h; rfl
theorem rd_law_made (h : sp_law_made K C (n + 1) vs H Q E) : t_law_made K C n (EndsOf Q) (start ["", "", "", "", "", "", ""] vs) H := by
  obtain ⟨b, l, v, T, rfl, B, hT, ok, l6, hd, fx, k⟩ := h
  obtain ⟨a, w, x, y, rfl, s, cw⟩ := hT.tuple
  refine ⟨_, rfl, g3 s ?_⟩
  refine ⟨_, rfl, b, l, 2, rfl, B, by decide, by decide, fun r G r0 r1 B1 k1 => .inl ⟨rfl, _, rfl, ?_⟩⟩
  have tt := B.tups (K := K) k1
  refine ifI (fun _ => ?_) (fun _ => ?_)
  · refine ⟨_, rfl, make_rule (t := tNil) (σ := []) fx ok l6 (hT.mono tt) fun x H' hx s2 r => k (.ref x) H' r (B1.same s2) (k1.trans (Kp.of s2))⟩
  refine ⟨_, rfl, .inl ⟨rfl, _, rfl, ?_⟩⟩
  have two : ∀ {A Z : Tr} {w : Str}, T.ok → max A.dp Z.dp + 1 ≤ n + 1 → A.lv + Z.lv ≤ 6 → A.ok → Z.ok → TrAt K H x A → TrAt K H y Z → ((w = "or" ∧ T = .or A Z) ∨ (w = "and" ∧ T = .and A Z)) →
      tSeq (tPar 5 6 (tCons (tCall (sp_law_made K C n) [] E0 (tCons (tVar 0) (tCons (tVar 3) tNil))) (tCons (tCall (sp_law_made K C n) [] E0 (tCons (tVar 0) (tCons (tVar 4) tNil))) tNil)))
        (tRet (tIf (tTest (tOp (rEqU K) (tVar 2) (tC (.str "or")))) (tOp (rOwnB C.Rule (sp_Rule___or__ K C) E0) (tVar 5) (tVar 6)) (tOp (rOwnB C.Rule (sp_Rule___and__ K C) E0) (tVar 5) (tVar 6)))) (EndsOf Q)
        [some (.ref b), some (.ref a), some (.str w), some x, some y, none, none] G := by
    intro A Z w _ hd' l6 oA oZ hA hZ c
    refine ⟨_, rfl, _, rfl, b, l, x, A, rfl, B1, hA.mono tt, oA, by omega, by omega, fx, fun u G1 R1 B2 k2 => ?_⟩
    refine ⟨_, rfl, _, rfl, b, l, y, Z, rfl, B2, (hZ.mono tt).mono (B1.tups k2), oZ, by omega, by omega, fx, fun z G2 R2 B3 k3 => ⟨_, _, rfl, ?_⟩⟩
    have R1' := R1.kpB B2 k3
    have kk := k1.trans (k2.trans k3)
    obtain ⟨ru, du, xu, rfl, hu, ru'⟩ := id R1'
    obtain ⟨rz, dz, xz, rfl, hz, rz'⟩ := id R2
    refine ⟨_, rfl, .inl ⟨rfl, _, rfl, ?_⟩⟩
    rcases c with ⟨rfl, rfl⟩ | ⟨rfl, rfl⟩
    · refine ifS (fun _ => ?_) (fun z => absurd rfl z)
      exact ⟨_, rfl, _, rfl, ru, rz, du, _, dz, _, rfl, rfl, hu, hz, _, _, A, Z, rfl, R1', R2, l6, fun q G3 hq s3 R3 => k _ G3 R3 (B3.same s3) (kk.trans (Kp.of s3))⟩
    · refine ifS (fun z => absurd z and_or) (fun _ => ?_)
      exact ⟨_, rfl, _, rfl, ru, rz, du, _, dz, _, rfl, rfl, hu, hz, _, _, A, Z, rfl, R1', R2, l6, fun q G3 hq s3 R3 => k _ G3 R3 (B3.same s3) (kk.trans (Kp.of s3))⟩
  rcases cw with ⟨rfl, t, q, rfl, rfl, rfl⟩ | ⟨rfl, A, Z, rfl, hA, hZ⟩ | ⟨rfl, A, Z, rfl, hA, hZ⟩
  · refine ifS (fun _ => ?_) (fun z => absurd rfl z)
    refine ⟨_, rfl, .inl ⟨rfl, _, rfl, ?_⟩⟩
    refine ifI (fun e => ?_) (fun _ => ?_)
    · subst e
      exact ⟨_, rfl, t, 1, rfl, ok, fx, fun x G1 hx s2 r => k _ G1 r (B1.same s2) (k1.trans (Kp.of s2))⟩
    · exact ⟨_, rfl, _, rfl, t, q, rfl, ok, fx, fun x G1 hx s2 r => k _ G1 r (B1.same s2) (k1.trans (Kp.of s2))⟩
  · refine ifS (fun z => absurd z or_at) (fun _ => ?_)
    exact two ok hd l6 ok.1 ok.2 hA hZ (.inl ⟨rfl, rfl⟩)
  · refine ifS (fun z => absurd z and_at) (fun _ => ?_)
    exact two ok hd l6 ok.1 ok.2 hA hZ (.inr ⟨rfl, rfl⟩)
/-! ### amounts near the thresholds -/
def imax (i j : Int) : Int := if j > i then j else i
def Tr.tops : Tr → List Int
  | .at t q => [imax t q]
  | .or a b => tops a ++ tops b
  | .and a b => tops a ++ tops b
theorem Tr.tops_len : ∀ T : Tr, T.tops.length = T.lv
  | .at _ _ => rfl
  | .or a b => by show (tops a ++ tops b).length = _; rw [List.length_append, tops_len a, tops_len b]; rfl
  | .and a b => by show (tops a ++ tops b).length = _; rw [List.length_append, tops_len a, tops_len b]; rfl
theorem Tr.tops_ok : ∀ {T : Tr}, T.ok → ∀ i ∈ T.tops, 1 ≤ i ∧ i ≤ 10 ^ 50
  | .at t q, h, i, hi => by
    obtain ⟨h1, h2, h3, h4⟩ := h
    rw [List.mem_singleton.mp hi]
    unfold imax
    split <;> omega
  | .or a b, h, i, hi => (List.mem_append.mp hi).elim (tops_ok h.1 i) (tops_ok h.2 i)
  | .and a b, h, i, hi => (List.mem_append.mp hi).elim (tops_ok h.1 i) (tops_ok h.2 i)
def sp_law_bounds (K : PySem.W.Frag) (n : Nat) : Sp := fun vs H Q _ => ∃ v T, vs = [v] ∧ TrAt K H v T ∧ T.dp ≤ n ∧ T.lv ≤ 100 ∧ ∀ p H', H p = none → Same H H' → H' p = some (.lst (T.tops.map V.int)) → Q (.ref p) H'
def t_law_bounds (K : PySem.W.Frag) (n : Nat) : TS :=
  (tSeq (tAsg (tVar 0) (gTup K 3 (gCons (gName 1) (gCons (gName 2) (gCons (gName 3) gNil)))))
    (tRet (tIf (tTest (tOp (rEqU K) (tVar 1) (tC (.str "at")))) (tLst (tCons (tCB (rMax2) (tCons (tVar 2) (tCons (tVar 3) tNil))) tNil)) (tOp (rAddU K) (tCall (sp_law_bounds K n) [] E0 (tCons (tVar 2) tNil)) (tCall (sp_law_bounds K n) [] E0 (tCons (tVar 3) tNil))))))
theorem no_law_bounds (h : sp_law_bounds K 0 vs H Q E) : False := by
  obtain ⟨_, T, _, _, h, _⟩ := h
  have := T.dp_pos
  omega
theorem ln_law_bounds (h : sp_law_bounds K n vs H Q E) : vs.length = 1 := by obtain ⟨_, _, rfl, _⟩ := h; rfl
theorem rd_law_bounds (h : sp_law_bounds K (n + 1) vs H Q E) : t_law_bounds K n (EndsOf Q) (start ["", "", "", ""] vs) H := by
  obtain ⟨v, T, rfl, hT, hd, hl, k⟩ := h
  obtain ⟨a, w, x, y, rfl, s, cw⟩ := hT.tuple
  refine ⟨_, rfl, g3 s ?_⟩
  refine ⟨_, rfl, .inl ⟨rfl, _, rfl, ?_⟩⟩
  have two : ∀ {A B : Tr}, T.tops = A.tops ++ B.tops → T.lv = A.lv + B.lv → max A.dp B.dp + 1 ≤ n + 1 → TrAt K H x A → TrAt K H y B →
      tOp (rAddU K) (tCall (sp_law_bounds K n) [] E0 (tCons (tVar 2) tNil)) (tCall (sp_law_bounds K n) [] E0 (tCons (tVar 3) tNil)) [some (.ref a), some (.str w), some x, some y] H Q := by
    intro A B e1 e2 hd' hA hB
    refine ⟨_, rfl, x, A, rfl, hA, by omega, by omega, fun p H1 hp s1 h1 => ?_⟩
    refine ⟨_, rfl, y, B, rfl, hB.mono (Tups.same s1), by omega, by omega, fun p2 H2 hp2 s2 h2 => ?_⟩
    refine .inr (.inr (.inl ⟨p, p2, _, _, rfl, rfl, s2 _ _ h1, h2, ?_, fun r hr => ?_⟩))
    · rw [List.length_map, List.length_map, A.tops_len, B.tops_len]
      exact Nat.le_of_lt (small1000 (by omega))
    · refine k r _ ((s1.trans s2).free hr) ((s1.trans s2).trans (same_new hr)) ?_
      rw [upd_same, e1, List.map_append]
  rcases cw with ⟨rfl, t, q, rfl, rfl, rfl⟩ | ⟨rfl, A, B, rfl, hA, hB⟩ | ⟨rfl, A, B, rfl, hA, hB⟩
  · refine ifS (fun _ => ?_) (fun z => absurd rfl z)
    exact ⟨_, rfl, _, rfl, _, _, rfl, two_fit.1, fun p hp => k p _ hp (same_new hp) upd_same⟩
  · refine ifS (fun z => absurd z or_at) (fun _ => ?_)
    exact two rfl rfl hd hA hB
  · refine ifS (fun z => absurd z and_at) (fun _ => ?_)
    exact two rfl rfl hd hA hB
theorem pick3 {x y z : V} {v : Int} (h0 : 0 ≤ v) (h1 : v < 3) : ∃ u, atI [x, y, z] v = some u ∧ (u = x ∨ u = y ∨ u = z) := by
  rcases (by omega : v = 0 ∨ v = 1 ∨ v = 2) with rfl | rfl | rfl
  · exact ⟨x, rfl, .inl rfl⟩
  · exact ⟨y, rfl, .inr (.inl rfl)⟩
  · exact ⟨z, rfl, .inr (.inr rfl)⟩
theorem kp_keep {b p : Addr} {xs : List V} (k : Kp b H H') (h : H p = some (.lst xs)) (n : p ≠ b) : H' p = some (.lst xs) := k p _ h n
/-- a number of amounts, none below nought -/
def sp_law_amounts (K : PySem.W.Frag) : Sp := fun vs H Q _ => ∃ b l v T many, vs = [.ref b, v, .int many] ∧ Bag H b l ∧ TrAt K H v T ∧ T.ok ∧ T.lv ≤ 6 ∧ 0 ≤ many ∧ many ≤ 100 ∧
  ∀ (p : Addr) (ns : List Int) (H' : Hp), H p = none → H' p = some (.lst (ns.map V.int)) → ns.length = many.toNat + 2 → (∀ i ∈ ns, 0 ≤ i ∧ i ≤ 10 ^ 60) → Bag H' b l → Kp b H H' → Q (.ref p) H'
def t_law_amounts (K : PySem.W.Frag) : TS :=
  (tSeq (tPar 3 4 (tCons (tCall (sp_law_bounds K 7) [] E0 (tCons (tVar 1) tNil)) (tCons (tLst (tCons (tC (.int 0)) (tCons (tC (.int 1)) tNil))) tNil)))
    (tSeq (tFor (iRng1 (tCons (tVar 2) tNil)) (gName 5) (tSeq (tAsg (tOp (rSubI) (tOp (rAddU K) (tOp (rIx K) (tVar 3) (tCall (sp_law_take K) [] E0 (tCons (tVar 0) (tCons (tCB (rLenU K) (tCons (tVar 3) tNil)) tNil)))) (tCall (sp_law_take K) [] E0 (tCons (tVar 0) (tCons (tC (.int 70)) tNil)))) (tC (.int 9))) (gName 6))
    (tDrop (tBM K "list" rAppend (tVar 4) (tCons (tOp (rIx K) (tLst (tCons (tCB (rMax2) (tCons (tC (.int 0)) (tCons (tVar 6) tNil))) (tCons (tCall (sp_law_take K) [] E0 (tCons (tVar 0) (tCons (tOp (rPowI) (tC (.int 10)) (tC (.int 30))) tNil))) (tCons (tCall (sp_law_take K) [] E0 (tCons (tVar 0) (tCons (tC (.int 80)) tNil))) tNil)))) (tCall (sp_law_take K) [] E0 (tCons (tVar 0) (tCons (tC (.int 3)) tNil)))) tNil)))))
    (tRet (tVar 4))))
theorem ln_law_amounts (h : sp_law_amounts K vs H Q E) : vs.length = 3 := by obtain ⟨_, _, _, _, _, rfl, _⟩ := h; rfl
theorem rd_law_amounts (h : sp_law_amounts K vs H Q E) : t_law_amounts K (EndsOf Q) (start ["", "", "", "", "", "", ""] vs) H := by
  obtain ⟨b, l, v, T, many, rfl, B, hT, ok, l6, m0, m1, k⟩ := h
  refine ⟨_, rfl, v, T, rfl, hT, Tr.dp6 l6, by omega, fun p H1 hp s1 h1 => ?_⟩
  refine ⟨two_fit.2.1, fun f hf => ⟨_, _, rfl, ?_⟩⟩
  have s2 := same_new (o := .lst [.int 0, .int 1]) hf
  have s12 := s1.trans s2
  have nb : ∀ {D : Addr}, H D = none → D ≠ b := fun h => B.nb h
  have hf0 : H f = none := s1.free hf
  have hp2 := s2 _ _ h1
  have hf2 : (upd H1 f (.lst [.int 0, .int 1])) f = some (.lst [.int 0, .int 1]) := upd_same
  have npf : p ≠ f := ne_of_none h1 hf
  generalize upd H1 f (.lst [.int 0, .int 1]) = G at s12 hp2 hf2 ⊢
  refine ⟨_, rfl, many, rfl, by omega, by omega, ?_⟩
  refine for_range (lo := 0) (n := many.toNat) (fun i σ' G' => ∃ (c1 c2 : Option V) (ns : List Int), σ' = [some (.ref b), some v, some (.int many), some (.ref p), some (.ref f), c1, c2] ∧ Bag G' b l ∧ Kp b H G' ∧ G' p = some (.lst (T.tops.map V.int)) ∧
    G' f = some (.lst (ns.map V.int)) ∧ ns.length = i + 2 ∧ ∀ z ∈ ns, 0 ≤ z ∧ z ≤ 10 ^ 60) ⟨none, none, [0, 1], rfl, B.same s12, Kp.of s12, hp2, hf2, rfl, ?_⟩ ?_ ?_
  · intro z hz
    rcases List.mem_cons.mp hz with rfl | hz
    · decide
    · rw [List.mem_singleton.mp hz]; decide
  · rintro i σ' G' hi ⟨c1, c2, ns, rfl, B1, k1, hp1, hf1, hl, hn⟩
    refine ⟨_, rfl, _, rfl, _, rfl, .inl ⟨_, _, rfl, .inl ⟨_, SqL.of hp1, rfl⟩, ?_⟩⟩
    have tl := T.tops_len
    have lp := T.lv_pos
    rw [List.length_map, tl]
    refine ⟨b, l, _, rfl, B1, by omega, by omega, fun j G1 j0 j1 B2 k2 => ?_⟩
    have hp2 := k2 p _ hp1 (nb hp)
    have hj : j.toNat < T.tops.length := by omega
    have g : (T.tops.map V.int)[j.toNat]? = some (.int (T.tops[j.toNat])) := by rw [List.getElem?_map, List.getElem?_eq_getElem hj]; rfl
    obtain ⟨t1, t2⟩ := Tr.tops_ok ok _ (List.getElem_mem hj)
    generalize T.tops[j.toNat] = tj at g t1 t2
    refine .inl ⟨p, _, j, .int tj, rfl, rfl, SqL.of hp2, at_of (by omega) g, ?_⟩
    refine ⟨_, rfl, b, l, 70, rfl, B2, by decide, by decide, fun r G2 r0 r1 B3 k3 => .inl ⟨_, _, rfl, rfl, _, _, rfl, rfl, ?_⟩⟩
    have k13 := k1.trans (k2.trans k3)
    have hf3 := k3 f _ (k2 f _ hf1 (nb hf0)) (nb hf0)
    have hp3 := k3 p _ hp2 (nb hp)
    -- found.append(..)
    refine ⟨_, rfl, .inl ⟨rfl, _, SqL.of hf3⟩, _, rfl, _, _, rfl, _, rfl, _, _, rfl, rfl, ⟨by decide, by decide, by decide⟩, ?_⟩
    refine ⟨b, l, _, rfl, B3, by decide, by decide, fun y1 G3 y0 y2 B4 k4 => ?_⟩
    refine ⟨_, rfl, b, l, 80, rfl, B4, by decide, by decide, fun y3 G4 y4 y5 B5 k5 => ⟨two_fit.2.2.1, fun q hq => ?_⟩⟩
    refine ⟨_, rfl, b, l, 3, rfl, B5.same (same_new hq), by decide, by decide, fun y6 G5 y7 y8 B6 k6 => ?_⟩
    have nq : q ≠ b := B5.nb hq
    have hq5 := k6 q _ upd_same nq
    obtain ⟨u, hu, cu⟩ := pick3 (x := .int (if tj + r - 9 > 0 then tj + r - 9 else 0)) (y := .int y1) (z := .int y3) y7 y8
    refine .inl ⟨q, _, y6, u, rfl, rfl, SqL.of hq5, hu, ?_⟩
    have k46 := k4.trans (k5.trans ((kp_new hq).trans k6))
    have hf6 := k46 f _ hf3 (nb hf0)
    have hp6 := k46 p _ hp3 (nb hp)
    refine ⟨f, _, u, rfl, rfl, hf6, small1000 (by rw [List.length_map]; omega), ?_⟩
    have e10 : (10 : Int) ^ (30 : Int).toNat = 10 ^ 30 := rfl
    have lim : (10 : Int) ^ 30 ≤ 10 ^ 60 := by decide
    have lim2 : (10 : Int) ^ 50 + 100 ≤ 10 ^ 60 := by decide
    obtain ⟨z, rfl, hz⟩ : ∃ z, u = .int z ∧ 0 ≤ z ∧ z ≤ 10 ^ 60 := by
      rcases cu with rfl | rfl | rfl
      · refine ⟨_, rfl, ?_⟩
        split <;> omega
      · exact ⟨_, rfl, y0, by rw [e10] at y2; omega⟩
      · exact ⟨_, rfl, y4, by omega⟩
    refine ⟨_, _, ns ++ [z], rfl, (B6).put (nb hf0).symm (B.nl hf0).symm, (k13.trans k46).other hf0, by rw [upd_ne npf]; exact hp6, ?_, ?_, ?_⟩
    · rw [upd_same, List.map_append]; rfl
    · rw [List.length_append, hl]; rfl
    · intro y hy
      rcases List.mem_append.mp hy with hy | hy
      · exact hn y hy
      · rw [List.mem_singleton.mp hy]; exact hz
  · rintro σ' G' ⟨c1, c2, ns, rfl, B1, k1, hp1, hf1, hl, hn⟩
    exact ⟨_, rfl, k f ns G' hf0 hf1 hl hn B1 k1⟩
end
end Pk
set_option Elab.async false
set_option linter.all false
set_option maxRecDepth 100000
set_option maxHeartbeats 2000000
namespace Pk
open PySem PySem.Spec L2 PyProof.Rows
/-- the law: of a list of at most 63 ints it gives True -/
def sp_law (K : PySem.W.Frag) : Sp := fun vs H Q _ => ∃ (a : Addr) (ns : List Int), vs = [.ref a] ∧ SqL K H a (ns.map V.int) ∧ ns.length ≤ 63 ∧ ∀ H', Q (.bl true) H'
theorem ln_law {K : PySem.W.Frag} {vs : List V} {H : Hp} {Q : VK} {E : XK} (h : sp_law K vs H Q E) : vs.length = 1 := by obtain ⟨_, _, rfl, _⟩ := h; rfl
/-! ### data that is shown -/
theorem small_log {n : Int} (h : n.natAbs ≤ 10 ^ 100) : decide (n.natAbs.log2 < 1920) = true := by
  refine decide_eq_true ?_
  have h2 : n.natAbs < 2 ^ 1920 := by
    have z2 : (10 : Nat) ^ 100 < 2 ^ 1920 := by decide +kernel
    omega
  by_cases e : n.natAbs = 0
  · rw [e]; decide
  · exact (Nat.log2_lt e).mpr h2
theorem good_int {n : Int} (h : n.natAbs ≤ 10 ^ 100) : Good (.int n) := ⟨rfl, small_log h, by simp [siz]⟩
theorem good_bool (b : Bool) : Good (.bool b) := ⟨rfl, rfl, by cases b <;> decide⟩
theorem good_none : Good .none := ⟨rfl, rfl, by decide⟩
theorem shaped_iff {d : PyData} : SeqAt.shaped d = true ↔ d.canLay0 = true ∧ d.depth ≤ 64 := by
  constructor
  · intro h; exact ⟨SeqAt.canLay_of_shaped h, SeqAt.depth_of_shaped h⟩
  · rintro ⟨h1, h2⟩
    show (d.canLay0 && decide (d.depth ≤ 64)) = true
    rw [h1, decide_eq_true h2]; rfl
/-- items of a list or tuple: each one good to a depth and a size -/
structure GoodTo (n m : Nat) (d : PyData) : Prop where
  lay : d.canLay0 = true
  dep : d.depth ≤ n
  wr : d.showable = true
  sz : siz d ≤ m
theorem GoodTo.good {n m : Nat} {d : PyData} (g : GoodTo n m d) (h1 : n ≤ 64 := by decide) (h2 : m ≤ 16000000 := by decide) : Good d :=
  ⟨shaped_iff.mpr ⟨g.lay, Nat.le_trans g.dep h1⟩, g.wr, Nat.le_trans g.sz h2⟩
theorem GoodTo.mono {n m n' m' : Nat} {d : PyData} (g : GoodTo n m d) (h1 : n ≤ n' := by omega) (h2 : m ≤ m' := by omega) : GoodTo n' m' d := ⟨g.lay, Nat.le_trans g.dep h1, g.wr, Nat.le_trans g.sz h2⟩
theorem gt_int {n : Int} (h : n.natAbs ≤ 10 ^ 100) : GoodTo 0 2000 (.int n) := ⟨rfl, by simp [PyData.depth], small_log h, by simp [siz]⟩
theorem gt_bool (b : Bool) : GoodTo 0 8 (.bool b) := ⟨rfl, by simp [PyData.depth], rfl, by simp [siz]⟩
theorem gt_none : GoodTo 0 8 .none := ⟨rfl, by simp [PyData.depth], rfl, by simp [siz]⟩
theorem gt_tree {T : Tr} (h : T.ok) : GoodTo T.lv (5000 * T.lv) T.pd := ⟨T.pd_lay, Nat.le_trans T.pd_depth T.dp_le, T.pd_show h, by have := T.pd_siz; omega⟩
/-- all items of a list good -/
structure AllTo (n m : Nat) (ds : List PyData) : Prop where
  lay : PyData.canLayAll0 ds = true
  dep : PyData.depthAll ds ≤ n
  wr : PyData.showableAll ds = true
  sz : sizL ds ≤ m
theorem at_nil : AllTo 0 0 [] := ⟨rfl, by simp [PyData.depthAll], rfl, by simp [sizL]⟩
theorem at_cons {n m k j : Nat} {d : PyData} {ds : List PyData} (g : GoodTo n m d) (a : AllTo k j ds) : AllTo (max n k) (m + 4 + j) (d :: ds) := by
  refine ⟨?_, ?_, ?_, ?_⟩
  · simp only [PyData.canLayAll0, g.lay, a.lay, Bool.and_self]
  · have h1 := g.dep
    have h2 := a.dep
    simp only [PyData.depthAll]
    omega
  · simp only [PyData.showableAll, g.wr, a.wr, Bool.and_self]
  · have h1 := g.sz
    have h2 := a.sz
    simp only [sizL]
    omega
theorem gt_list {n m : Nat} {ds : List PyData} (a : AllTo n m ds) : GoodTo (n + 1) (8 + m) (.list ds) := by
  refine ⟨?_, ?_, ?_, ?_⟩
  · simp only [PyData.canLay0]; exact a.lay
  · have := a.dep
    simp only [PyData.depth]; omega
  · simp only [PyData.showable]; exact a.wr
  · have := a.sz
    simp only [siz]; omega
theorem gt_tuple {n m : Nat} {ds : List PyData} (a : AllTo n m ds) : GoodTo (n + 1) (8 + m) (.tuple ds) := by
  refine ⟨?_, ?_, ?_, ?_⟩
  · simp only [PyData.canLay0]; exact a.lay
  · have := a.dep
    simp only [PyData.depth]; omega
  · simp only [PyData.showable]; exact a.wr
  · have := a.sz
    simp only [siz]; omega
theorem Tr.give_le : ∀ {T : Tr} {i : Int}, T.ok → 0 ≤ i → 0 ≤ T.give i ∧ T.give i ≤ i
  | .at t q, i, h, h0 => by
    obtain ⟨h1, h2, h3, h4⟩ := h
    show 0 ≤ (if t ≤ i then i - i % q else 0) ∧ (if t ≤ i then i - i % q else 0) ≤ i
    have e1 := Int.emod_nonneg i (show q ≠ 0 by omega)
    have e2 : 0 ≤ q * (i / q) := Int.mul_nonneg (by omega) (Int.ediv_nonneg h0 (by omega))
    have e3 := Int.emod_def i q
    split <;> omega
  | .or a b, i, h, h0 => by
    have q1 := give_le h.1 h0
    have q2 := give_le h.2 h0
    rw [Tr.give_or]
    split <;> omega
  | .and a b, i, h, h0 => by
    have q1 := give_le h.1 h0
    have q2 := give_le h.2 h0
    rw [Tr.give_and]
    split <;> omega
/-! ### the drawn scale -/
theorem scale_text : ∀ n : Nat, n < 31 → PySem.intText? ("1" ++ Txt.mul "0" (n : Int)) = some (10 ^ n) ∧ (("1" : Str) ++ Txt.mul "0" (n : Int)).length ≤ 640 ∧ (Txt.mul "0" (n : Int)).length ≤ 100 := by decide +kernel
end Pk
set_option Elab.async false
set_option linter.all false
set_option maxRecDepth 100000
set_option maxHeartbeats 2000000
namespace Pk
open PySem PySem.Spec L2 PyProof.Rows
section
variable {K : PySem.W.Frag} {C : Cs} {vs : List V} {H H' G G' : Hp} {Q : VK} {E : XK} {n : Nat}
theorem Kp.free {b D : Addr} {ys : List V} (k : Kp b H G) (hb : G b = some (.lst ys)) (h : G D = none) : H D = none := by
  cases e : H D with
  | none => rfl
  | some o =>
    by_cases q : D = b
    · rw [q, hb] at h; cases h
    · rw [k D o e q] at h; cases h
theorem Kp.freeB {b l D : Addr} (k : Kp b H G) (B : Bag G b l) (h : G D = none) : H D = none := by
  obtain ⟨ys, hb⟩ := B.at
  exact k.free hb h
/-- scale = int('1' + '0' * take(bag, 31)) -/
theorem scale_asg {i j : Nat} {D : Ends} {σ : L2.St} {b l : Addr} (hv : σ[i]? = some (some (.ref b))) (B : Bag H b l) (k : ∀ sc H', 1 ≤ sc → sc ≤ 10 ^ 30 → Bag H' b l → Kp b H H' → D.nx (σ.set j (some (.int sc))) H') :
    tAsg (tCB (rIntU) (tCons (tOp (rAddU K) (tC (.str "1")) (tOp (rMulU K) (tC (.str "0")) (tCall (sp_law_take K) [] E0 (tCons (tVar i) (tCons (tC (.int 31)) tNil))))) tNil)) (gName j) D σ H := by
  refine ⟨_, hv, b, l, 31, rfl, B, by decide, by decide, fun e H2 e0 e1 B1 k1 => ?_⟩
  obtain ⟨m, rfl⟩ : ∃ m : Nat, e = (m : Int) := ⟨e.toNat, by omega⟩
  obtain ⟨q1, q2, q3⟩ := scale_text m (by omega)
  refine .inr (.inl ⟨_, _, rfl, rfl, by decide, by omega, by omega, .inr (.inl ⟨_, _, rfl, rfl, ?_, .inr ⟨_, _, rfl, q1, q2, ?_⟩⟩)⟩)
  · have e : ((Str.ofString "1").length) = 1 := rfl
    exact Nat.le_of_lt (small1000 (by omega))
  have sc1 : (1 : Int) ≤ 10 ^ m := Int.pow_pos (by decide)
  have sc2 : (10 : Int) ^ m ≤ 10 ^ 30 := by
    have h := Nat.pow_le_pow_right (n := 10) (by decide) (show m ≤ 30 by omega)
    exact_mod_cast h
  exact k _ _ sc1 sc2 B1 k1
/-! ### thresholds -/
def imin (i j : Int) : Int := if j < i then j else i
def Tr.top : Tr → Int
  | .at t q => imax t q
  | .or a b => imin (top a) (top b)
  | .and a b => imax (top a) (top b)
def Tr.by_ : Tr → List Int
  | .at _ q => [q]
  | .or a b => by_ a ++ by_ b
  | .and a b => by_ a ++ by_ b
theorem Tr.by_len : ∀ T : Tr, T.by_.length = T.lv
  | .at _ _ => rfl
  | .or a b => by show (by_ a ++ by_ b).length = _; rw [List.length_append, by_len a, by_len b]; rfl
  | .and a b => by show (by_ a ++ by_ b).length = _; rw [List.length_append, by_len a, by_len b]; rfl
theorem Tr.by_ok : ∀ {T : Tr}, T.ok → ∀ q ∈ T.by_, 1 ≤ q ∧ q ≤ 6
  | .at t q, h, i, hi => by
    obtain ⟨h1, h2, h3, h4⟩ := h
    rw [List.mem_singleton.mp hi]
    exact ⟨h3, h4⟩
  | .or a b, h, i, hi => (List.mem_append.mp hi).elim (by_ok h.1 i) (by_ok h.2 i)
  | .and a b, h, i, hi => (List.mem_append.mp hi).elim (by_ok h.1 i) (by_ok h.2 i)
theorem Tr.top_ok : ∀ {T : Tr}, T.ok → 1 ≤ T.top ∧ T.top ≤ 10 ^ 50
  | .at t q, h => by
    obtain ⟨h1, h2, h3, h4⟩ := h
    show 1 ≤ imax t q ∧ imax t q ≤ 10 ^ 50
    unfold imax
    split <;> omega
  | .or a b, h => by
    have h1 := top_ok h.1
    have h2 := top_ok h.2
    show 1 ≤ imin a.top b.top ∧ imin a.top b.top ≤ 10 ^ 50
    unfold imin
    split <;> omega
  | .and a b, h => by
    have h1 := top_ok h.1
    have h2 := top_ok h.2
    show 1 ≤ imax a.top b.top ∧ imax a.top b.top ≤ 10 ^ 50
    unfold imax
    split <;> omega
/-- [5]: what rests is below the threshold; nothing is given just below it -/
theorem Tr.rest_lt : ∀ {T : Tr} {i : Int}, T.ok → 0 ≤ i → i - T.give i < T.top ∧ (T.give i = 0 ↔ i < T.top)
  | .at t q, i, h, h0 => by
    obtain ⟨h1, h2, h3, h4⟩ := h
    have e1 := Int.emod_nonneg i (show q ≠ 0 by omega)
    have e2 := Int.emod_lt_of_pos i (show 0 < q by omega)
    have eg : (Tr.at t q).give i = if t ≤ i then i - i % q else 0 := rfl
    have et : (Tr.at t q).top = imax t q := rfl
    rw [eg, et]
    unfold imax
    by_cases c : t ≤ i
    · rw [if_pos c]
      have e3 : i < q → i % q = i := fun z => Int.emod_eq_of_lt h0 z
      constructor
      · split <;> omega
      · constructor
        · intro z
          split <;> omega
        · intro z
          split at z
          · have := e3 z; omega
          · omega
    · rw [if_neg c]
      constructor
      · split <;> omega
      · constructor
        · intro _
          split <;> omega
        · intro _; rfl
  | .or a b, i, h, h0 => by
    have q1 := rest_lt h.1 h0
    have q2 := rest_lt h.2 h0
    have g1 := Tr.give_le h.1 h0
    have g2 := Tr.give_le h.2 h0
    have et : (Tr.or a b).top = imin a.top b.top := rfl
    rw [Tr.give_or, et]
    unfold imin
    obtain ⟨r1, s1⟩ := q1
    obtain ⟨r2, s2⟩ := q2
    constructor
    · split <;> split <;> omega
    · constructor
      · intro z
        split at z <;> split <;> omega
      · intro z
        split at z <;> split <;> omega
  | .and a b, i, h, h0 => by
    have q1 := rest_lt h.1 h0
    have q2 := rest_lt h.2 h0
    have g1 := Tr.give_le h.1 h0
    have g2 := Tr.give_le h.2 h0
    have et : (Tr.and a b).top = imax a.top b.top := rfl
    rw [Tr.give_and, et]
    unfold imax
    obtain ⟨r1, s1⟩ := q1
    obtain ⟨r2, s2⟩ := q2
    constructor
    · split <;> split <;> omega
    · constructor
      · intro z
        split at z <;> split <;> omega
      · intro z
        split at z <;> split <;> omega
/-- from the threshold on a remainder by one of the multiples rests -/
theorem Tr.rest_by : ∀ {T : Tr} {i : Int}, T.ok → 0 ≤ i → T.top ≤ i → ∃ q ∈ T.by_, i - T.give i = i % q
  | .at t q, i, h, h0, hi => by
    obtain ⟨h1, h2, h3, h4⟩ := h
    have et : (Tr.at t q).top = imax t q := rfl
    have eg : (Tr.at t q).give i = if t ≤ i then i - i % q else 0 := rfl
    rw [et] at hi
    unfold imax at hi
    refine ⟨q, List.mem_singleton.mpr rfl, ?_⟩
    rw [eg, if_pos (by split at hi <;> omega)]
    omega
  | .or a b, i, h, h0, hi => by
    have q1 := rest_lt h.1 h0
    have q2 := rest_lt h.2 h0
    have g1 := Tr.give_le h.1 h0
    have g2 := Tr.give_le h.2 h0
    have et : (Tr.or a b).top = imin a.top b.top := rfl
    rw [et] at hi
    unfold imin at hi
    rw [Tr.give_or]
    have left : a.top ≤ i → ∃ q ∈ (Tr.or a b).by_, i - a.give i = i % q := fun z => by
      obtain ⟨q, m, e⟩ := rest_by h.1 h0 z
      exact ⟨q, List.mem_append_left _ m, e⟩
    have right : b.top ≤ i → ∃ q ∈ (Tr.or a b).by_, i - b.give i = i % q := fun z => by
      obtain ⟨q, m, e⟩ := rest_by h.2 h0 z
      exact ⟨q, List.mem_append_right _ m, e⟩
    obtain ⟨r1, s1⟩ := q1
    obtain ⟨r2, s2⟩ := q2
    by_cases c : b.give i > a.give i
    · rw [if_pos c]
      exact right (by omega)
    · rw [if_neg c]
      refine left ?_
      split at hi <;> omega
  | .and a b, i, h, h0, hi => by
    have g1 := Tr.give_le h.1 h0
    have g2 := Tr.give_le h.2 h0
    have et : (Tr.and a b).top = imax a.top b.top := rfl
    rw [et] at hi
    unfold imax at hi
    rw [Tr.give_and]
    by_cases c : b.give i < a.give i
    · rw [if_pos c]
      obtain ⟨q, m, e⟩ := rest_by h.2 h0 (show b.top ≤ i by split at hi <;> omega)
      exact ⟨q, List.mem_append_right _ m, e⟩
    · rw [if_neg c]
      obtain ⟨q, m, e⟩ := rest_by h.1 h0 (show a.top ≤ i by split at hi <;> omega)
      exact ⟨q, List.mem_append_left _ m, e⟩
def sp_threshold_of (K : PySem.W.Frag) (n : Nat) : Sp := fun vs H Q _ => ∃ v T, vs = [v] ∧ TrAt K H v T ∧ T.dp ≤ n ∧ Q (.int T.top) H
def t_threshold_of (K : PySem.W.Frag) (n : Nat) : TS :=
  (tSeq (tAsg (tVar 0) (gTup K 3 (gCons (gName 1) (gCons (gName 2) (gCons (gName 3) gNil)))))
    (tSeq (tIfS (tTest (tOp (rEqU K) (tVar 1) (tC (.str "at")))) (tRet (tCB (rMax2) (tCons (tVar 2) (tCons (tVar 3) tNil)))) tNext)
    (tSeq (tIfS (tTest (tOp (rEqU K) (tVar 1) (tC (.str "or")))) (tRet (tCB (rMin2) (tCons (tCall (sp_threshold_of K n) [] E0 (tCons (tVar 2) tNil)) (tCons (tCall (sp_threshold_of K n) [] E0 (tCons (tVar 3) tNil)) tNil)))) tNext)
    (tRet (tCB (rMax2) (tCons (tCall (sp_threshold_of K n) [] E0 (tCons (tVar 2) tNil)) (tCons (tCall (sp_threshold_of K n) [] E0 (tCons (tVar 3) tNil)) tNil)))))))
theorem no_threshold_of (h : sp_threshold_of K 0 vs H Q E) : False := by
  obtain ⟨_, T, _, _, h, _⟩ := h
  have := T.dp_pos
  omega
theorem ln_threshold_of (h : sp_threshold_of K n vs H Q E) : vs.length = 1 := by obtain ⟨_, _, rfl, _⟩ := h; rfl
theorem rd_threshold_of (h : sp_threshold_of K (n + 1) vs H Q E) : t_threshold_of K n (EndsOf Q) (start ["", "", "", ""] vs) H := by
  obtain ⟨v, T, rfl, hT, hd, k⟩ := h
  obtain ⟨a, w, x, y, rfl, s, cw⟩ := hT.tuple
  refine ⟨_, rfl, g3 s ?_⟩
  refine ⟨_, rfl, .inl ⟨rfl, _, rfl, ?_⟩⟩
  rcases cw with ⟨rfl, t, q, rfl, rfl, rfl⟩ | ⟨rfl, A, B, rfl, hA, hB⟩ | ⟨rfl, A, B, rfl, hA, hB⟩
  · refine ifS (fun _ => ?_) (fun z => absurd rfl z)
    exact ⟨_, rfl, _, rfl, _, _, rfl, k⟩
  · refine ifS (fun z => absurd z or_at) (fun _ => ?_)
    refine ⟨_, rfl, .inl ⟨rfl, _, rfl, ?_⟩⟩
    refine ifS (fun _ => ?_) (fun z => absurd rfl z)
    have hd' : max A.dp B.dp + 1 ≤ n + 1 := hd
    exact ⟨_, rfl, x, A, rfl, hA, by omega, _, rfl, y, B, rfl, hB, by omega, _, _, rfl, k⟩
  · refine ifS (fun z => absurd z and_at) (fun _ => ?_)
    refine ⟨_, rfl, .inl ⟨rfl, _, rfl, ?_⟩⟩
    refine ifS (fun z => absurd z and_or) (fun _ => ?_)
    have hd' : max A.dp B.dp + 1 ≤ n + 1 := hd
    exact ⟨_, rfl, x, A, rfl, hA, by omega, _, rfl, y, B, rfl, hB, by omega, _, _, rfl, k⟩
def sp_Rule_threshold (K : PySem.W.Frag) (C : Cs) : Sp := fun vs H Q _ => ∃ v T, vs = [v] ∧ RuleAt K C H v T ∧ Q (.int T.top) H
def t_Rule_threshold (K : PySem.W.Frag) : TS :=
  (tRet (tCall (sp_threshold_of K 7) [] E0 (tCons (tFld K (tVar 0) "_tree") tNil)))
theorem ln_Rule_threshold (h : sp_Rule_threshold K C vs H Q E) : vs.length = 1 := by obtain ⟨_, _, rfl, _⟩ := h; rfl
theorem rd_Rule_threshold (h : sp_Rule_threshold K C vs H Q E) : t_Rule_threshold K (EndsOf Q) (start [""] vs) H := by
  obtain ⟨v, T, rfl, ⟨a, dx, u, rfl, ha, hT, ok, l6, fx⟩, k⟩ := h
  exact ⟨_, rfl, a, _, dx, _, u, rfl, ha, fx.cl, fx.no, rfl, u, T, rfl, hT, Tr.dp6 l6, k⟩
def sp_law_threshold (K : PySem.W.Frag) (n : Nat) : Sp := fun vs H Q _ => ∃ v T, vs = [v] ∧ TrAt K H v T ∧ T.dp ≤ n ∧ ∀ H', Same H H' → Q (.int T.top) H'
def t_law_threshold (K : PySem.W.Frag) (n : Nat) : TS :=
  (tSeq (tAsg (tVar 0) (gTup K 3 (gCons (gName 1) (gCons (gName 2) (gCons (gName 3) gNil)))))
    (tSeq (tIfS (tTest (tOp (rEqU K) (tVar 1) (tC (.str "at")))) (tRet (tCB (rMax2) (tCons (tVar 2) (tCons (tVar 3) tNil)))) tNext)
    (tSeq (tAsg (tLst (tCons (tCall (sp_law_threshold K n) [] E0 (tCons (tVar 2) tNil)) (tCons (tCall (sp_law_threshold K n) [] E0 (tCons (tVar 3) tNil)) tNil))) (gName 4))
    (tRet (tIf (tTest (tOp (rEqU K) (tVar 1) (tC (.str "or")))) (tCB (rMin K) (tCons (tVar 4) tNil)) (tCB (rMax K) (tCons (tVar 4) tNil)))))))
theorem no_law_threshold (h : sp_law_threshold K 0 vs H Q E) : False := by
  obtain ⟨_, T, _, _, h, _⟩ := h
  have := T.dp_pos
  omega
theorem ln_law_threshold (h : sp_law_threshold K n vs H Q E) : vs.length = 1 := by obtain ⟨_, _, rfl, _⟩ := h; rfl
theorem two_max {x y m : Int} (hm : m ∈ [x, y]) (hy : ∀ z, z ∈ [x, y] → z ≤ m) : m = imax x y := by
  have h1 := hy x (List.mem_cons_self ..)
  have h2 := hy y (List.mem_cons_of_mem _ (List.mem_cons_self ..))
  unfold imax
  rcases List.mem_cons.mp hm with rfl | hm
  · split <;> omega
  · have := List.mem_singleton.mp hm
    split <;> omega
theorem two_min {x y m : Int} (hm : m ∈ [x, y]) (hy : ∀ z, z ∈ [x, y] → m ≤ z) : m = imin x y := by
  have h1 := hy x (List.mem_cons_self ..)
  have h2 := hy y (List.mem_cons_of_mem _ (List.mem_cons_self ..))
  unfold imin
  rcases List.mem_cons.mp hm with rfl | hm
  · split <;> omega
  · have := List.mem_singleton.mp hm
    split <;> omega
theorem rd_law_threshold (h : sp_law_threshold K (n + 1) vs H Q E) : t_law_threshold K n (EndsOf Q) (start ["", "", "", "", ""] vs) H := by
  obtain ⟨v, T, rfl, hT, hd, k⟩ := h
  obtain ⟨a, w, x, y, rfl, s, cw⟩ := hT.tuple
  refine ⟨_, rfl, g3 s ?_⟩
  refine ⟨_, rfl, .inl ⟨rfl, _, rfl, ?_⟩⟩
  rcases cw with ⟨rfl, t, q, rfl, rfl, rfl⟩ | ⟨rfl, A, B, rfl, hA, hB⟩ | ⟨rfl, A, B, rfl, hA, hB⟩
  · refine ifS (fun _ => ?_) (fun z => absurd rfl z)
    exact ⟨_, rfl, _, rfl, _, _, rfl, k H (Same.refl H)⟩
  · refine ifS (fun z => absurd z or_at) (fun _ => ?_)
    have hd' : max A.dp B.dp + 1 ≤ n + 1 := hd
    refine ⟨_, rfl, x, A, rfl, hA, by omega, fun H1 s1 => ⟨_, rfl, y, B, rfl, hB.mono (Tups.same s1), by omega, fun H2 s2 => ⟨two_fit.2.1, fun p hp => ?_⟩⟩⟩
    refine ⟨_, rfl, .inl ⟨rfl, _, rfl, ?_⟩⟩
    refine ifS (fun _ => ?_) (fun z => absurd rfl z)
    refine ⟨_, rfl, p, [A.top, B.top], rfl, SqL.of upd_same, Nat.succ_pos _, fun m hm hy => ?_⟩
    rw [two_min hm hy]
    exact k _ ((s1.trans s2).trans (same_new hp))
  · refine ifS (fun z => absurd z and_at) (fun _ => ?_)
    have hd' : max A.dp B.dp + 1 ≤ n + 1 := hd
    refine ⟨_, rfl, x, A, rfl, hA, by omega, fun H1 s1 => ⟨_, rfl, y, B, rfl, hB.mono (Tups.same s1), by omega, fun H2 s2 => ⟨two_fit.2.1, fun p hp => ?_⟩⟩⟩
    refine ⟨_, rfl, .inl ⟨rfl, _, rfl, ?_⟩⟩
    refine ifS (fun z => absurd z and_or) (fun _ => ?_)
    refine ⟨_, rfl, p, [A.top, B.top], rfl, SqL.of upd_same, Nat.succ_pos _, fun m hm hy => ?_⟩
    rw [two_max hm hy]
    exact k _ ((s1.trans s2).trans (same_new hp))
def sp_law_parts_of (K : PySem.W.Frag) (n : Nat) : Sp := fun vs H Q _ => ∃ v T, vs = [v] ∧ TrAt K H v T ∧ T.dp ≤ n ∧ T.lv ≤ 100 ∧ ∀ p H', H p = none → Same H H' → H' p = some (.lst (T.by_.map V.int)) → Q (.ref p) H'
def t_law_parts_of (K : PySem.W.Frag) (n : Nat) : TS :=
  (tSeq (tAsg (tVar 0) (gTup K 3 (gCons (gName 1) (gCons (gName 2) (gCons (gName 3) gNil)))))
    (tRet (tIf (tTest (tOp (rEqU K) (tVar 1) (tC (.str "at")))) (tLst (tCons (tVar 3) tNil)) (tOp (rAddU K) (tCall (sp_law_parts_of K n) [] E0 (tCons (tVar 2) tNil)) (tCall (sp_law_parts_of K n) [] E0 (tCons (tVar 3) tNil))))))
theorem no_law_parts_of (h : sp_law_parts_of K 0 vs H Q E) : False := by
  obtain ⟨_, T, _, _, h, _⟩ := h
  have := T.dp_pos
  omega
theorem ln_law_parts_of (h : sp_law_parts_of K n vs H Q E) : vs.length = 1 := by obtain ⟨_, _, rfl, _⟩ := h; rfl
theorem rd_law_parts_of (h : sp_law_parts_of K (n + 1) vs H Q E) : t_law_parts_of K n (EndsOf Q) (start ["", "", "", ""] vs) H := by
  obtain ⟨v, T, rfl, hT, hd, hl, k⟩ := h
  obtain ⟨a, w, x, y, rfl, s, cw⟩ := hT.tuple
  refine ⟨_, rfl, g3 s ?_⟩
  refine ⟨_, rfl, .inl ⟨rfl, _, rfl, ?_⟩⟩
  have two : ∀ {A B : Tr}, T.by_ = A.by_ ++ B.by_ → T.lv = A.lv + B.lv → max A.dp B.dp + 1 ≤ n + 1 → TrAt K H x A → TrAt K H y B →
      tOp (rAddU K) (tCall (sp_law_parts_of K n) [] E0 (tCons (tVar 2) tNil)) (tCall (sp_law_parts_of K n) [] E0 (tCons (tVar 3) tNil)) [some (.ref a), some (.str w), some x, some y] H Q := by
    intro A B e1 e2 hd' hA hB
    refine ⟨_, rfl, x, A, rfl, hA, by omega, by omega, fun p H1 hp s1 h1 => ?_⟩
    refine ⟨_, rfl, y, B, rfl, hB.mono (Tups.same s1), by omega, by omega, fun p2 H2 hp2 s2 h2 => ?_⟩
    refine .inr (.inr (.inl ⟨p, p2, _, _, rfl, rfl, s2 _ _ h1, h2, ?_, fun r hr => ?_⟩))
    · rw [List.length_map, List.length_map, A.by_len, B.by_len]
      exact Nat.le_of_lt (small1000 (by omega))
    · refine k r _ ((s1.trans s2).free hr) ((s1.trans s2).trans (same_new hr)) ?_
      rw [upd_same, e1, List.map_append]
  rcases cw with ⟨rfl, t, q, rfl, rfl, rfl⟩ | ⟨rfl, A, B, rfl, hA, hB⟩ | ⟨rfl, A, B, rfl, hA, hB⟩
  · refine ifS (fun _ => ?_) (fun z => absurd rfl z)
    exact ⟨_, rfl, two_fit.1, fun p hp => k p _ hp (same_new hp) upd_same⟩
  · refine ifS (fun z => absurd z or_at) (fun _ => ?_)
    exact two rfl rfl hd hA hB
  · refine ifS (fun z => absurd z and_at) (fun _ => ?_)
    exact two rfl rfl hd hA hB
theorem inV_int {r : Int} {ns : List Int} (h : r ∈ ns) : inV (.int r) (ns.map V.int) = true := by
  unfold inV
  rw [List.any_map]
  exact List.any_eq_true.mpr ⟨r, h, by show (r == r) = true; exact beq_self_eq_true r⟩
theorem flat_ints (ns : List Int) : (ns.map V.int).all flatV = true := by
  induction ns with
  | nil => rfl
  | cons x r ih => exact ih
end
end Pk
set_option Elab.async false
set_option linter.all false
set_option maxRecDepth 100000
set_option maxHeartbeats 2000000
namespace Pk
open PySem PySem.Spec L2 PyProof.Rows
/-! ### amounts of one size, one after another -/
/-- what is withheld behind so many amounts of size z -/
def Tr.kp (T : Tr) (z w : Int) : Nat → Int
  | 0 => w
  | n + 1 => (kp T z w n + z) - T.give (kp T z w n + z)
/-- the greatest that is withheld ahead of one of them -/
def Tr.pk (T : Tr) (z w : Int) : Nat → Int
  | 0 => 0
  | n + 1 => max (pk T z w n) (kp T z w n)
section
variable {T : Tr} {z w : Int}
theorem Tr.kp_s (n : Nat) : T.kp z w (n + 1) = (T.kp z w n + z) - T.give (T.kp z w n + z) := rfl
theorem Tr.pk_s (n : Nat) : T.pk z w (n + 1) = max (T.pk z w n) (T.kp z w n) := rfl
theorem Tr.kp_add (n : Nat) : ∀ m : Nat, T.kp z w (n + m) = T.kp z (T.kp z w n) m
  | 0 => rfl
  | m + 1 => by
    show (T.kp z w (n + m) + z) - T.give (T.kp z w (n + m) + z) = _
    rw [kp_add n m]
    rfl
theorem Tr.pk_nn : ∀ n : Nat, 0 ≤ T.pk z w n
  | 0 => Int.le_refl _
  | n + 1 => by
    have := pk_nn n
    show 0 ≤ max (T.pk z w n) (T.kp z w n)
    omega
theorem Tr.pk_add (n : Nat) : ∀ m : Nat, T.pk z w (n + m) = max (T.pk z w n) (T.pk z (T.kp z w n) m)
  | 0 => by
    have := Tr.pk_nn (T := T) (z := z) (w := w) n
    show T.pk z w n = max (T.pk z w n) 0
    omega
  | m + 1 => by
    show max (T.pk z w (n + m)) (T.kp z w (n + m)) = max (T.pk z w n) (max (T.pk z (T.kp z w n) m) (T.kp z (T.kp z w n) m))
    rw [pk_add n m, Tr.kp_add]
    omega
theorem Tr.kp_ok (ok : T.ok) (z1 : 1 ≤ z) (w0 : 0 ≤ w) (w1 : w < T.top) : ∀ n : Nat, 0 ≤ T.kp z w n ∧ T.kp z w n < T.top
  | 0 => ⟨w0, w1⟩
  | n + 1 => by
    obtain ⟨h1, h2⟩ := kp_ok ok z1 w0 w1 n
    have g := Tr.give_le ok (show 0 ≤ T.kp z w n + z by omega)
    have r := Tr.rest_lt ok (show 0 ≤ T.kp z w n + z by omega)
    rw [Tr.kp_s]
    omega
theorem Tr.pk_lt (ok : T.ok) (z1 : 1 ≤ z) (w0 : 0 ≤ w) (w1 : w < T.top) : ∀ n : Nat, T.pk z w n < T.top
  | 0 => by
    show 0 < T.top
    omega
  | n + 1 => by
    have h := pk_lt ok z1 w0 w1 n
    have h2 := Tr.kp_ok ok z1 w0 w1 n
    rw [Tr.pk_s]
    omega
theorem Tr.kp_le (ok : T.ok) (z1 : 1 ≤ z) (w0 : 0 ≤ w) : ∀ n : Nat, 0 ≤ T.kp z w n ∧ T.kp z w n ≤ w + n * z
  | 0 => by
    show 0 ≤ w ∧ w ≤ w + 0 * z
    omega
  | n + 1 => by
    obtain ⟨h1, h2⟩ := kp_le ok z1 w0 n
    have g := Tr.give_le ok (show 0 ≤ T.kp z w n + z by omega)
    rw [Tr.kp_s, Int.natCast_add, Int.add_mul]
    omega
theorem Tr.kp_few (ok : T.ok) (z1 : 1 ≤ z) (w0 : 0 ≤ w) : ∀ n : Nat, w + (n : Int) * z < T.top → T.kp z w n = w + n * z ∧ T.pk z w (n + 1) = w + n * z
  | 0, h => by
    show w = w + 0 * z ∧ max 0 w = w + 0 * z
    omega
  | n + 1, h => by
    have e : ((n + 1 : Nat) : Int) * z = n * z + z := by rw [Int.natCast_add, Int.add_mul]; omega
    have nz : 0 ≤ (n : Int) * z := Int.mul_nonneg (by omega) (by omega)
    rw [e] at h ⊢
    obtain ⟨h1, h2⟩ := kp_few ok z1 w0 n (by omega)
    have r := (Tr.rest_lt ok (show 0 ≤ w + n * z + z by omega)).2.mpr (by omega)
    have e1 : T.kp z w (n + 1) = w + (n * z + z) := by
      rw [Tr.kp_s, h1, r]
      omega
    refine ⟨e1, ?_⟩
    rw [Tr.pk_s, h2, e1]
    omega
theorem Tr.kp_loop {d : Nat} (h : T.kp z w d = w) : ∀ t : Nat, T.kp z w (t * d) = w ∧ T.pk z w (t * d) ≤ T.pk z w d
  | 0 => by
    have := Tr.pk_nn (T := T) (z := z) (w := w) d
    rw [Nat.zero_mul]
    exact ⟨rfl, this⟩
  | t + 1 => by
    obtain ⟨h1, h2⟩ := kp_loop h t
    rw [Nat.succ_mul, Tr.kp_add, Tr.pk_add, h1, h]
    omega
end
/-- how many amounts, until the rule gives -/
theorem steps_ok {a z : Int} (h : 1 ≤ a) (z1 : 1 ≤ z) : 1 ≤ (a + z - 1) / z ∧ a ≤ (a + z - 1) / z * z ∧ ((a + z - 1) / z - 1) * z < a ∧ (a + z - 1) / z ≤ a + z - 1 := by
  have e := Int.emod_def (a + z - 1) z
  have r0 := Int.emod_nonneg (a + z - 1) (show z ≠ 0 by omega)
  have r1 := Int.emod_lt_of_pos (a + z - 1) (show 0 < z by omega)
  have s := Int.ediv_le_self z (show 0 ≤ a + z - 1 by omega)
  generalize (a + z - 1) / z = q at *
  have e2 : z * q = q * z := Int.mul_comm _ _
  have e3 : (q - 1) * z = q * z - z := by rw [Int.sub_mul]; omega
  refine ⟨?_, by omega, by omega, s⟩
  by_cases c : 1 ≤ q
  · exact c
  · have : q * z ≤ 0 := Int.mul_nonpos_of_nonpos_of_nonneg (by omega) (by omega)
    omega
theorem mul_ok {i j : Int} (h1 : i.natAbs ≤ 10 ^ 100) (h2 : j.natAbs ≤ 10 ^ 100) : CMul i j ∨ CMulW i j := by
  have z2 : (10 : Nat) ^ 100 < 2 ^ 1000 := by decide +kernel
  exact .inr (wide_mul (a := 1000) (b := 1000) (by omega) (by omega) (by decide) (by decide) (by decide))
/-- where the loop stands, by numbers alone -/
structure Rp (T : Tr) (z w : Int) (M L : Nat) (c t p : Int) : Prop where
  c0 : 0 ≤ c
  c1 : c < T.top
  p0 : 0 ≤ p
  le : L ≤ M
  kp : T.kp z w M = T.kp z c L
  tot : w + M * z = t + c + L * z
  pk : max w (T.pk z w M) = max p (T.pk z c L)
section
variable {T : Tr} {z w : Int} {M L : Nat} {c t p : Int}
theorem Rp.give (R : Rp T z w M L c t p) (ok : T.ok) (z1 : 1 ≤ z) {n : Nat} (h1 : c + n * z < T.top) (hL : n + 1 ≤ L) {c' : Int} (hc : c' = c + ((n + 1 : Nat) : Int) * z - T.give (c + ((n + 1 : Nat) : Int) * z)) :
    c' = T.kp z c (n + 1) ∧ T.pk z c (n + 1) = c + n * z ∧ Rp T z w M (L - (n + 1)) c' (t + (c + ((n + 1 : Nat) : Int) * z) - c') (max p (c + n * z)) := by
  obtain ⟨q1, q2⟩ := Tr.kp_few ok z1 R.c0 n h1
  have e : ((n + 1 : Nat) : Int) * z = n * z + z := by rw [Int.natCast_add, Int.add_mul]; omega
  have ec : c' = T.kp z c (n + 1) := by
    rw [Tr.kp_s, q1, hc, e, ← Int.add_assoc]
  obtain ⟨b0, b1⟩ := Tr.kp_ok ok z1 R.c0 R.c1 (n + 1)
  have el : ((L - (n + 1) : Nat) : Int) * z = L * z - ((n + 1 : Nat) : Int) * z := by
    rw [Int.ofNat_sub hL, Int.sub_mul]
  have sp : L = (n + 1) + (L - (n + 1)) := by omega
  refine ⟨ec, q2, ⟨by omega, by omega, ?_, by have := R.le; omega, ?_, ?_, ?_⟩⟩
  · have := R.p0; omega
  · rw [R.kp, ec, ← Tr.kp_add, ← sp]
  · have := R.tot
    rw [el]
    omega
  · rw [R.pk, ec]
    have h : T.pk z c L = max (T.pk z c (n + 1)) (T.pk z (T.kp z c (n + 1)) (L - (n + 1))) := by
      rw [← Tr.pk_add, ← sp]
    rw [h, q2]
    omega
theorem Rp.skip (R : Rp T z w M L c t p) {d : Nat} (hk : T.kp z c d = c) (hp : T.pk z c d ≤ p) (d1 : 1 ≤ d) : Rp T z w M (L - L / d * d) c (t + (((L / d * d : Nat) : Int)) * z) p := by
  have le : L / d * d ≤ L := Nat.div_mul_le_self L d
  obtain ⟨h1, h2⟩ := Tr.kp_loop hk (L / d)
  have sp : L = L / d * d + (L - L / d * d) := by omega
  refine ⟨R.c0, R.c1, R.p0, by have := R.le; omega, ?_, ?_, ?_⟩
  · have h : T.kp z c L = T.kp z (T.kp z c (L / d * d)) (L - L / d * d) := by rw [← Tr.kp_add, ← sp]
    rw [R.kp, h, h1]
  · have := R.tot
    rw [Int.ofNat_sub le, Int.sub_mul]
    omega
  · have h : T.pk z c L = max (T.pk z c (L / d * d)) (T.pk z (T.kp z c (L / d * d)) (L - L / d * d)) := by rw [← Tr.pk_add, ← sp]
    have := Tr.pk_nn (T := T) (z := z) (w := c) (L - L / d * d)
    rw [R.pk, h, h1]
    omega
end
/-! ### what was seen -/
def Seen (lo : Nat) (K : PySem.W.Frag) (T : Tr) (z : Int) (G : Hp) (kvs : List (Key × V)) (L : Nat) (c t p : Int) : Prop :=
  ∀ i v, valV kvs (.inl i) = some v → ∃ (a : Addr) (l' t' : Int) (e : Nat), v = .ref a ∧ SqT K G a [.int l', .int t'] ∧ l' = (L : Int) + e ∧ T.kp z i e = c ∧ i + e * z = t - t' + c ∧ T.pk z i e ≤ p ∧ lo ≤ e ∧ l' ≤ 10 ^ 40
section
variable {K : PySem.W.Frag} {T : Tr} {z w : Int} {M L : Nat} {c t p : Int} {G G' : Hp} {kvs : List (Key × V)}
theorem Seen.weak {lo : Nat} (S : Seen lo K T z G kvs L c t p) : Seen 0 K T z G kvs L c t p := fun i v h => by
  obtain ⟨a, l', t', e, h1, h2, h3, h4, h5, h6, h7, h8⟩ := S i v h
  exact ⟨a, l', t', e, h1, h2, h3, h4, h5, h6, Nat.zero_le _, h8⟩
theorem Seen.mono {lo : Nat} (S : Seen lo K T z G kvs L c t p) (s : Tups K G G') : Seen lo K T z G' kvs L c t p := fun i v h => by
  obtain ⟨a, l', t', e, h1, h2, r⟩ := S i v h
  exact ⟨a, l', t', e, h1, s _ _ h2, r⟩
/-- from here so many amounts on -/
theorem Seen.go {lo : Nat} (S : Seen lo K T z G kvs L c t p) {n : Nat} {c' t' p' : Int} (hL : n ≤ L) (hc : c' = T.kp z c n) (hp : p ≤ p') (hp2 : T.pk z c n ≤ p') (ht : c + n * z = t' - t + c') : Seen n K T z G kvs (L - n) c' t' p' := fun i v h => by
  obtain ⟨a, l', t0, e, h1, h2, h3, h4, h5, h6, h7, h8⟩ := S i v h
  refine ⟨a, l', t0, e + n, h1, h2, by omega, ?_, ?_, ?_, by omega, h8⟩
  · rw [Tr.kp_add, h4, hc]
  · rw [Int.natCast_add, Int.add_mul]
    omega
  · rw [Tr.pk_add, h4]
    omega
theorem Seen.put (S : Seen 0 K T z G kvs L c t p) (hp : 0 ≤ p) (hL : (L : Int) ≤ 10 ^ 40) {a : Addr} (ha : SqT K G a [.int L, .int t]) : Seen 0 K T z G (putK kvs (.inl c) (.ref a)) L c t p := fun i v h => by
  rw [valV_put] at h
  by_cases e : i = c
  · subst e
    rw [if_pos rfl] at h
    cases h
    exact ⟨a, L, t, 0, rfl, ha, by omega, rfl, by omega, hp, Nat.le_refl _, hL⟩
  · rw [if_neg (fun z => e (Sum.inl.inj z))] at h
    exact S i v h
def bit (o : Option V) : Nat := if o.isSome = true then 1 else 0
def cnt (kvs : List (Key × V)) : Nat := bit (valV kvs (.inl 0)) + bit (valV kvs (.inl 1)) + bit (valV kvs (.inl 2)) + bit (valV kvs (.inl 3)) + bit (valV kvs (.inl 4)) + bit (valV kvs (.inl 5))
theorem bit_le (o : Option V) : bit o ≤ 1 := by unfold bit; split <;> omega
theorem cnt_le (kvs : List (Key × V)) : cnt kvs ≤ 6 := by
  unfold cnt
  have h0 := bit_le (valV kvs (.inl 0))
  have h1 := bit_le (valV kvs (.inl 1))
  have h2 := bit_le (valV kvs (.inl 2))
  have h3 := bit_le (valV kvs (.inl 3))
  have h4 := bit_le (valV kvs (.inl 4))
  have h5 := bit_le (valV kvs (.inl 5))
  omega
theorem cnt_put {v : V} (h : valV kvs (.inl c) = none) (h0 : 0 ≤ c) (h1 : c < 6) (hl : kvs.length ≤ cnt kvs) : (putK kvs (.inl c) v).length ≤ cnt (putK kvs (.inl c) v) := by
  have e : (putK kvs (.inl c) v).length = kvs.length + 1 := by rw [putK_new v h, List.length_append]; rfl
  have b : ∀ j : Int, bit (valV (putK kvs (.inl c) v) (.inl j)) = if j = c then 1 else bit (valV kvs (.inl j)) := fun j => by
    rw [valV_put]
    by_cases q : j = c
    · rw [if_pos q, if_pos (congrArg Sum.inl q)]; rfl
    · rw [if_neg q, if_neg (fun z => q (Sum.inl.inj z))]
  have n : bit (valV kvs (.inl c)) = 0 := by rw [h]; rfl
  rw [e]
  unfold cnt at hl ⊢
  rw [b, b, b, b, b, b]
  rcases (by omega : c = 0 ∨ c = 1 ∨ c = 2 ∨ c = 3 ∨ c = 4 ∨ c = 5) with rfl | rfl | rfl | rfl | rfl | rfl <;> (simp only [if_true, reduceIte, Int.reduceEq] ; omega)
end
section
variable {K : PySem.W.Frag} {C : Cs} {vs : List V} {H H' G G' : Hp} {Q : VK} {E : XK} {n : Nat}
theorem g2 {i j : Nat} {a : Addr} {σ : L2.St} {R : L2.St → Hp → Prop} {x y : V} (s : SqT K H a [x, y]) (h : R ((σ.set i (some x)).set j (some y)) H) :
    gTup K 2 (gCons (gName i) (gCons (gName j) gNil)) (.ref a) σ H R := ⟨a, _, rfl, s, rfl, _, _, rfl, _, _, rfl, rfl, h⟩
def sp_steps_to_give (K : PySem.W.Frag) (C : Cs) : Sp := fun vs H Q _ => ∃ u T w z, vs = [u, .int w, .int z] ∧ RuleAt K C H u T ∧ 1 ≤ z ∧ z ≤ 10 ^ 40 ∧ Q (.int ((T.top - w + z - 1) / z)) H
def t_steps_to_give (K : PySem.W.Frag) (C : Cs) : TS :=
  (tRet (tOp (rDivI) (tOp (rSubI) (tOp (rAddU K) (tOp (rSubI) (tProp C.Rule (sp_Rule_threshold K C) [] E0 (tVar 0)) (tVar 1)) (tVar 2)) (tC (.int 1))) (tVar 2)))
theorem ln_steps_to_give (h : sp_steps_to_give K C vs H Q E) : vs.length = 3 := by obtain ⟨_, _, _, _, rfl, _⟩ := h; rfl
theorem rd_steps_to_give (h : sp_steps_to_give K C vs H Q E) : t_steps_to_give K C (EndsOf Q) (start ["", "", ""] vs) H := by
  obtain ⟨u, T, w, z, rfl, R, z1, z2, k⟩ := h
  obtain ⟨ua, ud, uu, rfl, hu1, _⟩ := id R
  refine ⟨_, rfl, ua, ud, _, rfl, hu1, _, T, rfl, R, _, rfl, _, _, rfl, rfl, _, rfl, .inl ⟨_, _, rfl, rfl, _, _, rfl, rfl, _, rfl, _, _, rfl, rfl, div_ok (by omega) (by omega), k⟩⟩
def sp_repeated (K : PySem.W.Frag) (C : Cs) : Sp := fun vs H Q _ => ∃ u T w z m, vs = [u, .int w, .int z, .int m] ∧ RuleAt K C H u T ∧ 0 ≤ w ∧ w < T.top ∧ 1 ≤ z ∧ z ≤ 10 ^ 40 ∧ 0 ≤ m ∧ m ≤ 10 ^ 40 ∧
  ∀ p H', H p = none → Same H H' → SqT K H' p [.int (T.kp z w m.toNat), .int (w + m * z - T.kp z w m.toNat), .int (max w (T.pk z w m.toNat))] → Q (.ref p) H'
def t_repeated (K : PySem.W.Frag) (C : Cs) : TS :=
  (tSeq (tAsg tDNewK (gName 4))
    (tSeq (tPar3 5 6 7 (tCons (tVar 3) (tCons (tC (.int 0)) (tCons (tVar 1) tNil))))
    (tSeq (tAsg (tCall (sp_steps_to_give K C) [] E0 (tCons (tVar 0) (tCons (tVar 1) (tCons (tVar 2) tNil)))) (gName 8))
    (tSeq (tWhile (tTest (tOp (rGeI) (tVar 5) (tVar 8))) (tSeq (tAsg (tCB (rMax2) (tCons (tVar 7) (tCons (tOp (rAddU K) (tVar 1) (tOp (rMulU K) (tOp (rSubI) (tVar 8) (tC (.int 1))) (tVar 2))) tNil))) (gName 7))
    (tSeq (tAsg (tOp (rAddU K) (tVar 1) (tOp (rMulU K) (tVar 8) (tVar 2))) (gName 9))
    (tSeq (tAsg (tMeth C.Rule "rest" (sp_Rule_rest K C) [] E0 (tVar 0) (tCons (tVar 9) tNil)) (gName 1))
    (tSeq (tPar 5 6 (tCons (tOp (rSubI) (tVar 5) (tVar 8)) (tCons (tOp (rSubI) (tOp (rAddU K) (tVar 6) (tVar 9)) (tVar 1)) tNil)))
    (Evl.tCut (tIfS (tB (tDIn (tVar 1) (tVar 4))) (tSeq (tAsg (tDGet (tVar 4) (tVar 1)) (gTup K 2 (gCons (gName 10) (gCons (gName 11) gNil))))
    (tSeq (tAsg (tOp (rDivI) (tVar 5) (tOp (rSubI) (tVar 10) (tVar 5))) (gName 12))
    (tPar 5 6 (tCons (tOp (rSubI) (tVar 5) (tOp (rMulU K) (tVar 12) (tOp (rSubI) (tVar 10) (tVar 5)))) (tCons (tOp (rAddU K) (tVar 6) (tOp (rMulU K) (tVar 12) (tOp (rSubI) (tVar 6) (tVar 11)))) tNil))))) (tAsg (tTup (tCons (tVar 5) (tCons (tVar 6) tNil))) (gSub (tVar 4) (tVar 1) rSetD)))
    (tAsg (tCall (sp_steps_to_give K C) [] E0 (tCons (tVar 0) (tCons (tVar 1) (tCons (tVar 2) tNil)))) (gName 8))))))))
    (Evl.tCut (tIfS (tTest (tOp (rGtI) (tVar 5) (tC (.int 0)))) (tAsg (tCB (rMax2) (tCons (tVar 7) (tCons (tOp (rAddU K) (tVar 1) (tOp (rMulU K) (tOp (rSubI) (tVar 5) (tC (.int 1))) (tVar 2))) tNil))) (gName 7)) tNext)
    (tRet (tTup (tCons (tOp (rAddU K) (tVar 1) (tOp (rMulU K) (tVar 5) (tVar 2))) (tCons (tVar 6) (tCons (tVar 7) tNil))))))))))
theorem ln_repeated (h : sp_repeated K C vs H Q E) : vs.length = 4 := by obtain ⟨_, _, _, _, _, rfl, _⟩ := h; rfl
theorem other_same {D : Addr} {o : HO} (s : Same H G) (h : H D = none) : Same H (upd G D o) := fun b u q => by
  rw [upd_ne (ne_of_none q h)]
  exact s b u q
theorem dk_tups {D : Addr} {o : HO} {kvs : List (Key × V)} (h : G D = some (.dK kvs)) : Tups K G (upd G D o) := Tups.put h (fun _ z => nomatch z) fun _ _ z => nomatch z
theorem imax_eq (i j : Int) : (if j > i then j else i) = max i j := by
  split <;> omega
theorem rd_repeated (h : sp_repeated K C vs H Q E) : t_repeated K C (EndsOf Q) (start ["", "", "", "", "", "", "", "", "", "", "", "", ""] vs) H := by
  obtain ⟨u, T, w, z, m, rfl, R, w0, w1, z1, z2, m0, m2, k⟩ := h
  obtain ⟨M, rfl⟩ : ∃ M : Nat, m = M := ⟨m.toNat, by omega⟩
  obtain ⟨ua, ud, uu, rfl, hu1, hT, ok, l6, fx⟩ := id R
  obtain ⟨t1, t2⟩ := Tr.top_ok ok
  refine fun D hD => ⟨_, rfl, _, rfl, _, _, _, rfl, ?_⟩
  have s1 := same_new (o := .dK []) hD
  refine ⟨_, rfl, _, rfl, _, rfl, .ref ua, T, w, z, rfl, R.same s1, z1, z2, ?_⟩
  refine ⟨fun mm σ' G => ∃ (L : Nat) (c t p : Int) (kvs : List (Key × V)) (s9 s10 s11 s12 : Option V), σ' = [some (.ref ua), some (.int c), some (.int z), some (.int M), some (.ref D), some (.int L), some (.int t), some (.int p), some (.int ((T.top - c + z - 1) / z)), s9, s10, s11, s12] ∧
    L = mm ∧ Same H G ∧ G D = some (.dK kvs) ∧ kvs.length ≤ cnt kvs ∧ Rp T z w M L c t p ∧ Seen 0 K T z G kvs L c t p,
    ⟨_, M, w, 0, w, [], none, none, none, none, rfl, rfl, s1, upd_same, Nat.zero_le _, ⟨w0, w1, w0, Nat.le_refl _, rfl, by omega, rfl⟩, fun i v h => nomatch h⟩, ?_⟩
  clear s1
  rintro mm σ' G ⟨L, c, t, p, kvs, s9, s10, s11, s12, rfl, rfl, s, hG, hl, P, S⟩
  obtain ⟨q1, q2, q3, q4⟩ := steps_ok (a := T.top - c) (z := z) (by have := P.c1; omega) z1
  have c0 := P.c0
  have c1 := P.c1
  have lM := P.le
  have hM : (M : Int) ≤ 10 ^ 40 := m2
  have lims : (10 : Int) ^ 50 + 10 ^ 40 ≤ 10 ^ 100 := by decide
  refine ⟨_, rfl, _, rfl, _, _, rfl, rfl, _, rfl, ?_⟩
  generalize hS : (T.top - c + z - 1) / z = S0 at q1 q2 q3 q4 ⊢
  refine ifD (fun cc => ?_) (fun cc => ?_)
  · -- it gives, once
    obtain ⟨n, rfl⟩ : ∃ n : Nat, S0 = ((n + 1 : Nat) : Int) := ⟨S0.toNat - 1, by omega⟩
    have en : ((n + 1 : Nat) : Int) - 1 = (n : Int) := by omega
    rw [en] at q3
    have am0 : 0 ≤ c + ((n + 1 : Nat) : Int) * z := by
      have : 0 ≤ ((n + 1 : Nat) : Int) * z := Int.mul_nonneg (by omega) (by omega)
      omega
    obtain ⟨r1, r2⟩ := Tr.rest_lt ok am0
    obtain ⟨g1, g2'⟩ := Tr.give_le ok am0
    obtain ⟨e1, e2, P1⟩ := P.give ok z1 (n := n) (by omega) (by omega) rfl
    have S1 := S.go (n := n + 1) (c' := c + ((n + 1 : Nat) : Int) * z - T.give (c + ((n + 1 : Nat) : Int) * z)) (t' := t + (c + ((n + 1 : Nat) : Int) * z) - (c + ((n + 1 : Nat) : Int) * z - T.give (c + ((n + 1 : Nat) : Int) * z))) (p' := max p (c + n * z)) (by omega) e1 (by omega) (by omega) (by omega)
    obtain ⟨by1, by2, by3⟩ := Tr.rest_by ok am0 (by omega)
    obtain ⟨by4, by5⟩ := Tr.by_ok ok _ by2
    have small : c + ((n + 1 : Nat) : Int) * z - T.give (c + ((n + 1 : Nat) : Int) * z) < 6 := by
      rw [by3]
      have := Int.emod_lt_of_pos (c + ((n + 1 : Nat) : Int) * z) (show 0 < by1 by omega)
      omega
    have eL : ((L - (n + 1) : Nat) : Int) = (L : Int) - ((n + 1 : Nat) : Int) := by omega
    have R1 := R.same s
    obtain ⟨va, vd, vu, eq, hv1, _⟩ := id R1
    cases eq
    refine ⟨fun σ2 H2 => ∃ (L2 : Nat) (c t p : Int) (kvs : List (Key × V)) (s9 s10 s11 s12 : Option V), σ2 = [some (.ref ua), some (.int c), some (.int z), some (.int M), some (.ref D), some (.int L2), some (.int t), some (.int p), some (.int ((T.top - c + z - 1) / z)), s9, s10, s11, s12] ∧
      L2 < L ∧ Same H H2 ∧ H2 D = some (.dK kvs) ∧ kvs.length ≤ cnt kvs ∧ Rp T z w M L2 c t p ∧ Seen 0 K T z H2 kvs L2 c t p,
      fun σ2 H2 ⟨L2, c, t, p, kvs, s9, s10, s11, s12, a1, a2, a3, a4, a5, a6, a7⟩ => ⟨_, a2, L2, c, t, p, kvs, s9, s10, s11, s12, a1, rfl, a3, a4, a5, a6, a7⟩, ?_⟩
    refine ⟨_, rfl, _, rfl, _, rfl, _, _, rfl, rfl, _, rfl, .inl ⟨_, _, rfl, rfl, mul_ok (by omega) (by omega), .inl ⟨_, _, rfl, rfl, _, _, rfl, ?_⟩⟩⟩
    refine ⟨_, rfl, _, rfl, _, rfl, .inl ⟨_, _, rfl, rfl, mul_ok (by omega) (by omega), .inl ⟨_, _, rfl, rfl, ?_⟩⟩⟩
    refine ⟨_, rfl, ua, vd, _, rfl, hv1, lk_tree (by decide +kernel), _, rfl, _, T, _, rfl, R1, ?_⟩
    refine ⟨_, rfl, _, rfl, _, _, rfl, rfl, _, rfl, _, rfl, .inl ⟨_, _, rfl, rfl, _, rfl, _, _, rfl, rfl, _, _, rfl, ?_⟩⟩
    dsimp only
    rw [imax_eq, en, ← eL]
    have hLL : L - (n + 1) < L := by omega
    clear e1 e2 r1 r2 g1 g2' by1 by2 by3 by4 by5 S P cc q2 q3 q4 am0 c0 c1 hS en eL q1
    have c0' := P1.c0
    generalize c + ((n + 1 : Nat) : Int) * z - T.give (c + ((n + 1 : Nat) : Int) * z) = c' at *
    generalize t + (c + ((n + 1 : Nat) : Int) * z) - c' = t' at *
    generalize max p (c + n * z) = p' at *
    generalize L - (n + 1) = L1 at *
    refine ⟨fun σ2 H2 => ∃ (L2 : Nat) (t p : Int) (kvs : List (Key × V)) (s8 s9 s10 s11 s12 : Option V), σ2 = [some (.ref ua), some (.int c'), some (.int z), some (.int M), some (.ref D), some (.int L2), some (.int t), some (.int p), s8, s9, s10, s11, s12] ∧
      L2 < L ∧ Same H H2 ∧ H2 D = some (.dK kvs) ∧ kvs.length ≤ cnt kvs ∧ Rp T z w M L2 c' t p ∧ Seen 0 K T z H2 kvs L2 c' t p, ?_, ?_⟩
    · refine ⟨_, rfl, _, rfl, D, valV kvs (.inl c'), rfl, DGet.k (k := .inl c') hG, _, rfl, ?_⟩
      cases ev : valV kvs (.inl c') with
      | some v =>
        -- it was here before: turns are skipped
        refine iteT' rfl ?_
        obtain ⟨a, l', t0, d, rfl, ha, h3, h4, h5, h6, h7, h8⟩ := S1 c' v ev
        have d1 : 1 ≤ d := by omega
        have et : (L1 : Int) / (l' - L1) = ((L1 / d : Nat) : Int) := by
          rw [show l' - (L1 : Int) = (d : Int) by omega]
          exact (Int.natCast_ediv _ _).symm
        have le : L1 / d * d ≤ L1 := Nat.div_mul_le_self L1 d
        have le2 : L1 / d ≤ L1 := Nat.div_le_self L1 d
        have e1 : (L1 : Int) - (L1 : Int) / (l' - L1) * (l' - L1) = ((L1 - L1 / d * d : Nat) : Int) := by
          rw [et, show l' - (L1 : Int) = (d : Int) by omega, Int.ofNat_sub le, Int.natCast_mul]
        have ed : t' - t0 = d * z := by omega
        have e2 : t' + (L1 : Int) / (l' - L1) * (t' - t0) = t' + ((L1 / d * d : Nat) : Int) * z := by
          rw [et, ed, Int.natCast_mul, Int.mul_assoc]
        have dz : (d : Int) * z ≤ 10 ^ 40 * 10 ^ 40 := Int.mul_le_mul (by omega) z2 (by omega) (by decide)
        have dz0 : 0 ≤ (d : Int) * z := Int.mul_nonneg (by omega) (by omega)
        have lim2 : (10 : Int) ^ 40 * 10 ^ 40 ≤ 10 ^ 100 := by decide
        have b1 : ((L1 : Int) / (l' - L1)).natAbs ≤ 10 ^ 100 := by
          rw [et]
          clear e1 e2 et
          generalize L1 / d = tt at le2
          omega
        have b2 : (l' - (L1 : Int)).natAbs ≤ 10 ^ 100 := by clear e1 e2 et b1; omega
        have b3 : (t' - t0).natAbs ≤ 10 ^ 100 := by rw [ed]; clear e1 e2 et b1; omega
        refine ⟨_, rfl, _, rfl, D, .ref a, rfl, (by rw [← ev]; exact DGet.k (k := .inl c') hG), g2 ha ?_⟩
        refine ⟨_, rfl, _, rfl, _, rfl, _, _, rfl, rfl, _, _, rfl, rfl, div_ok (by omega) (by omega), ?_⟩
        refine ⟨_, rfl, _, rfl, _, rfl, _, rfl, _, _, rfl, rfl, .inl ⟨_, _, rfl, rfl, mul_ok b1 b2, _, _, rfl, rfl, _, rfl, _, rfl, _, rfl, _, rfl, _, _, rfl, rfl, .inl ⟨_, _, rfl, rfl, mul_ok b1 b3, .inl ⟨_, _, rfl, rfl, _, _, rfl, ?_⟩⟩⟩⟩
        obtain ⟨k1, k2⟩ := Tr.kp_loop h4 (L1 / d)
        refine ⟨L1 - L1 / d * d, t' + ((L1 / d * d : Nat) : Int) * z, p', kvs, some (.int ((n + 1 : Nat) : Int)), some (.int (c + ((n + 1 : Nat) : Int) * z)), some (.int l'), some (.int t0), some (.int ((L1 : Int) / (l' - L1))), ?_, by omega, s, hG, hl, P1.skip h4 h6 d1, (S1.go le k1.symm (Int.le_refl _) (by omega) (by omega)).weak⟩
        rw [← e1, ← e2]
        rfl
      | none =>
        refine iteF' rfl ?_
        refine ⟨_, rfl, _, rfl, two_fit.2.1, fun q hq => ?_⟩
        have s2 := same_new (o := .tup [.int L1, .int t']) hq
        refine ⟨_, rfl, _, rfl, D, _, rfl, DPut.k (k := .inl c') (s2 _ _ hG) (by have := cnt_le kvs; exact small1000 (by omega)), ?_⟩
        exact ⟨L1, t', p', _, _, _, _, _, _, rfl, hLL, other_same (s.trans s2) hD, upd_same, cnt_put ev c0' small hl, P1, ((S1.weak.mono (Tups.same s2)).put P1.p0 (by omega) (SqT.of upd_same)).mono (dk_tups (s2 _ _ hG))⟩
    · rintro σ2 H2 ⟨L2, t2, p2, kvs2, b8, b9, b10, b11, b12, rfl, a2, a3, a4, a5, a6, a7⟩
      refine ⟨_, rfl, _, rfl, _, rfl, .ref ua, T, c', z, rfl, R.same a3, z1, z2, ?_⟩
      exact ⟨L2, c', t2, p2, kvs2, _, _, _, _, rfl, a2, a3, a4, a5, a6, a7⟩
  · -- the rest, without giving
    have few : c + (L : Int) * z < T.top := by
      have h : (L : Int) * z ≤ (S0 - 1) * z := Int.mul_le_mul_of_nonneg_right (by omega) (by omega)
      omega
    obtain ⟨f1, f2⟩ := Tr.kp_few ok z1 c0 L few
    have Lz0 : 0 ≤ (L : Int) * z := Int.mul_nonneg (by omega) (by omega)
    have eM : ((M : Int)).toNat = M := by omega
    rw [eM] at k
    have tot := P.tot
    have pk := P.pk
    refine ⟨fun σ2 H2 => H2 = G ∧ σ2 = [some (.ref ua), some (.int c), some (.int z), some (.int M), some (.ref D), some (.int L), some (.int t), some (.int (max w (T.pk z w M))), some (.int S0), s9, s10, s11, s12], ?_, ?_⟩
    · refine ⟨_, rfl, _, _, rfl, rfl, _, rfl, ?_⟩
      refine ifD (fun c2 => ?_) (fun c2 => ?_)
      · obtain ⟨n, rfl⟩ : ∃ n : Nat, L = n + 1 := ⟨L - 1, by omega⟩
        have en : ((n + 1 : Nat) : Int) - 1 = (n : Int) := by omega
        have e : ((n + 1 : Nat) : Int) * z = n * z + z := by rw [Int.natCast_add, Int.add_mul]; omega
        have nz : 0 ≤ (n : Int) * z := Int.mul_nonneg (by omega) (by omega)
        obtain ⟨f3, f4⟩ := Tr.kp_few ok z1 c0 n (by omega)
        refine ⟨_, rfl, _, rfl, _, rfl, _, _, rfl, rfl, _, rfl, .inl ⟨_, _, rfl, rfl, mul_ok (by omega) (by omega), .inl ⟨_, _, rfl, rfl, _, _, rfl, rfl, ?_⟩⟩⟩
        rw [pk, f4, ← imax_eq, ← en]
        rfl
      · obtain rfl : L = 0 := by omega
        refine ⟨rfl, ?_⟩
        have p0 := P.p0
        have : max p (T.pk z c 0) = p := by
          show max p 0 = p
          omega
        rw [pk, this]
    · rintro σ2 H2 ⟨rfl, rfl⟩
      refine ⟨_, rfl, _, rfl, _, rfl, .inl ⟨_, _, rfl, rfl, mul_ok (by omega) (by omega), .inl ⟨_, _, rfl, rfl, _, rfl, _, rfl, two_fit.2.2.1, fun q hq => ?_⟩⟩⟩
      have s2 := same_new (o := .tup [.int (c + L * z), .int t, .int (max w (T.pk z w M))]) hq
      refine k q _ (s.free hq) (s.trans s2) ?_
      rw [P.kp, f1, show w + (M : Int) * z - (c + L * z) = t by omega]
      exact SqT.of upd_same
/-- a tree and a Rule of it -/
structure St13 (K : PySem.W.Frag) (C : Cs) (G : Hp) (b l : Addr) (v u : V) (T : Tr) : Prop where
  bag : Bag G b l
  tr : TrAt K G v T
  ru : RuleAt K C G u T
theorem St13.step {b l : Addr} {v u : V} {T : Tr} (S : St13 K C G b l v u T) (k : Kp b G G') (B : Bag G' b l) : St13 K C G' b l v u T :=
  ⟨B, S.tr.mono (S.bag.tups k), S.ru.kpB S.bag k⟩
theorem St13.same {b l : Addr} {v u : V} {T : Tr} (S : St13 K C G b l v u T) (s : Same G G') : St13 K C G' b l v u T := S.step (Kp.of s) (S.bag.same s)
/-- not alike(rule.threshold, top) -/
theorem top_alike {i j : Nat} {σ : L2.St} {b l : Addr} {v u : V} {T : Tr} {D : Ends} (hi : σ[i]? = some (some u)) (hj : σ[j]? = some (some (.int T.top))) (S : St13 K C G b l v u T) (k : D.nx σ G) :
    tIfS (tNot (tB (tCall (sp_law_alike K) [] E0 (tCons (tProp C.Rule (sp_Rule_threshold K C) [] E0 (tVar i)) (tCons (tVar j) tNil))))) (tRet (tC (.bl false))) tNext D σ G := by
  obtain ⟨ua, ud, uu, rfl, hu1, r⟩ := id S.ru
  refine ⟨_, hi, ua, ud, _, rfl, hu1, _, T, rfl, S.ru, ?_⟩
  obtain ⟨t1, t2⟩ := Tr.top_ok r.2.1
  have g : GoodTo 0 2000 (.int T.top) := gt_int (by
    have : (10 : Int) ^ 50 ≤ 10 ^ 100 := by decide
    omega)
  exact ⟨_, hj, _, _, .int T.top, rfl, .int _, .int _, g.good, true, rfl, k⟩
end
end Pk
set_option Elab.async false
set_option linter.all false
set_option maxRecDepth 100000
set_option maxHeartbeats 2000000
/-! == and != of instances by an own __eq__ -/
namespace Pk
open PySem PySem.Spec PyProof.Rows PySem.SeqAt
section
variable {prog : Program} {w : World} {A : Around} {E : Value → Shared → Prop} {s : Shared} {K : PySem.W.Frag} {x C f : Addr} {ox : Obj} {od : Option Obj} {b : Value}
theorem ifBound_ne {M : Model} {args : List Value} {Q : Option Value → Shared → Prop} (I : PySem.W.InstAt s.heap x ox C od) (X : K.In s.heap) (hn : PySem.W.findIn K (.ref C) "__ne__" = some (some (.builtin "object.__ne__")))
    (h : wpAny M A (call (.builtin "object.__ne__") (.ref x :: args)) (fun v => Q (some v)) E s) : wpAny M A (callSpecialIfBound? (.ref x) "__ne__" args) Q E s := by
  simp only [callSpecialIfBound?, bindSpecialIfBound?]
  have last : wpAny M A (call (.builtin "object.__ne__") ([.ref x] ++ args) >>= fun v => pure (some v)) Q E s := wpAny_bind (wpAny_mono h (fun _ _ z => wpAny_pure z) fun _ _ z => z)
  refine wpAny_holding (wpAny_bind (wpAny_bind (wpAny_bind (I.type.here ((PySem.W.looks_findIn X hn).here (wpAny_bind (wpAny_askSetting (wpAny_ite ?_))))))))
  split
  · exact wpAny_bind (wpAny_of_eq (F.cmp_object.ne.bind _) (wpAny_pure (by exact last)))
  · exact wpAny_tryCatch (wpAny_bind (wpAny_of_eq (F.cmp_object.ne.bind _) (wpAny_pure (by exact last))))
theorem obj_ne {Q : Value → Shared → Prop} (hu : A.units + 1 < cLine) (X : K.In s.heap) (I : PySem.W.InstAt s.heap x ox C od) (hm : PySem.W.mroIn K C (.type "object") = some true)
    (hn : PySem.W.findIn K (.ref C) "__ne__" = some (some (.builtin "object.__ne__"))) (hs : PySem.W.findIn K (.ref C) "__eq__" = some (some (.ref f))) (hf : PySem.W.isFn K (.ref f) = true)
    (h : codeAny (model prog w) A.in1 (.call (.ref f) ⟨[.ref x, b], []⟩) (fun r s' => match r with | .ok (.ret v) => ∃ c, v = .bool c ∧ Q (.bool (!c)) s' | .ok _ => False | .error e => E e s') s) :
    wpAny (model prog w) A (tryCompare (.ref x) "__ne__" b) (fun r s' => ∃ v, r = some v ∧ Q v s') E s := by
  unfold tryCompare
  refine wpAny_bind (ifBound_ne I X hn (wpAny_call (codeAny_call_builtin F.cmp_object.ne.plain F.cmpEntry_ne
    (PySem.W.check_slot F.cmpKind_ne F.cmpSplit_ne (I.type.andThen (PySem.W.looks_mroIn X hm)) (F.cmpArgs_ne _ _) ?_))))
  unfold Builtin.«object.__ne__»
  repeat (first | with_reducible refine wpAny_cRoomFor hu ?_ | with_reducible refine wpAny_bind (PySem.W.ifBound_K X I hs hf ?_) | wp_step)
  refine codeAny_mono h fun r s' hr => ?_
  match r, hr with
  | .error e, hr => exact hr
  | .ok (.ret v), hr =>
    obtain ⟨c, rfl, q⟩ := hr
    refine wpAny_bind (wpAny_truthy_bool ?_)
    exact wpAny_pure (wpAny_pure ⟨_, rfl, q⟩)
/-- x != b by what is tried first -/
theorem rich_ne {tb : Value} {Q : Value → Shared → Prop} (hu : A.units < cLine) (X : K.In s.heap) (I : PySem.W.InstAt s.heap x ox C od) (hb : PySem.W.Looks (model prog w) s.heap (typeOf b) tb) (hn : PySem.W.notFirst K C tb = true)
    (one : wpAny (model prog w) A (tryCompare (.ref x) "__ne__" b) (fun r s' => ∃ v, r = some v ∧ Q v s') E s) : wpAny (model prog w) A (richCompare .NotEq (.ref x) b) Q E s := by
  unfold richCompare
  simp only [oneThing_ref]
  refine wpAny_holding (wpAny_bind (wpAny_cRoomFor hu (wpAny_bind (I.type.here (wpAny_bind (hb.here ?_))))))
  split
  · rename_i q
    have e : PySem.W.subIn K tb (.ref C) = some false := by
      rcases Bool.or_eq_true_iff.mp hn with e | e
      · exact absurd (beq_iff_eq.mp e) (by intro z; rw [z] at q; simp at q)
      · exact beq_iff_eq.mp e
    refine wpAny_bind ((PySem.W.looks_subIn X e).here ?_)
    simp only [Bool.false_eq_true, if_false]
    exact wpAny_bind (wpAny_mono one (fun r s1 ⟨v, ev, qv⟩ => by subst ev; exact wpAny_pure qv) fun _ _ y => y)
  · refine wpAny_bind (wpAny_pure ?_)
    simp only [Bool.false_eq_true, if_false]
    exact wpAny_bind (wpAny_mono one (fun r s1 ⟨v, ev, qv⟩ => by subst ev; exact wpAny_pure qv) fun _ _ y => y)
end
end Pk
namespace Pk
open PySem PySem.Spec L2 PyProof.Rows
section
variable {X : Cx} {CX : CXT} {k j : Nat} {C : Addr} {ps : List Str} {sp : Sp} {E : XK} {x : Str}
/-- x == y, x != y, both instances of the class at C -/
def rOwnEq (C : Addr) (sp : Sp) (E : XK) : R2 := fun x y H Q => ∃ a b dx fs dy gs, x = .ref a ∧ y = .ref b ∧ H a = some (.ins C dx fs) ∧ H b = some (.ins C dy gs) ∧ sp [x, y] H (fun v H' => ∃ c, v = .bl c ∧ Q (.bl c) H') E
def rOwnNe (C : Addr) (sp : Sp) (E : XK) : R2 := fun x y H Q => ∃ a b dx fs dy gs, x = .ref a ∧ y = .ref b ∧ H a = some (.ins C dx fs) ∧ H b = some (.ins C dy gs) ∧ sp [x, y] H (fun v H' => ∃ c, v = .bl c ∧ Q (.bl (!c)) H') E
theorem op_eqOwn (c : Kls X.K X.mg x C) (F : Own X.prog X.w X.K X.mg X.base CX k C "__eq__" ps sp) (hr : Room j X.A) (hx : Passes CX X E) (hj : k ≤ j := by first | decide | omega) : OpR X (compareOp .Eq) (rOwnEq C sp E) := by
  obtain ⟨f, fd, G, a1, a2, a3, a4, bb⟩ := F.ex
  intro pins s σ H u v ov iv Q I ru rv h
  obtain ⟨a, b, dx, fs, dy, gs, rfl, rfl, ha, hb, q⟩ := h
  cases (show ov = Value.ref a from ru)
  cases (show iv = Value.ref b from rv)
  obtain ⟨_, O, _⟩ := ins_get I.hok ha
  obtain ⟨od, J, _⟩ := O.look
  obtain ⟨_, O', _⟩ := ins_get I.hok hb
  obtain ⟨od', J', _⟩ := O'.look
  obtain ⟨_, hF⟩ := I.fr
  show wpAny (model X.prog X.w) X.A (richCompare .Eq (.ref a) (.ref b)) (EP X pins σ Q) X.xe s
  refine PySem.W.cmp_K (op := .Eq) (tb := .ref C) (Nat.lt_of_le_of_lt (Nat.le_add_right _ 64) hr.units) hF I.ok.mod.kin J J'.type (by simp [PySem.W.notFirst]) a1 a2 ?_
  refine wpAny_mono (run_fn (us := [.ref a, .ref b]) (vs := [.ref a, .ref b]) G (hr.mono hj) bb .nil hx I (.cons rfl (.cons rfl .nil)) q) ?_ fun _ _ z => z
  rintro w s' ⟨z, H', I', rz, d, rfl, qz⟩
  cases rz
  exact ⟨.bl d, H', I', rfl, qz⟩
theorem op_neOwn (c : Kls X.K X.mg x C) (F : Own X.prog X.w X.K X.mg X.base CX k C "__eq__" ps sp) (hr : Room j X.A) (hx : Passes CX X E) (hj : k + 1 ≤ j := by first | decide | omega) : OpR X (compareOp .NotEq) (rOwnNe C sp E) := by
  obtain ⟨f, fd, G, a1, a2, a3, a4, bb⟩ := F.ex
  intro pins s σ H u v ov iv Q I ru rv h
  obtain ⟨a, b, dx, fs, dy, gs, rfl, rfl, ha, hb, q⟩ := h
  cases (show ov = Value.ref a from ru)
  cases (show iv = Value.ref b from rv)
  obtain ⟨_, O, _⟩ := ins_get I.hok ha
  obtain ⟨od, J, _⟩ := O.look
  obtain ⟨_, O', _⟩ := ins_get I.hok hb
  obtain ⟨od', J', _⟩ := O'.look
  obtain ⟨_, hF⟩ := I.fr
  show wpAny (model X.prog X.w) X.A (richCompare .NotEq (.ref a) (.ref b)) (EP X pins σ Q) X.xe s
  have hu := hr.units
  refine rich_ne (tb := .ref C) (by omega) I.kIn J J'.type (by simp [PySem.W.notFirst]) (obj_ne (by omega) I.kIn J c.ic.hm c.ne a1 a2 ?_)
  have e := I.env0
  have e0 : Env0 X.prog X.w X.K X.mg X.base X.A.in1 X.stack s H := ⟨e.frames, e.mod, e.bs, e.bsz, e.funs, e.frf, e.hok, e.bare⟩
  have hl := G.len _ _ _ _ q
  refine codeAny_mono (G.run X.A.in1 X.stack s H ⟨[.ref a, .ref b], []⟩ [.ref a, .ref b] [.ref a, .ref b] _ E (hr.mono hj).in1 e0 (by
    have := bb s [.ref a, .ref b] I.kIn (by simpa using hl)
    simpa using this) (.cons rfl (.cons rfl .nil)) q) fun r s' z => ?_
  match r, z with
  | .error e, z => exact hx pins σ H s e s' I z
  | .ok (.ret w), z =>
    obtain ⟨y, H', I', rz, d, rfl, qz⟩ := I.after z
    cases rz
    exact ⟨d, rfl, .bl (!d), H', I', rfl, qz⟩
/-- what is never come to -/
def tNone : TE := fun _ _ _ => False
theorem pe_none {e : Expr} : PE X e tNone := ⟨fun _ _ _ _ _ _ h => h.elim⟩
end
end Pk
set_option Elab.async false
set_option linter.all false
set_option maxRecDepth 100000
set_option maxHeartbeats 2000000
/-! own errors: raised, let out, caught -/
namespace Pk
open PySem PySem.Spec L2 PyProof.Rows
/-- an own error class: where it stands, what it may -/
structure ErrK (K : PySem.W.Frag) (mg : Str → Option Value) (x : Str) (C : Addr) : Prop where
  at_ : mg x = some (.ref C)
  oex : OexC K C
  xf : XfC K C
  ex : ExcC K C
/-- its __init__ -/
structure ErrI (P : Program) (w : World) (K : PySem.W.Frag) (mg : Str → Option Value) (base : Heap) (k : Nat) (C : Addr) (ps : List Str) (sp : Sp) : Prop where
  ex : ∃ f fd, FnOk P w K mg base CX0 k f fd ps sp ∧ PySem.W.findIn K (.ref C) "__init__" = some (some (.ref f)) ∧ PySem.W.typeIn K (.ref f) = some (.type "function") ∧ Binds K fd ps []
section
variable {X : Cx} {CX : CXT} {k j : Nat} {C D a : Addr} {ps : List Str} {sp : Sp} {x : Str} {p pos : Pos} {e b : Expr} {es : List Expr} {t : TA} {ta tb : TE} {oe : Obj} {cls : Value} {d : Option Addr} {pn : List (Addr × Obj)}
theorem pmk_err (c : ErrK X.K X.mg x C) (F : ErrI X.prog X.w X.K X.mg X.base k C ps sp) (hr : Room j X.A) (ha : PA X (e :: es) t) (hj : k + 1 ≤ j := by first | decide | omega) (hg : Gl X x := by rfl)
    (h1 : (x == ("__debug__" : Str)) = false := by decide) (h2 : starEach (e :: es) X.env = (false, eval e X.env) :: starEach es X.env := by rfl) (h3 : (backTo pos (starEach es X.env)).any (·.1) = false := by rfl) :
    PMk X (.Call (.Name x p) (e :: es) [] pos) (tMkO C sp [] t) := by
  obtain ⟨f, fd, G, a1, a2, bb⟩ := F.ex
  exact pmk_oex c.oex a1 a2 G (hr.mono hj) bb .nil (fun _ _ _ _ _ _ _ z => z.elim) hg c.at_ ha h1 h2 h3
/-- what comes of C(v), one field -/
def rOneI (K : PySem.W.Frag) (C : Addr) (f : Str) : Sp := fun vs H Q _ => ∃ a y, vs = [.ref a, y] ∧ OexC K C ∧ PySem.W.findIn K (.ref C) f = some none ∧ H a = some (exo a C none) ∧ ∀ dx, H dx = none → dx ≠ a → Q .non (upd (upd H dx (exd dx [(f, y)])) a (exo a C (some dx)))
theorem made_err {K : PySem.W.Frag} {f : Str} {y : V} {H : Hp} {Q : XK} (ox : OexC K C) (nf : PySem.W.findIn K (.ref C) f = some none) (k : ∀ d H', H d = none → Same H H' → H' d = some (.xd [(f, y)]) → Q (.ref C) (some d) H') :
    ([y] : List V).length ≤ 1000 ∧ ∀ a, H a = none → rOneI K C f (.ref a :: ([y] ++ [])) (upd H a (exo a C none))
      (fun v H2 => v = .non ∧ ∃ (d : Addr) (fs : List (Str × V)), H2 a = some (exo a C (some d)) ∧ H2 d = some (exd d fs) ∧ H d = none ∧ Q (.ref C) (some d) (upd (del H2 a) d (.xd fs))) (fun _ _ _ => False) := by
  refine ⟨by show 1 ≤ 1000; decide, fun a ha => ⟨a, y, rfl, ox, nf, upd_same, fun dx hd ne => ⟨rfl, dx, [(f, y)], upd_same, ?_, ?_, ?_⟩⟩⟩
  · rw [upd_ne ne, upd_same]
  · rw [upd_ne ne] at hd
    exact hd
  · rw [upd_ne ne] at hd
    refine k dx _ hd (fun b o q => ?_) upd_same
    rw [upd_ne (ne_of_none q hd), del_ne (ne_of_none q ha), upd_ne (ne_of_none q ha), upd_ne (ne_of_none q hd), upd_ne (ne_of_none q ha)]
    exact q
/-- isinstance(n, c), n the caught error of the class at D that has its dict -/
def rIsD (K : PySem.W.Frag) (D a : Addr) (cls : Value) (d : Option Addr) : List V → Hp → VK → Prop := fun xs H Q => ∃ (c : V) (cv : Value) (b : Bool) (dd : Addr) (fs : List (Str × V)), xs = [.ref a, c] ∧ cls = .ref D ∧ d = some dd ∧ H dd = some (.xd fs) ∧ (∀ u, RelV c u → u = cv) ∧ PySem.W.kitOne K (.ref D) cv = some b ∧ Q (.bl b) H
theorem call_isD (T : ExcC X.K D) (hz : Zc cls d oe) (hf : ∃ vs, oe.data = .fields vs) : CallR (X.suite a ((a, oe) :: pn)) (.builtin "isinstance") (rIsD X.K D a cls d) := by
  intro pins s σ H xs us Q I r h
  obtain ⟨c, cv, b, dd, fs, rfl, rfl, rfl, hx, hcv, ek, q⟩ := h
  obtain ⟨u1, u2, rfl, r1, r2⟩ := vals2 r
  cases r1
  obtain rfl := hcv _ r2
  obtain ⟨at_, _⟩ := I.pin (a, oe) (List.mem_append.mpr (.inl List.mem_cons_self))
  obtain ⟨vs, hv⟩ := hf
  obtain ⟨mA, hns, _⟩ := (show ObjOk X.prog X.w H s.heap dd (.xd fs) from I.hok dd _ hx)
  obtain ⟨od, ho, _⟩ := lookIn_ns hns
  have J : PySem.W.InstAt s.heap a oe D (some od) := ⟨at_, hz.1, by unfold PySem.W.notCls; rw [hv] <;> rfl, by rw [hz.2]; exact ho⟩
  have hc : (PySem.W.clsIn X.K D).isSome = true := by obtain ⟨cd, e1, _⟩ := PySem.W.any_some T.hd; rw [e1]; rfl
  exact PySem.W.kia_one (PySem.W.kitx_exc hc T.hg T.hk T.hs T.ha T.hn T.ht T.hm) I.kIn J ek (fun z => nomatch z) fun tk => ⟨.bl b, H, I.kept (t' := tk) fun _ _ z => z, rfl, q⟩
/-- an operator that may let an error out, by the slots -/
def tOpS (r : L2.St → R2) (ta tb : TE) : TE := fun σ H Q => ta σ H fun x H1 => tb σ H1 fun y H2 => r σ x y H2 Q
theorem pe_opS {op : Operator} {r : L2.St → R2} (ho : ∀ (pins : List (Addr × Obj)) (s : Shared) (σ : L2.St) (H : Hp) (x y : V) (v u : Value) (Q : VK), Inv X pins σ H s → RelV x v → RelV y u → r σ x y H Q → wpAny (model X.prog X.w) X.A (binaryOp op v u) (EP X pins σ Q) X.xe s)
    (ha : PE X e ta) (hb : PE X b tb) : PE X (.BinOp e op b pos) (tOpS r ta tb) := by
  refine ⟨fun pins s σ H Q I h => ?_⟩
  exact wpAny_BinOp (binT ha hb I h fun v u s2 x y H2 I2 rx ry q => ho pins s2 σ H2 x y v u Q I2 rx ry q)
theorem op_ownBS {op : Operator} {E : L2.St → XK} (c : Kls X.K X.mg x C) (F : Own X.prog X.w X.K X.mg X.base CX k C (PySem.dunder op.info.2) ps sp) (hr : Room j X.A) (hx : ∀ σ, PassesAt CX X σ (E σ)) (hj : k ≤ j := by first | decide | omega)
    (pins : List (Addr × Obj)) (s : Shared) (σ : L2.St) (H : Hp) (u v : V) (ov iv : Value) (Q : VK) (I : Inv X pins σ H s) (ru : RelV u ov) (rv : RelV v iv) (h : rOwnB C sp (E σ) u v H Q) : wpAny (model X.prog X.w) X.A (binaryOp op ov iv) (EP X pins σ Q) X.xe s := by
  obtain ⟨f, fd, G, a1, a2, a3, a4, bb⟩ := F.ex
  obtain ⟨a, b, dx, fs, dy, gs, rfl, rfl, ha, hb, q⟩ := h
  cases (show ov = Value.ref a from ru)
  cases (show iv = Value.ref b from rv)
  obtain ⟨_, O, _⟩ := ins_get I.hok ha
  obtain ⟨od, J, _⟩ := O.look
  obtain ⟨_, O', _⟩ := ins_get I.hok hb
  obtain ⟨od', J', _⟩ := O'.look
  obtain ⟨_, hF⟩ := I.fr
  refine PySem.W.binop_K (op := op) hF I.ok.mod.kin J J'.type c.sf a1 a2 ?_
  refine wpAny_mono (run_fnS (us := [.ref a, .ref b]) (vs := [.ref a, .ref b]) G (hr.mono hj) bb (hx σ) I (.cons rfl (.cons rfl .nil)) q) ?_ fun _ _ z => z
  rintro w s' ⟨z, H', I', rz, qz⟩
  exact SlX.cmpback rz ⟨z, H', I', rz, qz⟩
end
/-- try: body / except c as n: suite, all that is raised caught -/
def tTryAs (K : PySem.W.Frag) (c : Value) (i : Nat) (tb : WX → TS) (ts : Addr → Value → Option Addr → TS) : TS := fun D σ H => tb (wAs K c i ts (fun _ _ _ _ => False) D) D σ H
/-- raise C(..), let out of the def -/
def tRaise (C : Addr) (sp : Sp) (t : TA) (E : XK) : TS := fun _ σ H => tMkO C sp [] t σ H fun cls d H' => E cls d H'
theorem refs0 : PySem.HandSPX.refsVE [.type "ValueError", .type "Exception", .type "BaseException", .type "object"] = true := by decide +kernel
theorem refs1 (c : Addr) : PySem.HandSPX.refsVE [.ref c, .type "ValueError", .type "Exception", .type "BaseException", .type "object"] = true := refs0
theorem exm_is {K : PySem.W.Frag} {D C : Addr} (T : XfC K C) (ty : PySem.W.typeIn K (.ref C) = some (.type "type")) (s : PySem.W.subIn K (.ref D) (.ref C) = some true) : PySem.W.exmOne K (.ref D) (.ref C) = some true :=
  PySem.W.exm_ref T.exC T.hdC ty s
end Pk
set_option Elab.async false
set_option linter.all false
set_option maxRecDepth 100000
set_option maxHeartbeats 4000000
/-! own errors whose __init__ says super().__init__() -/
namespace Pk
open PySem PySem.Spec L2 PyProof.Rows
/-- what the written part says of such a class, its function's code and cell -/
structure SupC (P : Program) (K : PySem.W.Frag) (C cc : Addr) (cdv : Value) : Prop where
  code : ∃ cda ccl cdd vs ccs file tf, cdv = .ref cda ∧ K.lookup cda = some ⟨ccl, cdd, .fields vs, ccs⟩ ∧ vs[2]? = some (.str file tf) ∧ ((P.main.file : Str) == file) = true
  cell : ∃ cl cld csl, K.lookup cc = some ⟨cl, cld, .cell (some (.ref C)), csl⟩
  up : PySem.W.ks_superIn K C C "__init__" = some (some (.builtin "ValueError.__init__"))
  ve : PySem.W.subIn K (.ref C) (.type "ValueError") = some true
  self : PySem.W.mroIn K C (.ref C) = some true
  glob : PySem.W.nsIn K mainGlobals "super" = some none
  opq : PySem.W.nsIn K cStatics "thirdparty.any" = some none
  main : (P.main.scope.names.lookup ("super" : Str)).isSome = false
def rSup (K : PySem.W.Frag) (C : Addr) : Sp := fun vs H Q _ => ∃ a, vs = [.ref a] ∧ OexC K C ∧ H a = some (exo a C none) ∧ Q .non H
section
variable {CX : CXT} {P : Program} {w : World} {K : PySem.W.Frag} {mg : Str → Option Value} {base : Heap} {f cc C : Addr} {name qual : Str} {params : Arguments} {scope : Scope} {dV kV doc pm cdv ct oc : Value} {an od : Option Addr} {osl : Array (Option Value)} {p0 p1 p2 p3 p4 : Pos} {ar : Arg}
theorem fn_sup (lk : K.lookup f = some ⟨oc, od, .func (PySem.W.ksFn name qual params [.Expr (.Call (.Attribute (.Call (.Name "super" p0) [] [] p1) "__init__" p2) [] [] p3) p4] scope dV kV doc pm an cdv ct cc), osl⟩)
    (hcd : PySem.W.codeIn K cdv qual = true) (S : SupC P K C cc cdv) (hks : scope.names.lookup ("super" : Str) = some .globalImplicit) (hkc : scope.names.lookup ("__class__" : Str) = some .free) (hka : scope.names.lookup ("self" : Str) = some .local)
    (hk : scope.kind = .function) (hcell : ∀ x ∈ scope.names, x.2 ≠ .cell) (hco : scope.isCoroutine = false) (hgen : scope.isGenerator = false) (hp : (params.posonlyargs ++ params.args).head? = some ar) (har : ar.arg = "self")
    (he : ∀ env : Env, ∃ pl : Sem Bool, eval (.Call (.Attribute (.Call (.Name "super" p0) [] [] p1) "__init__" p2) [] [] p3) env = (do
      let ov ← attributeBase (.Call (.Name "super" p0) [] [] p1) "__init__" env (eval (.Call (.Name "super" p0) [] [] p1) env)
      standAt p2.atName
      let (fn, us) ← holding [ov] (getMethod ov "__init__" pl)
      callWith p3 fn us (backTo p3 (starEach [] env)) [])) :
    FnOk P w K mg base CX 1 f (PySem.W.ksFn name qual params [.Expr (.Call (.Attribute (.Call (.Name "super" p0) [] [] p1) "__init__" p2) [] [] p3) p4] scope dV kV doc pm an cdv ct cc) ["self"] (rSup K C) := by
  refine ⟨fun vs H Q E h => by obtain ⟨a, rfl, _⟩ := h; rfl, fun A outer s H args us vs Q E hr e0 hb r hsp => ?_⟩
  obtain ⟨a, rfl, ox, ea, q⟩ := hsp
  obtain ⟨nm, qn, N, bs, bm, sn, sub, ab, col, dd, k0, k1, k2, k3, k5, hC, hbm⟩ := ox.cls
  obtain ⟨cda, ccl, cdd, fv, ccs, file, tf, rfl, hcode, hvs, hfile⟩ := S.code
  obtain ⟨cl, cld, csl, hcell2⟩ := S.cell
  cases r with
  | cons ra rr =>
  cases rr
  cases ra
  have KX : K.In s.heap := e0.mod.kin.keeps fun b o e => (e0.bs b o e).1
  have lim : s.heap.NoLimit := e0.mod.nolimit.keeps fun b o e => (e0.bs b o e).1
  refine ks_codeAny_call_defAt (binds := [(("self" : Str), .ref a)]) hr.depth (KX _ _ lk) rfl lim (PySem.W.codeRec_of KX hcd) rfl hb hcell ?_ (fun h1 hns hk1 => ?_) hco hgen hk
  · intro x hx
    obtain rfl := List.mem_singleton.mp hx
    exact hka
  have hint : ∀ fd : FuncData, fd.scope.kind = .function → interactive (callEnv fd s.heap.objs.size f) = false := fun fd e => by
    show (fd.scope.kind == .module && _) = false
    rw [e]
    rfl
  obtain ⟨pl, hpl⟩ := he (callEnv (PySem.W.ksFn name qual params [.Expr (.Call (.Attribute (.Call (.Name "super" p0) [] [] p1) "__init__" p2) [] [] p3) p4] scope dV kV doc pm an (.ref cda) ct cc) s.heap.objs.size f)
  refine ks_wpAt_execs_cons (ks_wpAt_Expr_any (ks_wpAt_MethodCall ?_ hpl) (hint _ hk) rfl)
  have KX1 : K.In h1 := KX.keeps hk1
  obtain ⟨t0, hoe⟩ := exo_at e0.hok ea
  have ha1 := hk1 _ _ hoe
  have hD := KX1 _ _ hC
  refine ks_wpAt_super_base hks hkc (by decide) rfl (hk1 _ _ (KX _ _ lk)) rfl hp rfl (KX1 _ _ hcode) rfl hvs hfile S.main ?_
  obtain ⟨mb, b1, b2⟩ := e0.mod.blt
  have kb : ∀ b o, base.get? b = some o → h1.get? b = some o := fun b o e => hk1 _ _ (e0.bs b o e).1
  refine PySem.W.ks_loadName_global hk hks (Calls.loadGlobal_builtin (e0.mod.glob.keeps kb) (PySem.W.mg_none_of e0.mod.kin e0.mod.glob S.glob) (b1.keeps kb) ((b2 _ (by decide +kernel)).trans PyProof.Rows.Boot.«super») ⟨rfl, ?_⟩)
  refine wpAny_loadName_free hk hkc rfl ⟨_, KX1 _ _ hcell2, rfl⟩ ?_
  rw [har]
  refine wpAny_loadName_local hk hka hns (v := .ref a) (by show List.lookup ("self" : Str) [("self", Value.ref a)] = _; simp [List.lookup]) ?_
  refine ks_wpAny_isType_cls hD rfl ⟨rfl, ?_⟩
  have hcl : PySem.W.clsIn K C = some { name := nm, bases := bs, mro := .ref C :: bm, ns := N, qualname := qn, hasDict := true, slotNames := sn, subclasses := sub, abstract := ab, collection := col, hasDel := false } := by unfold PySem.W.clsIn; rw [hC] <;> rfl
  refine ks_wpAny_call_super hD rfl ha1 rfl (fun c e => nomatch e) (PySem.W.looks_mroIn KX1 S.self) (fun h2 e2 k2 => ?_)
  have KX2 : K.In h2 := KX1.keeps k2
  have I2 : PySem.W.InstAt h2 a _ C none := ⟨k2 _ _ ha1, rfl, rfl, trivial⟩
  have hup := S.up
  unfold PySem.W.ks_superIn at hup
  rw [hcl] at hup
  refine PySem.W.kxs_getMethod PySem.W.kxs_ValueError e2 (PySem.W.looks_opaque KX2 S.opq) (l₀ := .ref C :: bm) (fun A Q E s k q => wpAny_bind ((PySem.W.looks_clsIn KX2 hcl) A _ E s k (wpAny_pure q))) rfl KX2 hup
    (I2.type.andThen (PySem.W.looks_subIn KX2 S.ve)) (PySem.W.ks_ne KX2 I2 hcl) (by decide) ?_
  generalize hs2 : h2.objs.size = u
  have hu : (h2.push (PySem.W.kxs_mw "ValueError.__init__" a)).get? u = some (PySem.W.kxs_mw "ValueError.__init__" a) := by rw [← hs2]; exact Heap.get?_push_at rfl rfl
  have k3 : ∀ b o, h2.get? b = some o → (h2.push (PySem.W.kxs_mw "ValueError.__init__" a)).get? b = some o := fun b o e => Heap.get?_push_of_some _ e
  generalize h2.push (PySem.W.kxs_mw "ValueError.__init__" a) = h3 at hu k3
  refine PySem.W.kxs_callWith (i := "ValueError.__init__") (x := a) rfl (evalArgs_empty ⟨hu, ?_⟩)
  refine wpAny_call (codeAny_of_tree ?_)
  show wpAny _ (A.deeper _).in1 (callAny (.ref u) ⟨[], []⟩) _ _ _
  simp only [callAny]
  refine wpAny_bind (wpAny_load hu ?_)
  have d1 : ((Value.type "method-wrapper" == Value.type "method" || Value.type "method-wrapper" == Value.type "builtin_function_or_method" || Value.type "method-wrapper" == Value.type "method-wrapper")) = true := by decide
  simp only [PySem.W.kxs_mw, d1, if_true]
  refine PySem.W.KFB.if_so (by decide) ?_
  have FB := PySem.F.excBase_ValueError
  have ha3 := k3 _ _ (k2 _ _ ha1)
  refine wpAny_bind (PySem.W.check_bound_init FB.toExcCallFacts ((KX2.keeps k3) _ _ hC) ha3 rfl (wpAny_bind (wpAny_pure (wpAny_pure ?_))))
  refine ⟨plainId_quiet FB.init.plain _, codeAny_builtin FB.initEntry ?_⟩
  refine PySem.W.exc_init_tree (cls := .ref C) (t0 := t0) (dv := none) (c2 := .none) (c3 := .none) (b4 := .bool false) ha3 (Nat.zero_le _) fun h4 k4 e4 _ => ?_
  have kk : ∀ b o, b ≠ a → s.heap.get? b = some o → h4.get? b = some o := fun b o n e => k4 b o n (k3 _ _ (k2 _ _ (hk1 _ _ e)))
  have na : ∀ {b : Addr}, H b = none → b ≠ a := fun {b} n z => by
    rw [z, ea] at n
    cases n
  have U : Un (frs outer) [] H H s.heap h4 := {
    keep := fun b o e n _ _ => kk b o (na n) e
    slot := fun b o e n _ _ => ⟨o.slots, kk b o (na n) e⟩
    free := fun b o e n _ => n
    there := fun b o e _ => by
      by_cases hb : b = a
      · exact ⟨_, by rw [hb]; exact e4⟩
      · exact ⟨o, kk b o hb e⟩
    tups := fun b xs e => e
    frzs := fun b o v e => e
    tbls := fun b ps e => ⟨#[], by simpa using e⟩ }
  have O : HOk P w H h4 := fun b o e => by
    by_cases hb : b = a
    · subst hb
      rw [ea] at e
      cases e
      exact exo_ok e4
    · exact (e0.hok b o e).stay (fun c v hc z => kk c v (by
        rcases hc with hc | hc
        · rw [hc]
          exact hb
        · exact at_ne ea hc exo_own) z) (fun c hc => hc) (fun c xs hc => hc)
  exact wpAt_of_wpAny (wpAny_pure ⟨.non, H, rfl, e0.bare, U, O, rfl, q⟩)
end
section
variable {CX : CXT} {P : Program} {w : World} {K : PySem.W.Frag} {mg : Str → Option Value} {base : Heap} {f cc C : Addr} {name qual : Str} {st : Stmt} {dV kV doc pm cdv ct oc : Value} {an od : Option Addr} {osl : Array (Option Value)} {p0 p1 p2 p3 p4 : Pos} {ar : Arg}
/-- the same by the def's statement -/
theorem sup_mk (lk : K.lookup f = some ⟨oc, od, .func (PySem.W.ksFn name qual (defArgs st) (defBody st) (defScope st) dV kV doc pm an cdv ct cc), osl⟩) (hcd : PySem.W.codeIn K cdv qual = true) (S : SupC P K C cc cdv)
    (hb : defBody st = [.Expr (.Call (.Attribute (.Call (.Name "super" p0) [] [] p1) "__init__" p2) [] [] p3) p4]) (hks : (defScope st).names.lookup ("super" : Str) = some .globalImplicit) (hkc : (defScope st).names.lookup ("__class__" : Str) = some .free) (hka : (defScope st).names.lookup ("self" : Str) = some .local)
    (hk : (defScope st).kind = .function) (hcell : ∀ x ∈ (defScope st).names, x.2 ≠ .cell) (hco : (defScope st).isCoroutine = false) (hgen : (defScope st).isGenerator = false) (hp : ((defArgs st).posonlyargs ++ (defArgs st).args).head? = some ar) (har : ar.arg = "self")
    (he : ∀ env : Env, ∃ pl : Sem Bool, eval (.Call (.Attribute (.Call (.Name "super" p0) [] [] p1) "__init__" p2) [] [] p3) env = (do
      let ov ← attributeBase (.Call (.Name "super" p0) [] [] p1) "__init__" env (eval (.Call (.Name "super" p0) [] [] p1) env)
      standAt p2.atName
      let (fn, us) ← holding [ov] (getMethod ov "__init__" pl)
      callWith p3 fn us (backTo p3 (starEach [] env)) [])) :
    FnOk P w K mg base CX 1 f (PySem.W.ksFn name qual (defArgs st) (defBody st) (defScope st) dV kV doc pm an cdv ct cc) ["self"] (rSup K C) := by
  rw [hb] at lk ⊢
  exact fn_sup lk hcd S hks hkc hka hk hcell hco hgen hp har he
end
/-! ### C() raised, held as a value; C(v) held as a value -/
section
variable {X : Cx} {CX : CXT} {k j : Nat} {C D a fI : Addr} {fd : FuncData} {ps : List Str} {sp : Sp} {x f : Str} {p pos : Pos} {e : Expr} {es : List Expr} {t : TA} {te : TE}
/-- an exception of the class at C that was just made at a, as a call leaves it -/
def MadeO (X : Cx) (H : Hp) (C a : Addr) (s s' : Shared) : Prop :=
  ∃ (hp2 : Heap) (t2 : Nat), s.heap.objs.size ≤ a ∧ (∀ b o, s.heap.get? b = some o → hp2.get? b = some o) ∧ HOk X.prog X.w (upd H a (exo a C none)) hp2 ∧ Un (frs X.stack) [] (upd H a (exo a C none)) (upd H a (exo a C none)) hp2 s'.heap ∧ HOk X.prog X.w (upd H a (exo a C none)) s'.heap ∧ s'.os = s.os ∧ AllBare s'.gens ∧
    (∀ {pins : List (Addr × Obj)} {σ : L2.St}, Inv X pins σ H s → Inv X pins σ (upd H a (exo a C none)) s')
/-- the call of the class with no arguments: what comes of it -/
theorem call_sup0 {pins : List (Addr × Obj)} {σ : L2.St} {H : Hp} {s : Shared} {Q : Value → Shared → Prop} (T : OexC X.K C) (iC : PySem.W.findIn X.K (.ref C) "__init__" = some (some (.ref fI))) (tI : PySem.W.typeIn X.K (.ref fI) = some (.type "function"))
    (F1 : FnOk X.prog X.w X.K X.mg X.base CX k fI fd ps (rSup X.K C)) (hr : Room (k + 1) X.A) (hb : Binds X.K fd ps []) (hx : Passes CX X (fun _ _ _ => False)) (I : Inv X pins σ H s)
    (h : ∀ (a : Addr) (s' : Shared), MadeO X H C a s s' → Q (.ref a) s') : wpAny (model X.prog X.w) X.A (call (.ref C) []) Q X.xe s := by
  obtain ⟨nm, q, N, bs, bm, sn, sub, ab, col, dd, k0, k1, k2, k3, k5, hC, hbm⟩ := T.cls
  obtain ⟨hp, g, dr, tk, os⟩ := s
  have hsz : hp.objs.size ≤ hp.objs.size + 1 := Nat.le_succ _
  have hn : H (hp.objs.size + 1) = none := I.hok.fresh hsz
  have kk : ∀ b o, hp.get? b = some o → ((hp.push (PySem.W.kdv_tup [])).push (PySem.HandSPX.excO C hp.objs.size)).get? b = some o := fun b o e => Heap.get?_push_of_some _ (Heap.get?_push_of_some _ e)
  have hget : ((hp.push (PySem.W.kdv_tup [])).push (PySem.HandSPX.excO C hp.objs.size)).get? (hp.objs.size + 1) = some (PySem.HandSPX.excO C hp.objs.size) := by heap_get
  have lay : ∀ {pins : List (Addr × Obj)} {σ : L2.St}, Inv X pins σ H ⟨hp, g, dr, tk, os⟩ → Inv X pins σ (upd H (hp.objs.size + 1) (exo (hp.objs.size + 1) C none)) ⟨(hp.push (PySem.W.kdv_tup [])).push (PySem.HandSPX.excO C hp.objs.size), g, dr, tk, os⟩ := fun I =>
    I.laid (t' := tk) (a := hp.objs.size + 1) (o := exo (hp.objs.size + 1) C none) (h' := (hp.push (PySem.W.kdv_tup [])).push (PySem.HandSPX.excO C hp.objs.size)) kk hsz (exo_ok hget)
  have I2 := lay I
  have r2 : Vals [V.ref (hp.objs.size + 1)] ([Value.ref (hp.objs.size + 1)] ++ []) := .cons rfl .nil
  have hq : rSup X.K C [V.ref (hp.objs.size + 1)] (upd H (hp.objs.size + 1) (exo (hp.objs.size + 1) C none)) (fun v H2 => H2 = upd H (hp.objs.size + 1) (exo (hp.objs.size + 1) C none) ∧ v = .non) (fun _ _ _ => False) := ⟨_, rfl, T, upd_same, rfl, rfl⟩
  have hl : ([Value.ref (hp.objs.size + 1)] ++ []).length = ps.length := by
    have e := F1.len _ _ _ _ hq
    exact e
  refine wpAny_call (PySem.HandSPX.call_own PySem.F.excBase_ValueError (fun Y => PySem.HandSPX.refsVE_contains Y bm hbm) (I.kIn _ _ hC) (PySem.W.looks_findIn I.kIn iC) (fun self => PySem.W.bind_fn I.kIn self tI) (Nat.zero_le _)
    (codeAny_mono (F1.run _ X.stack _ _ ⟨[Value.ref (hp.objs.size + 1)], []⟩ ([Value.ref (hp.objs.size + 1)] ++ []) _ _ (fun _ _ _ => False) (hr.make C [] []) (I2.env0.make C [] []) (hb _ [Value.ref (hp.objs.size + 1)] I2.kIn hl) r2 hq) fun r s' hq' => ?_))
  cases r with
  | error er => exact hx pins σ _ _ er s' I2 hq'
  | ok fl =>
    cases fl with
    | ret u =>
      obtain ⟨v, H2, os2, bare2, un2, hok2, rv, e2, ev⟩ := hq'
      subst ev
      subst e2
      obtain ⟨h2, g2, d2, t2, os'⟩ := s'
      obtain rfl : os' = os := os2
      exact ⟨rv, h _ _ ⟨_, tk, hsz, kk, I2.hok, un2, hok2, rfl, bare2, fun J => (lay J).call (h' := h2) (g' := g2) (d' := d2) (t' := t2) (ch := []) un2 hok2 bare2 fun b z => absurd z (by simp)⟩⟩
    | next => exact False.elim hq'
    | brk => exact False.elim hq'
    | cont => exact False.elim hq'
/-- it is let go: nothing of it is tracked -/
theorem made_mk {pins : List (Addr × Obj)} {σ : L2.St} {H : Hp} {s s' : Shared} {Q : XK} (T : Raises X (.ref C)) (I : Inv X pins σ H s) (m : MadeO X H C a s s') (q : Q (.ref C) none H) : MkP X pins σ Q (.ref a) s' := by
  obtain ⟨hp2, t2, hsz, kk, _, un, hok, os, bare, _⟩ := m
  have hn : H a = none := I.hok.fresh hsz
  obtain ⟨t0, hoe⟩ := exo_at hok upd_same
  obtain ⟨G, g1, g2⟩ := restrict s'.heap fun b => decide (b ≠ a)
  have gk : ∀ b, b ≠ a → G.get? b = s'.heap.get? b := fun b hb => g1 b (decide_eq_true hb)
  have ge : G.get? a = none := g2 a (by simp)
  have nha : ∀ {b : Addr} {o : Obj}, s.heap.get? b = some o → b ≠ a := fun {b o} z => Nat.ne_of_lt (Nat.lt_of_lt_of_le (Heap.lt_size z) hsz)
  have up : ∀ {b : Addr}, b ≠ a → H b = none → upd H a (exo a C none) b = none := fun {b} hb n => by rw [upd_ne hb]; exact n
  have U : Un (frs X.stack) [] H H s.heap G := {
    keep := fun b o z n hf hx => by
      rw [gk b (nha z)]
      exact un.keep b o (kk b o z) (up (nha z) n) hf hx
    slot := fun b o z n hf hx => by
      rw [gk b (nha z)]
      exact un.slot b o (kk b o z) (up (nha z) n) hf hx
    free := fun b o z n hx => n
    there := fun b o z hx => by
      rw [gk b (nha z)]
      exact un.there b o (kk b o z) hx
    tups := fun b xs z => z
    frzs := fun b o v z => z
    tbls := fun b ps z => ⟨#[], by simpa using z⟩ }
  have hok3 : HOk X.prog X.w H G := fun b o z => by
    have hba : b ≠ a := fun e => by
      rw [e, hn] at z
      cases z
    have z2 : upd H a (exo a C none) b = some o := by rw [upd_ne hba]; exact z
    exact (hok b o z2).stay (fun c v hc y => by
        have hca : c ≠ a := by
          rcases hc with hc | hc
          · rw [hc]
            exact hba
          · exact at_ne upd_same hc exo_own
        rw [gk c hca]
        exact y)
      (fun c hc => by rw [upd_ne (at_ne upd_same hc exo_own)] at hc; exact hc) (fun c xs hc => by rw [upd_ne (at_ne upd_same hc exo_tup)] at hc; exact hc)
  obtain ⟨h2, g2', d2, t2', os'⟩ := s'
  obtain ⟨hp, g, dr, tk, os0⟩ := s
  have J : Inv X pins σ H ⟨G, g2', d2, t2', os'⟩ := I.call' (ch := []) os U hok3 bare (fun b z => absurd z (by simp))
  exact ⟨a, _, _, ⟨G, g2', d2, t2', os'⟩, H, .ref C, none, rfl, J, fun b o z => by
    by_cases hba : b = a
    · rw [hba, ge] at z
      cases z
    · exact (gk b hba).symm.trans z, ge, hoe, ⟨rfl, rfl⟩, rfl, rfl, hn, rfl, bare, T, q⟩
/-- raise C() -/
theorem pmk_sup (c : ErrK X.K X.mg x C) (F : ErrI X.prog X.w X.K X.mg X.base k C ps (rSup X.K C)) (hr : Room j X.A) (hj : k + 1 ≤ j := by first | decide | omega) (hg : Gl X x := by rfl) (h1 : (x == ("__debug__" : Str)) = false := by decide) :
    PMk X (.Call (.Name x p) [] [] pos) (fun _ H Q => Q (.ref C) none H) := by
  intro pins s σ H Q I h
  obtain ⟨f, fd, G, a1, a2, bb⟩ := F.ex
  refine wpAny_Call_Name_kw (ld_glob I hg c.at_ ?_ h1)
  refine PySem.W.callWith_K0 I.kIn c.oex.kC ?_
  exact call_sup0 c.oex a1 a2 G (hr.mono hj) bb (fun _ _ _ _ _ _ _ z => z.elim) I fun a s' m => made_mk (raises_own c.oex.exC c.oex.tyC) I m h
/-- C() as a value -/
def tMkV0 (C : Addr) : TE := fun _ H Q => ∀ a, H a = none → Q (.ref a) (upd H a (exo a C none))
theorem pe_mkV0 (c : ErrK X.K X.mg x C) (F : ErrI X.prog X.w X.K X.mg X.base k C ps (rSup X.K C)) (hr : Room j X.A) (hj : k + 1 ≤ j := by first | decide | omega) (hg : Gl X x := by rfl) (h1 : (x == ("__debug__" : Str)) = false := by decide) :
    PE X (.Call (.Name x p) [] [] pos) (tMkV0 C) := by
  refine ⟨fun pins s σ H Q I h => ?_⟩
  obtain ⟨f, fd, G, a1, a2, bb⟩ := F.ex
  refine wpAny_Call_Name_kw (ld_glob I hg c.at_ ?_ h1)
  refine PySem.W.callWith_K0 I.kIn c.oex.kC ?_
  refine call_sup0 c.oex a1 a2 G (hr.mono hj) bb (fun _ _ _ _ _ _ _ z => z.elim) I fun a s' m => ?_
  obtain ⟨_, _, hsz, _, _, _, _, _, _, J⟩ := m
  exact ⟨.ref a, _, J I, rfl, h a (I.hok.fresh hsz)⟩
end
end Pk
set_option Elab.async false
set_option linter.all false
set_option maxRecDepth 100000
set_option maxHeartbeats 4000000
/-! errors held as values -/
namespace Pk
open PySem PySem.Spec L2 PyProof.Rows
/-- at a: an error of the class at C that was made, with its fields or without -/
inductive ErrV (K : PySem.W.Frag) (H : Hp) (a C : Addr) : Prop where
  | no (e : H a = some (exo a C none))
  | fld {dd : Addr} {fs : List (Str × V)} (e : H a = some (exo a C (some dd))) (d : H dd = some (exd dd fs))
  | own (e : H a = some (ExO (.ref C) a))
section
variable {X : Cx} {CX : CXT} {k j : Nat} {C D a fI : Addr} {fd : FuncData} {ps : List Str} {sp : Sp} {x f : Str} {p pos : Pos} {e : Expr} {es : List Expr} {t : TA} {te : TE} {pins : List (Addr × Obj)} {σ : L2.St} {H : Hp} {s : Shared}
theorem ErrV.inst (I : Inv X pins σ H s) (h : ErrV X.K H a C) : ∃ oe od, PySem.W.InstAt s.heap a oe C od := by
  cases h with
  | no e =>
    obtain ⟨t0, h1⟩ := exo_at I.hok e
    exact ⟨_, none, h1, rfl, rfl, trivial⟩
  | fld e d =>
    obtain ⟨t0, h1⟩ := exo_at I.hok e
    obtain ⟨mA, hns, _⟩ := exd_at I.hok d
    obtain ⟨od, ho, _⟩ := lookIn_ns hns
    exact ⟨_, some od, h1, rfl, rfl, ho⟩
  | own e =>
    obtain ⟨⟨oe, vs, h1, z, hd, _⟩, _, _⟩ := (show ObjOk X.prog X.w H s.heap a (.ext fun h => ∃ (oe : Obj) (vs : Array Value), h.get? a = some oe ∧ Zc (.ref C) none oe ∧ oe.data = .fields vs ∧ vs[1]? = some .none ∧ vs[2]? = some .none ∧ 4 < vs.size) from I.hok a _ e)
    exact ⟨oe, none, h1, z.1, by unfold PySem.W.notCls; rw [hd] <;> rfl, by rw [z.2]; trivial⟩
/-- isinstance(e, c), e an error that is held -/
def rIsiE (K : PySem.W.Frag) : List V → Hp → VK → Prop := fun xs H Q => ∃ (a C : Addr) (c : V) (u : Value) (b : Bool), xs = [.ref a, c] ∧ ClsV c u ∧ ErrV K H a C ∧ ExcC K C ∧ PySem.W.kitOne K (.ref C) u = some b ∧ Q (.bl b) H
theorem call_isiE : CallR X (.builtin "isinstance") (rIsiE X.K) := by
  intro pins s σ H xs us Q I r h
  obtain ⟨a, C, c, u, b, rfl, k, ev, T, e, q⟩ := h
  obtain ⟨u1, u2, rfl, r1, r2⟩ := vals2 r
  cases r1
  have e2 := k.eq r2
  subst e2
  obtain ⟨oe, od, J⟩ := ev.inst I
  have hc : (PySem.W.clsIn X.K C).isSome = true := by obtain ⟨cd, e1, _⟩ := PySem.W.any_some T.hd; rw [e1]; rfl
  exact PySem.W.kia_one (PySem.W.kitx_exc hc T.hg T.hk T.hs T.ha T.hn T.ht T.hm) I.kIn J e (fun z => nomatch z) fun tk => ⟨.bl b, H, I.tok tk, rfl, q⟩
/-- e.f, e an error that is held -/
def tFldE (K : PySem.W.Frag) (f : Str) (te : TE) : TE := fun σ H Q => te σ H fun x H1 => ∃ (a C dd : Addr) (fs : List (Str × V)) (v : V), x = .ref a ∧ H1 a = some (exo a C (some dd)) ∧ H1 dd = some (exd dd fs) ∧ XfC K C ∧ PySem.W.findIn K (.ref C) f = some none ∧ fs.lookup f = some v ∧ Q v H1
theorem pe_fldE (he : PE X e te) (hb : attributeBase e f X.env (eval e X.env) = eval e X.env := by rfl) : PE X (.Attribute e f pos) (tFldE X.K f te) := by
  refine ⟨fun pins s σ H Q I h => ?_⟩
  refine attr_of hb (thn (he.run pins s σ H _ I h) fun u s1 hh => ?_)
  obtain ⟨x, H1, I1, rx, a, C, dd, fs, v, rfl, e1, e2, T, hno, l, q⟩ := hh
  obtain rfl : u = Value.ref a := rx
  obtain ⟨t0, h1⟩ := exo_at I1.hok e1
  obtain ⟨mA, hns, hr⟩ := exd_at I1.hok e2
  obtain ⟨od, ho, hl⟩ := lookIn_ns hns
  obtain ⟨u, hu, ru⟩ := RelO.some_of (v := v) (o := mA f) (by rw [← l]; exact hr f)
  have J : PySem.W.InstAt s1.heap a _ C (some od) := ⟨h1, rfl, rfl, ho⟩
  exact HandSPX.exc_get I1.kIn J T.ga T.gg T.exC (PySem.W.findObj_own T.hdC hno rfl (by rw [hl, hu])) (handed_of ru) ⟨v, H1, I1.tok _, ru, q⟩
/-- C(e, ..) as a value -/
def tMkV (C : Addr) (sp : Sp) (t : TA) : TE := fun σ H Q => t σ H fun vs H1 => vs.length ≤ 1000 ∧ ∀ a, H1 a = none → sp (.ref a :: (vs ++ [])) (upd H1 a (exo a C none)) (fun v H2 => v = .non ∧ Q (.ref a) H2) (fun _ _ _ => False)
theorem pe_mkV (c : ErrK X.K X.mg x C) (F : ErrI X.prog X.w X.K X.mg X.base k C ps sp) (hr : Room j X.A) (ha : PA X (e :: es) t) (hj : k + 1 ≤ j := by first | decide | omega) (hg : Gl X x := by rfl)
    (hdb : (x == ("__debug__" : Str)) = false := by decide) (he : starEach (e :: es) X.env = (false, eval e X.env) :: starEach es X.env := by rfl) (hpl : (backTo pos (starEach es X.env)).any (·.1) = false := by rfl) :
    PE X (.Call (.Name x p) (e :: es) [] pos) (tMkV C sp t) := by
  refine ⟨fun pins s σ H Q I h => ?_⟩
  obtain ⟨fI, fd, F1, iC, tI, hb⟩ := F.ex
  obtain ⟨nm, q, N, bs, bm, sn, sub, ab, col, dd, k0, k1, k2, k3, k5, hC, hbm⟩ := c.oex.cls
  refine wpAny_Call_Name_kw (ld_glob I hg c.at_ ?_ hdb)
  refine PySem.W.callWith_K (h₀ := X.base) I.ok.mod.kin c.oex.kC (thn (ha.run pos pins s σ H _ I h) fun us s1 ⟨vs, H1, I1, r1, hz, q1⟩ => ⟨I1.kIn, ?_⟩) he hpl
  show wpAny _ _ (call (.ref C) us) _ _ _
  obtain ⟨hp, g, dr, tk, os⟩ := s1
  have hsz : hp.objs.size ≤ hp.objs.size + 1 := Nat.le_succ _
  have hn : H1 (hp.objs.size + 1) = none := I1.hok.fresh hsz
  have hq := q1 (hp.objs.size + 1) hn
  have kk : ∀ b o, hp.get? b = some o → ((hp.push (PySem.W.kdv_tup us)).push (PySem.HandSPX.excO C hp.objs.size)).get? b = some o := fun b o e => Heap.get?_push_of_some _ (Heap.get?_push_of_some _ e)
  have got : ((hp.push (PySem.W.kdv_tup us)).push (PySem.HandSPX.excO C hp.objs.size)).get? (hp.objs.size + 1) = some (PySem.HandSPX.excO C hp.objs.size) := by heap_get
  have I2 : Inv X pins σ (upd H1 (hp.objs.size + 1) (exo (hp.objs.size + 1) C none)) ⟨(hp.push (PySem.W.kdv_tup us)).push (PySem.HandSPX.excO C hp.objs.size), g, dr, tk, os⟩ :=
    I1.laid (t' := tk) (a := hp.objs.size + 1) (o := exo (hp.objs.size + 1) C none) (h' := (hp.push (PySem.W.kdv_tup us)).push (PySem.HandSPX.excO C hp.objs.size)) kk hsz (exo_ok got)
  have r2 : Vals (V.ref (hp.objs.size + 1) :: (vs ++ [])) ((Value.ref (hp.objs.size + 1) :: us) ++ []) := .cons rfl (r1.append .nil)
  have hl : ((Value.ref (hp.objs.size + 1) :: us) ++ []).length = ps.length := by
    have e := r2.length
    rw [F1.len _ _ _ _ hq] at e
    exact e.symm
  have hus : us.length ≤ sizeLine := by
    rw [← Paired.length r1, sizeLine_eq]
    omega
  refine wpAny_call (PySem.HandSPX.call_own PySem.F.excBase_ValueError (fun Y => PySem.HandSPX.refsVE_contains Y bm hbm) (I1.kIn _ _ hC) (PySem.W.looks_findIn I1.kIn iC) (fun self => PySem.W.bind_fn I1.kIn self tI) hus
    (codeAny_mono (F1.run _ X.stack _ _ ⟨Value.ref (hp.objs.size + 1) :: us, []⟩ ((Value.ref (hp.objs.size + 1) :: us) ++ []) _ _ (fun _ _ _ => False) ((hr.mono hj).make C us []) (I2.env0.make C us []) (hb _ (Value.ref (hp.objs.size + 1) :: us) I2.kIn hl) r2 hq) fun r s' hq' => ?_))
  cases r with
  | error er => exact hq'.elim
  | ok fl =>
    cases fl with
    | ret u =>
      obtain ⟨v, H2, os2, bare2, un2, hok2, rv, ev, q2⟩ := hq'
      subst ev
      obtain ⟨h2, g2, d2, t2, os'⟩ := s'
      obtain rfl : os' = os := os2
      exact ⟨rv, .ref _, H2, I2.call (h' := h2) (g' := g2) (d' := d2) (t' := t2) (ch := []) un2 hok2 bare2 (fun b z => absurd z (by simp)), rfl, q2⟩
    | next => exact False.elim hq'
    | brk => exact False.elim hq'
    | cont => exact False.elim hq'
/-- C(), a class of the package without an __init__ of its own -/
theorem pe_exc0 {bmB : List Value} {B newId initId : String} (F : ExcBaseFacts B newId initId bmB) (q : PySem.W.excIn X.K C bmB newId = true) (gC : X.mg x = some (.ref C)) (kC : PySem.W.keepIn X.K (.ref C) = true) (hg : Gl X x := by rfl) (hdb : (x == ("__debug__" : Str)) = false := by decide) :
    PE X (.Call (.Name x p) [] [] pos) (fun _ H Q => ∀ a, H a = none → Q (.ref a) (upd H a (ExO (.ref C) a))) := by
  refine ⟨fun pins s σ H Q I h => ?_⟩
  refine wpAny_Call_Name_kw (ld_glob I hg gC ?_ hdb)
  refine PySem.W.callWith_K0 I.kIn kC ?_
  show wpAny _ _ (call (.ref C) []) _ _ _
  obtain ⟨bm, N, nm, qn, bs, hdct, sn, sub, ab, col, dd, k0, k1, k2, k3, k5, mN, hC, hN, hni, T⟩ := exc_obj I.kIn q
  refine wpAny_call_exc_subT F T hC hN hni (fun h' a hm => ?_) (Nat.zero_le _)
  have hn : H a = none := I.hok.gone hm.new
  obtain ⟨t, ht, _, _⟩ := hm.there
  exact ⟨.ref a, upd H a (ExO (.ref C) a), I.laidN hm.keeps hm.new hn (exO_ok ht ⟨rfl, rfl⟩ rfl rfl rfl (show 4 < 6 by decide)), rfl, h a hn⟩
end
/-! ### the caught error -/
/-- isinstance(n, c), isinstance(n, (c, ..)): n the caught error, whatever its class -/
def CaughtD (H : Hp) (d : Option Addr) : Prop := d = none ∨ ∃ dd fs, d = some dd ∧ H dd = some (.xd fs)
def rIsC (K : PySem.W.Frag) (a : Addr) (cls : Value) (d : Option Addr) : List V → Hp → VK → Prop := fun xs H Q => ∃ (c : V) (u : Value) (b : Bool) (D : Addr), xs = [.ref a, c] ∧ cls = .ref D ∧ ExcC K D ∧ CaughtD H d ∧ ClsV c u ∧ PySem.W.kitOne K (.ref D) u = some b ∧ Q (.bl b) H
def rIsCT (K : PySem.W.Frag) (a : Addr) (cls : Value) (d : Option Addr) : List V → Hp → VK → Prop := fun xs H Q => ∃ (tp : Addr) (cs : List V) (us : List Value) (b : Bool) (D : Addr), xs = [.ref a, .ref tp] ∧ H tp = some (.tup cs) ∧ cls = .ref D ∧ ExcC K D ∧ CaughtD H d ∧ Paired ClsV cs us ∧ PySem.W.kitAny K (.ref D) us = some b ∧ Q (.bl b) H
section
variable {X : Cx} {D a : Addr} {oe : Obj} {cls : Value} {d : Option Addr} {pn : List (Addr × Obj)} {pins : List (Addr × Obj)} {σ : L2.St} {H : Hp} {s : Shared}
theorem caught_inst (I : Inv (X.suite a ((a, oe) :: pn)) pins σ H s) (hz : Zc cls d oe) (hf : ∃ vs, oe.data = .fields vs) (hc : cls = .ref D) (hd : CaughtD H d) : ∃ od, PySem.W.InstAt s.heap a oe D od := by
  subst hc
  obtain ⟨at_, _⟩ := I.pin (a, oe) (List.mem_append.mpr (.inl List.mem_cons_self))
  obtain ⟨vs, hv⟩ := hf
  have nc : PySem.W.notCls oe = true := by unfold PySem.W.notCls; rw [hv] <;> rfl
  rcases hd with rfl | ⟨dd, fs, rfl, hx⟩
  · exact ⟨none, at_, hz.1, nc, by rw [hz.2]; trivial⟩
  · obtain ⟨mA, hns, _⟩ := (show ObjOk X.prog X.w H s.heap dd (.xd fs) from I.hok dd _ hx)
    obtain ⟨od, ho, _⟩ := lookIn_ns hns
    exact ⟨some od, at_, hz.1, nc, by rw [hz.2]; exact ho⟩
theorem exc_some {K : PySem.W.Frag} {D : Addr} (T : ExcC K D) : (PySem.W.clsIn K D).isSome = true := by obtain ⟨cd, e1, _⟩ := PySem.W.any_some T.hd; rw [e1]; rfl
theorem call_isC (hz : Zc cls d oe) (hf : ∃ vs, oe.data = .fields vs) : CallR (X.suite a ((a, oe) :: pn)) (.builtin "isinstance") (rIsC X.K a cls d) := by
  intro pins s σ H xs us Q I r h
  obtain ⟨c, u, b, D, rfl, hc, T, hd, k, e, q⟩ := h
  obtain ⟨u1, u2, rfl, r1, r2⟩ := vals2 r
  cases r1
  obtain rfl := k.eq r2
  obtain ⟨od, J⟩ := caught_inst I hz hf hc hd
  exact PySem.W.kia_one (PySem.W.kitx_exc (exc_some T) T.hg T.hk T.hs T.ha T.hn T.ht T.hm) I.kIn J e (fun z => nomatch z) fun tk => ⟨.bl b, H, I.kept (t' := tk) fun _ _ z => z, rfl, q⟩
theorem call_isCT (hz : Zc cls d oe) (hf : ∃ vs, oe.data = .fields vs) : CallR (X.suite a ((a, oe) :: pn)) (.builtin "isinstance") (rIsCT X.K a cls d) := by
  intro pins s σ H xs us Q I r h
  obtain ⟨tp, cs, ws, b, D, rfl, hT, hc, T, hd, k, e, q⟩ := h
  obtain ⟨u1, u2, rfl, r1, r2⟩ := vals2 r
  cases r1
  cases (show u2 = Value.ref tp from r2)
  obtain ⟨od, J⟩ := caught_inst I hz hf hc hd
  obtain ⟨_, its, rv, o, h1, h2, n, h3⟩ := (show ObjOk X.prog X.w H s.heap tp (.tup cs) from I.hok tp _ hT)
  have e3 := ClsV.all k rv
  subst e3
  obtain ⟨oc, odx, dt, sl⟩ := o
  simp only at h2 h3
  subst h2 h3
  exact PySem.W.kia_tup (PySem.W.kitx_exc (exc_some T) T.hg T.hk T.hs T.ha T.hn T.ht T.hm) I.kIn J h1 e (fun z => nomatch z) fun tk => ⟨.bl b, H, I.kept (t' := tk) fun _ _ z => z, rfl, q⟩
end
/-- raise C(..) in a try's body -/
def tRaiseW (C : Addr) (sp : Sp) (t : TA) (W : WX) : TS := fun _ σ H => tMkO C sp [] t σ H fun cls d H' => W cls d σ H'
def tRaiseW0 (C : Addr) (W : WX) : TS := fun _ σ H => W (.ref C) none σ H
/-- raise C(), let out of the def -/
def tRaise0 (C : Addr) (E : XK) : TS := fun _ _ H => E (.ref C) none H
end Pk
set_option Elab.async false
set_option linter.all false
set_option maxRecDepth 100000
set_option maxHeartbeats 4000000
namespace PkX
open PySem
abbrev bmV : List Value := [.type "ValueError", .type "Exception", .type "BaseException", .type "object"]
end PkX
namespace Pk
open PySem PySem.Spec L2 PyProof.Rows
theorem boot_t_ValueError : bootBuiltins "ValueError" = some (.type "ValueError") := by decide +kernel
def tExc0 (C : Addr) : TE := fun _ H Q => ∀ a, H a = none → Q (.ref a) (upd H a (ExO (.ref C) a))
def tExc1 (C : Addr) (ta : TE) : TE := fun σ H Q => ta σ H fun _ H1 => ∀ a, H1 a = none → Q (.ref a) (upd H1 a (ExO (.ref C) a))
/-- the own error classes in the law's order, the base behind them -/
def L10 (C : Cs) (i : Nat) : Addr := ([C.Wrong, C.TooMany, C.Overdrawn, C.NotPassed, C.Twice, C.Unknown, C.Ring, C.BadGuide, C.Narrow, C.Unready, C.NoCredit, C.Broken, C.IsSlow, C.Full, C.Refused, C.NoEntry, C.NoStep, C.Nothing, C.BadSlow, C.BadFrame, C.Unlike, C.NoDeed, C.NoText, C.NoCommand] : List Addr).getD i C.PipeError
def F10 (i : Nat) : Str := (["place", "limit", "many", "many", "name", "name", "name", "name", "name", "stream", "name", "at", "stream", "limit", "deed", "many"] : List Str).getD i ""
structure Fx10 (K : PySem.W.Frag) (C : Cs) : Prop where
  ox : ∀ i, i < 25 → OexC K (L10 C i)
  ex : ∀ i, i < 25 → ExcC K (L10 C i)
  xf : ∀ i, i < 25 → XfC K (L10 C i)
  nf : ∀ i, i < 16 → PySem.W.findIn K (.ref (L10 C i)) (F10 i) = some none
  kk : ∀ i, i < 25 → ∀ j, j < 24 → PySem.W.kitOne K (.ref (L10 C i)) (.ref (L10 C j)) = some (decide (j = i))
  pe : ∀ i, i < 25 → PySem.W.kitOne K (.ref (L10 C i)) (.ref C.PipeError) = some true
  ve : ∀ i, i < 25 → PySem.W.kitOne K (.ref (L10 C i)) (.type "ValueError") = some true
  em : ∀ i, i < 25 → PySem.W.exmOne K (.ref (L10 C i)) (.ref C.PipeError) = some true
def tab10 (K : PySem.W.Frag) (C : Cs) : Bool := (List.range 25).all fun i =>
  ((List.range 24).all fun j => decide (PySem.W.kitOne K (.ref (L10 C i)) (.ref (L10 C j)) = some (decide (j = i)))) &&
  decide (PySem.W.kitOne K (.ref (L10 C i)) (.ref C.PipeError) = some true) && decide (PySem.W.kitOne K (.ref (L10 C i)) (.type "ValueError") = some true) && decide (PySem.W.exmOne K (.ref (L10 C i)) (.ref C.PipeError) = some true)
theorem Fx10.of {K : PySem.W.Frag} {C : Cs} (t : tab10 K C = true) (ox : ∀ i, i < 25 → OexC K (L10 C i)) (ex : ∀ i, i < 25 → ExcC K (L10 C i)) (xf : ∀ i, i < 25 → XfC K (L10 C i)) (nf : ∀ i, i < 16 → PySem.W.findIn K (.ref (L10 C i)) (F10 i) = some none) : Fx10 K C := by
  have h : ∀ i, i < 25 → ((∀ j, j < 24 → PySem.W.kitOne K (.ref (L10 C i)) (.ref (L10 C j)) = some (decide (j = i))) ∧ PySem.W.kitOne K (.ref (L10 C i)) (.ref C.PipeError) = some true) ∧ PySem.W.kitOne K (.ref (L10 C i)) (.type "ValueError") = some true ∧ PySem.W.exmOne K (.ref (L10 C i)) (.ref C.PipeError) = some true := by
    intro i hi
    have z := List.all_eq_true.mp t i (List.mem_range.mpr hi)
    rw [Bool.and_eq_true, Bool.and_eq_true, Bool.and_eq_true] at z
    exact ⟨⟨fun j hj => of_decide_eq_true (List.all_eq_true.mp z.1.1.1 j (List.mem_range.mpr hj)), of_decide_eq_true z.1.1.2⟩, of_decide_eq_true z.1.2, of_decide_eq_true z.2⟩
  exact ⟨ox, ex, xf, nf, fun i hi => (h i hi).1.1, fun i hi => (h i hi).1.2, fun i hi => (h i hi).2.1, fun i hi => (h i hi).2.2⟩
section
variable {K : PySem.W.Frag} {C : Cs} {vs : List V} {H H' G G' : Hp} {Q : VK} {E : XK} {n i j : Nat} {v x : V} {b l a D : Addr} {σ : L2.St} {f : Str}
theorem ln_OneI (h : rOneI K D f vs H Q E) : vs.length = 2 := by obtain ⟨_, _, rfl, _⟩ := h; rfl
theorem rd_OneI (h : rOneI K D f vs H Q E) : tOst K f (tVar 0) (tVar 1) (EndsOf Q) (start ["", ""] vs) H := by
  obtain ⟨a, y, rfl, ox, nf, ha, k⟩ := h
  exact ⟨_, rfl, _, rfl, a, D, rfl, ox, nf, .inl ⟨ha, k⟩⟩
/-- x is an error of the class i, which holds v if it takes an argument -/
def Er (C : Cs) (v : V) (H : Hp) (i : Nat) (x : V) : Prop := ∃ a, x = .ref a ∧ ((i < 16 ∧ ∃ d, H a = some (exo a (L10 C i) (some d)) ∧ H d = some (exd d [(F10 i, v)])) ∨ (16 ≤ i ∧ H a = some (exo a (L10 C i) none)))
theorem Er.same (h : Er C v H i x) (s : Same H H') : Er C v H' i x := by
  obtain ⟨a, rfl, ⟨hi, d, e1, e2⟩ | ⟨hi, e⟩⟩ := h
  · exact ⟨a, rfl, .inl ⟨hi, d, s _ _ e1, s _ _ e2⟩⟩
  · exact ⟨a, rfl, .inr ⟨hi, s _ _ e⟩⟩
theorem Er.held (h : Er C v H i x) : ∃ a, x = .ref a ∧ ErrV K H a (L10 C i) := by
  obtain ⟨a, rfl, ⟨hi, d, e1, e2⟩ | ⟨hi, e⟩⟩ := h
  · exact ⟨a, rfl, .fld e1 e2⟩
  · exact ⟨a, rfl, .no e⟩
theorem ErrV.same (h : ErrV K H a D) (s : Same H H') : ErrV K H' a D := by
  cases h with
  | no e => exact .no (s _ _ e)
  | fld e d => exact .fld (s _ _ e) (s _ _ d)
  | own e => exact .own (s _ _ e)
def ErL (C : Cs) (v : V) (H : Hp) (es : List V) : Prop := ∀ i x, es[i]? = some x → Er C v H i x
theorem ErL.same {es : List V} (h : ErL C v H es) (s : Same H H') : ErL C v H' es := fun i x e => (h i x e).same s
theorem ErL.snoc {es : List V} (h : ErL C v H es) (e : Er C v H es.length x) : ErL C v H (es ++ [x]) := by
  intro i y hy
  by_cases c : i < es.length
  · rw [List.getElem?_append_left c] at hy
    exact h i y hy
  · have lt := (List.getElem?_eq_some_iff.mp hy).1
    rw [List.length_append, List.length_singleton] at lt
    have ei : i = es.length := by omega
    subst ei
    rw [List.getElem?_append_right (by omega), Nat.sub_self] at hy
    cases hy
    exact e
/-- one more error of the kind that takes an argument, in a row -/
theorem cons_mk {t : TA} {Q : List V → Hp → Prop} {es : List V} (i : Nat) (fx : Fx10 K C) (hi : i < 16) (h0 : σ[0]? = some (some v)) (L : ErL C v H es) (hn : es.length = i)
    (k : ∀ a H', Same H H' → ErL C v H' (es ++ [.ref a]) → t σ H' fun vs H2 => Q (.ref a :: vs) H2) : tCons (tMkV (L10 C i) (rOneI K (L10 C i) (F10 i)) (tCons (tVar 0) tNil)) t σ H Q := by
  refine ⟨_, h0, by show 1 ≤ 1000; decide, fun a ha => ⟨a, v, rfl, fx.ox i (by omega), fx.nf i hi, upd_same, fun dx hd ne => ⟨rfl, ?_⟩⟩⟩
  have hd' : H dx = none := by rw [upd_ne ne] at hd; exact hd
  have s : Same H (upd (upd (upd H a (exo a (L10 C i) none)) dx (exd dx [(F10 i, v)])) a (exo a (L10 C i) (some dx))) := fun b o e => by
    rw [upd_ne (ne_of_none e ha), upd_ne (ne_of_none e hd'), upd_ne (ne_of_none e ha)]
    exact e
  refine k a _ s ((L.same s).snoc ⟨a, rfl, .inl ⟨by omega, dx, ?_, ?_⟩⟩)
  · rw [hn]; exact upd_same
  · rw [hn, upd_ne ne, upd_same]
/-- one more error of the kind that takes nothing -/
theorem cons_mk0 {t : TA} {Q : List V → Hp → Prop} {es : List V} (i : Nat) (hi : 16 ≤ i) (L : ErL C v H es) (hn : es.length = i)
    (k : ∀ a H', Same H H' → ErL C v H' (es ++ [.ref a]) → t σ H' fun vs H2 => Q (.ref a :: vs) H2) : tCons (tMkV0 (L10 C i)) t σ H Q := by
  intro a ha
  have s : Same H (upd H a (exo a (L10 C i) none)) := same_new ha
  refine k a _ s ((L.same s).snoc ⟨a, rfl, .inr ⟨by omega, ?_⟩⟩)
  rw [hn]
  exact upd_same
theorem cons_is {t : TA} {Q : List V → Hp → Prop} (i j : Nat) (fx : Fx10 K C) (hi : i < 25) (hj : j < 24) (h0 : σ[0]? = some (some (.ref a))) (e : ErrV K H a (L10 C i)) (k : t σ H fun vs H2 => Q (.bl (decide (j = i)) :: vs) H2) :
    tCons (tCB (rIsiE K) (tCons (tVar 0) (tCons (tC (.ref (L10 C j))) tNil))) t σ H Q :=
  ⟨_, h0, a, _, _, _, _, rfl, .own _, e, fx.ex i hi, fx.kk i hi j hj, k⟩
def fl (i j : Nat) : V := .bl (decide (j = i))
def sp_law_flags (K : PySem.W.Frag) (C : Cs) : Sp := fun vs H Q _ => ∃ a i, vs = [.ref a] ∧ i < 25 ∧ ErrV K H a (L10 C i) ∧ Fx10 K C ∧ ∀ p H', Same H H' → H p = none → H' p = some (.lst ((List.range 24).map (fl i))) → Q (.ref p) H'
def sp_law_made10 (K : PySem.W.Frag) (C : Cs) : Sp := fun vs H Q _ => ∃ v, vs = [v] ∧ Fx10 K C ∧ ∀ p es H', Same H H' → H p = none → H' p = some (.lst es) → es.length = 24 → ErL C v H' es → Q (.ref p) H'
def sp_law_kept (K : PySem.W.Frag) (C : Cs) : Sp := fun vs H Q _ => ∃ p es v, vs = [.ref p] ∧ Fx10 K C ∧ H p = some (.lst es) ∧ es.length = 24 ∧ ErL C v H es ∧ ∀ q H', Same H H' → H q = none → H' q = some (.lst (List.replicate 16 v)) → Q (.ref q) H'
def sp_law_caught (K : PySem.W.Frag) (C : Cs) : Sp := fun vs H Q _ => ∃ (k : Int) (v : V), vs = [.int k, v] ∧ 0 ≤ k ∧ k < 3 ∧ Fx10 K C ∧ ∀ H', Same H H' → Q (.bl true) H'
def t_law_flags (K : PySem.W.Frag) (C : Cs) : TS :=
  (tSeq (tAsg (tLst (tCons (tCB (rIsiE K) (tCons (tVar 0) (tCons (tC (.ref C.Wrong)) tNil))) (tCons (tCB (rIsiE K) (tCons (tVar 0) (tCons (tC (.ref C.TooMany)) tNil))) (tCons (tCB (rIsiE K) (tCons (tVar 0) (tCons (tC (.ref C.Overdrawn)) tNil))) (tCons (tCB (rIsiE K) (tCons (tVar 0) (tCons (tC (.ref C.NotPassed)) tNil))) tNil))))) (gName 1))
    (tSeq (tAsg (tOp (rAddU K) (tVar 1) (tLst (tCons (tCB (rIsiE K) (tCons (tVar 0) (tCons (tC (.ref C.Twice)) tNil))) (tCons (tCB (rIsiE K) (tCons (tVar 0) (tCons (tC (.ref C.Unknown)) tNil))) (tCons (tCB (rIsiE K) (tCons (tVar 0) (tCons (tC (.ref C.Ring)) tNil))) (tCons (tCB (rIsiE K) (tCons (tVar 0) (tCons (tC (.ref C.BadGuide)) tNil))) tNil)))))) (gName 1))
    (tSeq (tAsg (tOp (rAddU K) (tVar 1) (tLst (tCons (tCB (rIsiE K) (tCons (tVar 0) (tCons (tC (.ref C.Narrow)) tNil))) (tCons (tCB (rIsiE K) (tCons (tVar 0) (tCons (tC (.ref C.Unready)) tNil))) (tCons (tCB (rIsiE K) (tCons (tVar 0) (tCons (tC (.ref C.NoCredit)) tNil))) (tCons (tCB (rIsiE K) (tCons (tVar 0) (tCons (tC (.ref C.Broken)) tNil))) tNil)))))) (gName 1))
    (tSeq (tAsg (tOp (rAddU K) (tVar 1) (tLst (tCons (tCB (rIsiE K) (tCons (tVar 0) (tCons (tC (.ref C.IsSlow)) tNil))) (tCons (tCB (rIsiE K) (tCons (tVar 0) (tCons (tC (.ref C.Full)) tNil))) (tCons (tCB (rIsiE K) (tCons (tVar 0) (tCons (tC (.ref C.Refused)) tNil))) (tCons (tCB (rIsiE K) (tCons (tVar 0) (tCons (tC (.ref C.NoEntry)) tNil))) tNil)))))) (gName 1))
    (tSeq (tAsg (tOp (rAddU K) (tVar 1) (tLst (tCons (tCB (rIsiE K) (tCons (tVar 0) (tCons (tC (.ref C.NoStep)) tNil))) (tCons (tCB (rIsiE K) (tCons (tVar 0) (tCons (tC (.ref C.Nothing)) tNil))) (tCons (tCB (rIsiE K) (tCons (tVar 0) (tCons (tC (.ref C.BadSlow)) tNil))) (tCons (tCB (rIsiE K) (tCons (tVar 0) (tCons (tC (.ref C.BadFrame)) tNil))) tNil)))))) (gName 1))
    (tSeq (tAsg (tOp (rAddU K) (tVar 1) (tLst (tCons (tCB (rIsiE K) (tCons (tVar 0) (tCons (tC (.ref C.Unlike)) tNil))) (tCons (tCB (rIsiE K) (tCons (tVar 0) (tCons (tC (.ref C.NoDeed)) tNil))) (tCons (tCB (rIsiE K) (tCons (tVar 0) (tCons (tC (.ref C.NoText)) tNil))) (tCons (tCB (rIsiE K) (tCons (tVar 0) (tCons (tC (.ref C.NoCommand)) tNil))) tNil)))))) (gName 1))
    (tRet (tVar 1))))))))
def t_law_made10 (K : PySem.W.Frag) (C : Cs) : TS :=
  (tSeq (tAsg (tLst (tCons (tMkV C.Wrong (rOneI K C.Wrong "place") (tCons (tVar 0) tNil)) (tCons (tMkV C.TooMany (rOneI K C.TooMany "limit") (tCons (tVar 0) tNil)) (tCons (tMkV C.Overdrawn (rOneI K C.Overdrawn "many") (tCons (tVar 0) tNil)) (tCons (tMkV C.NotPassed (rOneI K C.NotPassed "many") (tCons (tVar 0) tNil)) (tCons (tMkV C.Twice (rOneI K C.Twice "name") (tCons (tVar 0) tNil)) (tCons (tMkV C.Unknown (rOneI K C.Unknown "name") (tCons (tVar 0) tNil)) tNil))))))) (gName 1))
    (tSeq (tAsg (tOp (rAddU K) (tVar 1) (tLst (tCons (tMkV C.Ring (rOneI K C.Ring "name") (tCons (tVar 0) tNil)) (tCons (tMkV C.BadGuide (rOneI K C.BadGuide "name") (tCons (tVar 0) tNil)) (tCons (tMkV C.Narrow (rOneI K C.Narrow "name") (tCons (tVar 0) tNil)) (tCons (tMkV C.Unready (rOneI K C.Unready "stream") (tCons (tVar 0) tNil)) (tCons (tMkV C.NoCredit (rOneI K C.NoCredit "name") (tCons (tVar 0) tNil)) (tCons (tMkV C.Broken (rOneI K C.Broken "at") (tCons (tVar 0) tNil)) tNil)))))))) (gName 1))
    (tSeq (tAsg (tOp (rAddU K) (tVar 1) (tLst (tCons (tMkV C.IsSlow (rOneI K C.IsSlow "stream") (tCons (tVar 0) tNil)) (tCons (tMkV C.Full (rOneI K C.Full "limit") (tCons (tVar 0) tNil)) (tCons (tMkV C.Refused (rOneI K C.Refused "deed") (tCons (tVar 0) tNil)) (tCons (tMkV C.NoEntry (rOneI K C.NoEntry "many") (tCons (tVar 0) tNil)) (tCons (tMkV0 C.NoStep) (tCons (tMkV0 C.Nothing) (tCons (tMkV0 C.BadSlow) tNil))))))))) (gName 1))
    (tRet (tOp (rAddU K) (tVar 1) (tLst (tCons (tMkV0 C.BadFrame) (tCons (tMkV0 C.Unlike) (tCons (tMkV0 C.NoDeed) (tCons (tMkV0 C.NoText) (tCons (tMkV0 C.NoCommand) tNil)))))))))))
def t_law_kept (K : PySem.W.Frag) : TS :=
  (tSeq (tAsg (tLst (tCons (tFldE K "place" (tOp (rIx K) (tVar 0) (tC (.int 0)))) (tCons (tFldE K "limit" (tOp (rIx K) (tVar 0) (tC (.int 1)))) (tCons (tFldE K "many" (tOp (rIx K) (tVar 0) (tC (.int 2)))) (tCons (tFldE K "many" (tOp (rIx K) (tVar 0) (tC (.int 3)))) (tCons (tFldE K "name" (tOp (rIx K) (tVar 0) (tC (.int 4)))) (tCons (tFldE K "name" (tOp (rIx K) (tVar 0) (tC (.int 5)))) (tCons (tFldE K "name" (tOp (rIx K) (tVar 0) (tC (.int 6)))) tNil)))))))) (gName 1))
    (tSeq (tAsg (tOp (rAddU K) (tVar 1) (tLst (tCons (tFldE K "name" (tOp (rIx K) (tVar 0) (tC (.int 7)))) (tCons (tFldE K "name" (tOp (rIx K) (tVar 0) (tC (.int 8)))) (tCons (tFldE K "stream" (tOp (rIx K) (tVar 0) (tC (.int 9)))) (tCons (tFldE K "name" (tOp (rIx K) (tVar 0) (tC (.int 10)))) (tCons (tFldE K "at" (tOp (rIx K) (tVar 0) (tC (.int 11)))) (tCons (tFldE K "stream" (tOp (rIx K) (tVar 0) (tC (.int 12)))) tNil)))))))) (gName 1))
    (tRet (tOp (rAddU K) (tVar 1) (tLst (tCons (tFldE K "limit" (tOp (rIx K) (tVar 0) (tC (.int 13)))) (tCons (tFldE K "deed" (tOp (rIx K) (tVar 0) (tC (.int 14)))) (tCons (tFldE K "many" (tOp (rIx K) (tVar 0) (tC (.int 15)))) tNil))))))))
def t_law_caught (K : PySem.W.Frag) (C : Cs) : TS :=
  (tTryAs K (.ref C.PipeError) 2 (fun W => (tSeq (tIfS (tTest (tOp (rEqU K) (tVar 0) (tC (.int 0)))) (tRaiseW C.Unready (rOneI K C.Unready "stream") (tCons (tVar 1) tNil) W) tNext)
    (tSeq (tIfS (tTest (tOp (rEqU K) (tVar 0) (tC (.int 1)))) (tRaiseW0 C.NoStep W) tNext)
    (tRaiseW0 C.PipeError W)))) (fun a cls d => (tRet (tAndV (tCB (rIsC K a cls d) (tCons (tVar 2) (tCons (tC (.ty "ValueError")) tNil))) (tOrV (tOp (rLtI) (tVar 0) (tC (.int 2))) (tNotV (tCB (rIsCT K a cls d) (tCons (tVar 2) (tCons (tTup (tCons (tC (.ref C.Unready)) (tCons (tC (.ref C.NoStep)) tNil))) tNil)))))))))
theorem ln_law_flags (h : sp_law_flags K C vs H Q E) : vs.length = 1 := by obtain ⟨_, _, rfl, _⟩ := h; rfl
theorem ln_law_made10 (h : sp_law_made10 K C vs H Q E) : vs.length = 1 := by obtain ⟨_, rfl, _⟩ := h; rfl
theorem ln_law_kept (h : sp_law_kept K C vs H Q E) : vs.length = 1 := by obtain ⟨_, _, _, rfl, _⟩ := h; rfl
theorem ln_law_caught (h : sp_law_caught K C vs H Q E) : vs.length = 2 := by obtain ⟨_, _, rfl, _⟩ := h; rfl
/-- a row of values is laid -/
theorem lst_end {Qx : VK} {zs : List V} (hz : zs.length ≤ 100) (k : ∀ p H', Same H H' → H p = none → H' p = some (.lst zs) → Qx (.ref p) H') : zs.length ≤ sizeLine ∧ ∀ q, H q = none → Qx (.ref q) (upd H q (.lst zs)) :=
  ⟨Nat.le_of_lt (small1000 (by omega)), fun q hq => k q _ (same_new hq) hq upd_same⟩
/-- a row of values is laid behind another -/
theorem cat_end {Qx : VK} {p : Addr} {xs zs : List V} (hp : H p = some (.lst xs)) (hx : xs.length ≤ 100) (hz : zs.length ≤ 100) (k : ∀ p H', Same H H' → H p = none → H' p = some (.lst (xs ++ zs)) → Qx (.ref p) H') :
    zs.length ≤ sizeLine ∧ ∀ q, H q = none → rAddU K (.ref p) (.ref q) (upd H q (.lst zs)) Qx := by
  have z : (1000 : Nat) < sizeLine := small1000 (Nat.le_refl _)
  refine ⟨by omega, fun q hq => .inr (.inr (.inl ⟨p, q, xs, zs, rfl, rfl, same_new hq _ _ hp, upd_same, by omega, fun r hr => ?_⟩))⟩
  exact k r _ ((same_new hq).trans (same_new hr)) ((same_new hq).free hr) upd_same
theorem four_is {t : TA} {Q : List V → Hp → Prop} (i j : Nat) (fx : Fx10 K C) (hi : i < 25) (hj : j + 3 < 24) (h0 : σ[0]? = some (some (.ref a))) (ev : ErrV K H a (L10 C i))
    (k : t σ H fun vs H2 => Q (fl i j :: fl i (j + 1) :: fl i (j + 2) :: fl i (j + 3) :: vs) H2) :
    tCons (tCB (rIsiE K) (tCons (tVar 0) (tCons (tC (.ref (L10 C j))) tNil))) (tCons (tCB (rIsiE K) (tCons (tVar 0) (tCons (tC (.ref (L10 C (j + 1)))) tNil))) (tCons (tCB (rIsiE K) (tCons (tVar 0) (tCons (tC (.ref (L10 C (j + 2)))) tNil)))
      (tCons (tCB (rIsiE K) (tCons (tVar 0) (tCons (tC (.ref (L10 C (j + 3)))) tNil))) t))) σ H Q :=
  cons_is i j fx hi (by omega) h0 ev (cons_is i (j + 1) fx hi (by omega) h0 ev (cons_is i (j + 2) fx hi (by omega) h0 ev (cons_is i (j + 3) fx hi (by omega) h0 ev k)))
theorem r24 : List.range 24 = [0, 1, 2, 3, 4, 5, 6, 7, 8, 9, 10, 11, 12, 13, 14, 15, 16, 17, 18, 19, 20, 21, 22, 23] := by decide
theorem rd_law_flags (h : sp_law_flags K C vs H Q E) : t_law_flags K C (EndsOf Q) (start ["", ""] vs) H := by
  obtain ⟨a, i, rfl, hi, ev, fx, k⟩ := h
  dsimp only [t_law_flags, tSeq, tAsg, tLst]
  refine four_is i 0 fx hi (by decide) (by rfl) ev ?_
  dsimp only [tNil]
  refine ⟨by show 4 ≤ sizeLine; decide, fun p0 n0 => ?_⟩
  have s0 := same_new (o := .lst [fl i 0, fl i (0 + 1), fl i (0 + 2), fl i (0 + 3)]) n0
  have e0 := upd_same (a := p0) (o := .lst [fl i 0, fl i (0 + 1), fl i (0 + 2), fl i (0 + 3)]) (H := H)
  generalize upd H p0 (.lst [fl i 0, fl i (0 + 1), fl i (0 + 2), fl i (0 + 3)]) = G0 at s0 e0 ⊢
  have ev := ev.same s0
  refine ⟨_, rfl, ?_⟩
  refine four_is i 4 fx hi (by decide) (by rfl) ev ?_
  dsimp only [tNil]
  refine cat_end e0 (by show 4 ≤ 100; decide) (by show 4 ≤ 100; decide) fun p1 G1 s1 n1 e1 => ?_
  have ev := ev.same s1
  refine ⟨_, rfl, ?_⟩
  refine four_is i 8 fx hi (by decide) (by rfl) ev ?_
  dsimp only [tNil]
  refine cat_end e1 (by show 8 ≤ 100; decide) (by show 4 ≤ 100; decide) fun p2 G2 s2 n2 e2 => ?_
  have ev := ev.same s2
  refine ⟨_, rfl, ?_⟩
  refine four_is i 12 fx hi (by decide) (by rfl) ev ?_
  dsimp only [tNil]
  refine cat_end e2 (by show 12 ≤ 100; decide) (by show 4 ≤ 100; decide) fun p3 G3 s3 n3 e3 => ?_
  have ev := ev.same s3
  refine ⟨_, rfl, ?_⟩
  refine four_is i 16 fx hi (by decide) (by rfl) ev ?_
  dsimp only [tNil]
  refine cat_end e3 (by show 16 ≤ 100; decide) (by show 4 ≤ 100; decide) fun p4 G4 s4 n4 e4 => ?_
  have ev := ev.same s4
  refine ⟨_, rfl, ?_⟩
  refine four_is i 20 fx hi (by decide) (by rfl) ev ?_
  dsimp only [tNil]
  refine cat_end e4 (by show 20 ≤ 100; decide) (by show 4 ≤ 100; decide) fun p5 G5 s5 n5 e5 => ?_
  simp only [List.cons_append, List.nil_append] at e5
  have e6 : G5 p5 = some (.lst ((List.range 24).map (fl i))) := by
    rw [e5, r24]
    simp only [List.map]
  refine ⟨_, rfl, ?_⟩
  refine k p5 G5 ?_ ?_ e6
  · exact s0.trans (s1.trans (s2.trans (s3.trans (s4.trans s5))))
  · exact (s0.trans (s1.trans (s2.trans (s3.trans s4)))).free n5
theorem rd_law_made10 (h : sp_law_made10 K C vs H Q E) : t_law_made10 K C (EndsOf Q) (start ["", ""] vs) H := by
  obtain ⟨v, rfl, fx, k⟩ := h
  dsimp only [t_law_made10, tSeq, tAsg, tLst]
  refine cons_mk (v := v) (es := []) 0 fx (by decide) (by rfl) (fun i x e => by simp at e) rfl fun a0 G0 s0 L => ?_
  refine cons_mk 1 fx (by decide) (by rfl) L rfl fun a1 G1 s1 L => ?_
  refine cons_mk 2 fx (by decide) (by rfl) L rfl fun a2 G2 s2 L => ?_
  refine cons_mk 3 fx (by decide) (by rfl) L rfl fun a3 G3 s3 L => ?_
  refine cons_mk 4 fx (by decide) (by rfl) L rfl fun a4 G4 s4 L => ?_
  refine cons_mk 5 fx (by decide) (by rfl) L rfl fun a5 G5 s5 L => ?_
  simp only [List.nil_append, List.cons_append] at L
  dsimp only [tNil]
  refine ⟨by show 6 ≤ sizeLine; decide, fun p nB => ?_⟩
  have sB := same_new (o := .lst [.ref a0, .ref a1, .ref a2, .ref a3, .ref a4, .ref a5]) nB
  have eB := upd_same (a := p) (o := .lst [.ref a0, .ref a1, .ref a2, .ref a3, .ref a4, .ref a5]) (H := G5)
  generalize upd G5 p (.lst [.ref a0, .ref a1, .ref a2, .ref a3, .ref a4, .ref a5]) = B at sB eB ⊢
  have L := L.same sB
  have S := s0.trans (s1.trans (s2.trans (s3.trans (s4.trans (s5.trans (sB))))))
  refine ⟨_, rfl, ?_⟩
  refine cons_mk 6 fx (by decide) (by rfl) L rfl fun a6 G6 s6 L => ?_
  refine cons_mk 7 fx (by decide) (by rfl) L rfl fun a7 G7 s7 L => ?_
  refine cons_mk 8 fx (by decide) (by rfl) L rfl fun a8 G8 s8 L => ?_
  refine cons_mk 9 fx (by decide) (by rfl) L rfl fun a9 G9 s9 L => ?_
  refine cons_mk 10 fx (by decide) (by rfl) L rfl fun a10 G10 s10 L => ?_
  refine cons_mk 11 fx (by decide) (by rfl) L rfl fun a11 G11 s11 L => ?_
  dsimp only [tNil]
  refine cat_end ((s6.trans (s7.trans (s8.trans (s9.trans (s10.trans (s11)))))) _ _ eB) (by show 6 ≤ 100; decide) (by show 6 ≤ 100; decide) fun p2 B2 sB2 nB2 eB2 => ?_
  simp only [List.nil_append, List.cons_append] at L eB2
  have L := L.same sB2
  have S := S.trans (s6.trans (s7.trans (s8.trans (s9.trans (s10.trans (s11.trans (sB2)))))))
  refine ⟨_, rfl, ?_⟩
  refine cons_mk 12 fx (by decide) (by rfl) L rfl fun a12 G12 s12 L => ?_
  refine cons_mk 13 fx (by decide) (by rfl) L rfl fun a13 G13 s13 L => ?_
  refine cons_mk 14 fx (by decide) (by rfl) L rfl fun a14 G14 s14 L => ?_
  refine cons_mk 15 fx (by decide) (by rfl) L rfl fun a15 G15 s15 L => ?_
  refine cons_mk0 16 (by decide) L rfl fun a16 G16 s16 L => ?_
  refine cons_mk0 17 (by decide) L rfl fun a17 G17 s17 L => ?_
  refine cons_mk0 18 (by decide) L rfl fun a18 G18 s18 L => ?_
  dsimp only [tNil]
  refine cat_end ((s12.trans (s13.trans (s14.trans (s15.trans (s16.trans (s17.trans (s18))))))) _ _ eB2) (by show 12 ≤ 100; decide) (by show 7 ≤ 100; decide) fun p3 B3 sB3 nB3 eB3 => ?_
  simp only [List.nil_append, List.cons_append] at L eB3
  have L := L.same sB3
  have S := S.trans (s12.trans (s13.trans (s14.trans (s15.trans (s16.trans (s17.trans (s18.trans (sB3))))))))
  refine ⟨_, rfl, ?_⟩
  refine cons_mk0 19 (by decide) L rfl fun a19 G19 s19 L => ?_
  refine cons_mk0 20 (by decide) L rfl fun a20 G20 s20 L => ?_
  refine cons_mk0 21 (by decide) L rfl fun a21 G21 s21 L => ?_
  refine cons_mk0 22 (by decide) L rfl fun a22 G22 s22 L => ?_
  refine cons_mk0 23 (by decide) L rfl fun a23 G23 s23 L => ?_
  dsimp only [tNil]
  refine cat_end ((s19.trans (s20.trans (s21.trans (s22.trans (s23))))) _ _ eB3) (by show 19 ≤ 100; decide) (by show 5 ≤ 100; decide) fun p4 B4 sB4 nB4 eB4 => ?_
  simp only [List.nil_append, List.cons_append] at L eB4
  exact k p4 _ B4 (S.trans (s19.trans (s20.trans (s21.trans (s22.trans (s23.trans (sB4))))))) ((S.trans (s19.trans (s20.trans (s21.trans (s22.trans (s23)))))).free nB4) eB4 rfl (L.same sB4)
theorem cons_fld {t : TA} {Q : List V → Hp → Prop} {p : Addr} {es : List V} (i : Nat) (fx : Fx10 K C) (hi : i < 16) (h0 : σ[0]? = some (some (.ref p))) (hp : H p = some (.lst es)) (n : es.length = 24) (L : ErL C v H es) (k : t σ H fun vs H2 => Q (v :: vs) H2) :
    tCons (tFldE K (F10 i) (tOp (rIx K) (tVar 0) (tC (.int i)))) t σ H Q := by
  have g := List.getElem?_eq_getElem (show i < es.length by omega)
  obtain ⟨a, e, ⟨_, d, e1, e2⟩ | ⟨c, _⟩⟩ := L i _ g
  · rw [e] at g
    exact ⟨_, h0, .inl ⟨p, es, i, .ref a, rfl, rfl, SqL.of hp, atI_nat g, a, L10 C i, d, _, v, rfl, e1, e2, fx.xf i (by omega), fx.nf i hi, by simp [List.lookup], k⟩⟩
  · omega
theorem rd_law_kept (h : sp_law_kept K C vs H Q E) : t_law_kept K (EndsOf Q) (start ["", ""] vs) H := by
  obtain ⟨p, es, v, rfl, fx, hp, n, L, k⟩ := h
  dsimp only [t_law_kept, tSeq, tAsg, tLst]
  refine cons_fld 0 fx (by decide) (by rfl) hp n L ?_
  refine cons_fld 1 fx (by decide) (by rfl) hp n L ?_
  refine cons_fld 2 fx (by decide) (by rfl) hp n L ?_
  refine cons_fld 3 fx (by decide) (by rfl) hp n L ?_
  refine cons_fld 4 fx (by decide) (by rfl) hp n L ?_
  refine cons_fld 5 fx (by decide) (by rfl) hp n L ?_
  refine cons_fld 6 fx (by decide) (by rfl) hp n L ?_
  dsimp only [tNil]
  refine ⟨by show 7 ≤ sizeLine; decide, fun p1 n1 => ?_⟩
  have s1 := same_new (o := .lst [v, v, v, v, v, v, v]) n1
  have e1 := upd_same (a := p1) (o := .lst [v, v, v, v, v, v, v]) (H := H)
  generalize upd H p1 (.lst [v, v, v, v, v, v, v]) = B1 at s1 e1 ⊢
  have hp1 := s1 _ _ hp
  have L1 := L.same s1
  refine ⟨_, rfl, ?_⟩
  refine cons_fld 7 fx (by decide) (by rfl) hp1 n L1 ?_
  refine cons_fld 8 fx (by decide) (by rfl) hp1 n L1 ?_
  refine cons_fld 9 fx (by decide) (by rfl) hp1 n L1 ?_
  refine cons_fld 10 fx (by decide) (by rfl) hp1 n L1 ?_
  refine cons_fld 11 fx (by decide) (by rfl) hp1 n L1 ?_
  refine cons_fld 12 fx (by decide) (by rfl) hp1 n L1 ?_
  dsimp only [tNil]
  refine cat_end e1 (by show 7 ≤ 100; decide) (by show 6 ≤ 100; decide) fun p2 B2 s2 n2 e2 => ?_
  have hp2 := s2 _ _ hp1
  have L2 := L1.same s2
  refine ⟨_, rfl, ?_⟩
  refine cons_fld 13 fx (by decide) (by rfl) hp2 n L2 ?_
  refine cons_fld 14 fx (by decide) (by rfl) hp2 n L2 ?_
  refine cons_fld 15 fx (by decide) (by rfl) hp2 n L2 ?_
  dsimp only [tNil]
  refine cat_end e2 (by show 13 ≤ 100; decide) (by show 3 ≤ 100; decide) fun p3 B3 s3 n3 e3 => ?_
  exact k p3 B3 (s1.trans (s2.trans s3)) ((s1.trans s2).free n3) e3
theorem kit2f {t c d : Value} (h1 : PySem.W.kitOne K t c = some false) (h2 : PySem.W.kitOne K t d = some false) : PySem.W.kitAny K t [c, d] = some false := by simp [PySem.W.kitAny, h1, h2]
theorem CaughtD.same {d : Option Addr} (h : CaughtD H d) (s : Same H H') : CaughtD H' d := by
  rcases h with h | ⟨dd, fs, h, e⟩
  · exact .inl h
  · exact .inr ⟨dd, fs, h, s _ _ e⟩
def ts10 (K : PySem.W.Frag) (C : Cs) : Addr → Value → Option Addr → TS := (fun a cls d => (tRet (tAndV (tCB (rIsC K a cls d) (tCons (tVar 2) (tCons (tC (.ty "ValueError")) tNil))) (tOrV (tOp (rLtI) (tVar 0) (tC (.int 2))) (tNotV (tCB (rIsCT K a cls d) (tCons (tVar 2) (tCons (tTup (tCons (tC (.ref C.Unready)) (tCons (tC (.ref C.NoStep)) tNil))) tNil))))))))
theorem rd_law_caught (h : sp_law_caught K C vs H Q E) : t_law_caught K C (EndsOf Q) (start ["", "", ""] vs) H := by
  obtain ⟨k, v, rfl, k0, k3, fx, q⟩ := h
  have out : ∀ (i : Nat) (d : Option Addr) (H' : Hp), i < 25 → (k < 2 ∨ i = 24) → Same H H' → CaughtD H' d →
      wAs K (.ref C.PipeError) 2 (ts10 K C)
        (fun _ _ _ _ => False) (EndsOf Q) (.ref (L10 C i)) d [some (.int k), some v, none] H' := by
    intro i d H' hi hk s cd
    refine ⟨true, fx.em i hi, fun _ a ha => ?_, fun z => nomatch z⟩
    refine ⟨_, rfl, ⟨_, _, true, L10 C i, rfl, rfl, fx.ex i hi, cd, .ty _, fx.ve i hi, true, rfl, iteT' rfl ?_⟩⟩
    refine ⟨_, rfl, _, _, rfl, rfl, _, rfl, ?_⟩
    refine ifD (fun _ => q H' s) (fun c => ?_)
    have e24 : i = 24 := by omega
    subst e24
    refine ⟨_, rfl, two_fit.2.1, fun tp htp => ⟨tp, _, [.ref C.Unready, .ref C.NoStep], false, L10 C 24, rfl, upd_same, rfl, fx.ex 24 hi, cd.same (same_new htp), .cons (.own _) (.cons (.own _) .nil), kit2f ?_ ?_, false, rfl, ?_⟩⟩
    · exact fx.kk 24 hi 9 (by decide)
    · exact fx.kk 24 hi 16 (by decide)
    · exact q _ (s.trans (same_new htp))
  refine ⟨_, rfl, .inl ⟨rfl, _, rfl, ?_⟩⟩
  refine ifI (fun e => ?_) (fun e => ?_)
  · refine ⟨_, rfl, ?_⟩
    dsimp only [tNil]
    exact made_err (C := C.Unready) (f := "stream") (Q := fun cls d H' => wAs K (.ref C.PipeError) 2 (ts10 K C) (fun _ _ _ _ => False) (EndsOf Q) cls d [some (.int k), some v, none] H') (fx.ox 9 (by decide)) (fx.nf 9 (by decide)) fun d H' nd s x => out 9 (some d) H' (by decide) (.inl (by omega)) s (.inr ⟨d, _, rfl, x⟩)
  refine ⟨_, rfl, .inl ⟨rfl, _, rfl, ?_⟩⟩
  refine ifI (fun e => ?_) (fun e => ?_)
  · exact out 16 none H (by decide) (.inl (by omega)) (Same.refl H) (.inl rfl)
  · exact out 24 none H (by decide) (.inr rfl) (Same.refl H) (.inl rfl)
/-! ### the law -/
def rSelf (K : PySem.W.Frag) : R2 := fun x y H Q => rEqU K x y H Q ∨ ∃ a b kvs, x = .ref a ∧ y = .ref b ∧ H a = some (.dK kvs) ∧ H b = some (.dK kvs) ∧ (kvs.map (·.1)).Nodup ∧ (∀ p ∈ kvs, flatB p.2 = true) ∧ Q (.bl true) H
/-- a thing that the law draws -/
inductive Th10 (G : Hp) (b l : Addr) (k : Nat) : V → Prop where
  | int (n : Int) (h : n.natAbs ≤ 10 ^ 100) : Th10 G b l k (.int n)
  | str : Th10 G b l k (.str "a")
  | non : Th10 G b l k .non
  | lst (q : Addr) (ms : List Int) (e : G q = some (.lst (ms.map V.int))) (nb : q ≠ b) (nl : q ≠ l) (few : ms.length ≤ k) (sm : ∀ m ∈ ms, m.natAbs ≤ 10 ^ 100) : Th10 G b l k (.ref q)
  | tup (q : Addr) (n : Int) (e : G q = some (.tup [.str "x", .int n])) (h : n.natAbs ≤ 10 ^ 100) : Th10 G b l k (.ref q)
  | dic (q : Addr) (e : G q = some (.dK [])) : Th10 G b l k (.ref q)
section
variable {q : Addr} {ms : List Int} {m : Int} {k : Nat}
theorem Th10.same (T : Th10 G b l k v) (s : Same G G') : Th10 G' b l k v := by
  cases T with
  | int n h => exact .int n h
  | str => exact .str
  | non => exact .non
  | lst q ms e nb nl few sm => exact .lst q ms (s _ _ e) nb nl few sm
  | tup q n e h => exact .tup q n (s _ _ e) h
  | dic q e => exact .dic q (s _ _ e)
theorem Th10.up (T : Th10 G b l k v) (h : k ≤ n) : Th10 G b l n v := by
  cases T with
  | int n h => exact .int n h
  | str => exact .str
  | non => exact .non
  | lst q ms e nb nl few sm => exact .lst q ms e nb nl (Nat.le_trans few h) sm
  | tup q n e h => exact .tup q n e h
  | dic q e => exact .dic q e
theorem Th10.put (T : Th10 G b l k v) (e : G q = some (.lst (ms.map V.int))) (nb : q ≠ b) (nl : q ≠ l) (few : ms.length ≤ k) (sm : ∀ m ∈ ms, m.natAbs ≤ 10 ^ 100) (hm : m.natAbs ≤ 10 ^ 100) :
    Th10 (upd G q (.lst ((ms ++ [m]).map V.int))) b l (k + 1) v := by
  have sm' : ∀ x ∈ ms ++ [m], x.natAbs ≤ 10 ^ 100 := fun x hx => by
    rcases List.mem_append.mp hx with hx | hx
    · exact sm x hx
    · rw [List.mem_singleton.mp hx]; exact hm
  cases T with
  | int n h => exact .int n h
  | str => exact .str
  | non => exact .non
  | lst q' ms' e' nb' nl' few' sm2 =>
    by_cases c : q' = q
    · subst c
      exact .lst q' (ms ++ [m]) upd_same nb nl (by rw [List.length_append, List.length_singleton]; omega) sm'
    · exact .lst q' ms' (by rw [upd_ne c]; exact e') nb' nl' (by omega) sm2
  | tup q' n e' h => exact .tup q' n (by rw [upd_ne (ne_of e' e fun z => nomatch z)]; exact e') h
  | dic q' e' => exact .dic q' (by rw [upd_ne (ne_of e' e fun z => nomatch z)]; exact e')
end
theorem dpa_ints : ∀ ms : List Int, DpAll K G (ms.map V.int) (ms.map PyData.int)
  | [] => .nil
  | m :: r => .cons (.int m) (dpa_ints r)
theorem at_ints : ∀ ms : List Int, (∀ m ∈ ms, m.natAbs ≤ 10 ^ 100) → AllTo 0 (2004 * ms.length) (ms.map PyData.int)
  | [], _ => at_nil
  | m :: r, h => by
    have q := at_cons (gt_int (h m List.mem_cons_self)) (at_ints r fun x hx => h x (List.mem_cons_of_mem _ hx))
    have e : 2000 + 4 + 2004 * r.length = 2004 * (m :: r).length := by rw [List.length_cons]; omega
    rw [← e]
    exact q
theorem at_bools : ∀ bs : List Bool, AllTo 0 (12 * bs.length) (bs.map PyData.bool)
  | [] => at_nil
  | c :: r => by
    have q := at_cons (gt_bool c) (at_bools r)
    have e : 8 + 4 + 12 * r.length = 12 * (c :: r).length := by rw [List.length_cons]; omega
    rw [← e]
    exact q
theorem dpa_bools : ∀ bs : List Bool, DpAll K G (bs.map V.bl) (bs.map PyData.bool)
  | [] => .nil
  | m :: r => .cons (.bl m) (dpa_bools r)
theorem ok_x : GoodTo 0 1008 (.str "x") := ⟨by decide +kernel, by simp [PyData.depth], rfl, by decide⟩
theorem Th10.self {k : Nat} (T : Th10 H b l k v) (hk : k ≤ 100) (q : Q (.bl true) H) : rSelf K v v H Q := by
  cases T with
  | int n h => exact .inl (.inl ⟨rfl, by rw [decide_eq_true rfl]; exact q⟩)
  | str => exact .inl (.inl ⟨rfl, by rw [decide_eq_true rfl]; exact q⟩)
  | non => exact .inl (.inl ⟨rfl, by rw [decide_eq_true rfl]; exact q⟩)
  | lst r ms e nb nl few sm =>
    have g := (gt_list (at_ints ms sm)).good (by decide) (by omega)
    exact .inl (.inr ⟨_, _, .lst (SqL.of e) (dpa_ints ms), .lst (SqL.of e) (dpa_ints ms), g.sh, g.sh, by rw [g.same]; exact q⟩)
  | tup r n e h =>
    have g := (gt_tuple (at_cons ok_x (at_cons (gt_int h) at_nil))).good (by decide) (by decide)
    exact .inl (.inr ⟨_, _, .tup (SqT.of e) (.cons (.str _) (.cons (.int _) .nil)), .tup (SqT.of e) (.cons (.str _) (.cons (.int _) .nil)), g.sh, g.sh, by rw [g.same]; exact q⟩)
  | dic r e => exact .inr ⟨r, r, [], rfl, rfl, e, e, List.nodup_nil, fun p hp => by simp at hp, q⟩
/-- two lists of the same truths are not unlike -/
theorem bools_ne {Qb : Bool → Hp → Prop} {p q : Addr} (bs : List Bool) (hb : bs.length ≤ 1000) (e1 : H p = some (.lst (bs.map V.bl))) (e2 : H q = some (.lst (bs.map V.bl))) (k : Qb false H) : rNeU K (.ref p) (.ref q) H fun x H3 => ∃ c, x = .bl c ∧ Qb c H3 := by
  have g := (gt_list (at_bools bs)).good (by decide) (by omega)
  exact .inr ⟨_, _, .lst (SqL.of e1) (dpa_bools bs), .lst (SqL.of e2) (dpa_bools bs), g.sh, g.sh, _, rfl, by rw [g.same]; exact k⟩
theorem rep_end {Qb : Bool → Hp → Prop} {p : Addr} (m : Nat) (c : Bool) (hm : m ≤ 100) (e : H p = some (.lst ((List.replicate m c).map V.bl))) (k : ∀ H', Same H H' → Qb false H') :
    tOp (rMulU K) (tLst (tCons (tC (.bl c)) tNil)) (tC (.int m)) σ H fun y H2 => rNeU K (.ref p) y H2 fun x H3 => ∃ c, x = .bl c ∧ Qb c H3 := by
  have z : (1000 : Nat) < sizeLine := small1000 (Nat.le_refl _)
  refine ⟨two_fit.1, fun q hq => .inr (.inr (.inl ⟨q, m, [.bl c], rfl, rfl, upd_same, by omega, by omega, ?_, fun r hr => ?_⟩))⟩
  · show 1 * (m : Int).toNat ≤ sizeLine
    omega
  · have er : (List.replicate (m : Int).toNat [V.bl c]).flatten = (List.replicate m c).map V.bl := by
      rw [Int.toNat_natCast, List.map_replicate]
      clear e k hm hr
      induction m with
      | zero => rfl
      | succ m ih => rw [List.replicate_succ, List.flatten_cons, ih, List.replicate_succ]; rfl
    rw [er]
    have s := (same_new (o := .lst [V.bl c]) hq).trans (same_new (o := .lst ((List.replicate m c).map V.bl)) hr)
    exact bools_ne (List.replicate m c) (by rw [List.length_replicate]; omega) (s _ _ e) upd_same (k _ s)
/-- what is kept is the very thing, by == -/
theorem kept_if {De : Ends} {s0 s1 s2 s3 s4 s7 s8 s9 s10 : Option V} {p : Addr} {es : List V} {k : Nat} (hσ : σ = [s0, s1, s2, s3, s4, some v, some (.ref p), s7, s8, s9, s10]) (fx : Fx10 K C) (hp : H p = some (.lst es)) (n : es.length = 24) (L : ErL C v H es) (T : Th10 H b l k v) (hk : k ≤ 100)
    (kq : ∀ H', Same H H' → De.nx σ H') :
    tIfS (tTest (tOp (rNeU K) (tLc (iList K (tCall (sp_law_kept K C) [] E0 (tCons (tVar 6) tNil))) (gName 9) tYes (tOp (rSelf K) (tVar 9) (tVar 5)) [9]) (tOp (rMulU K) (tLst (tCons (tC (.bl true)) tNil)) (tC (.int 16))))) (tRet (tC (.bl false))) tNext De σ H := by
  subst hσ
  refine ⟨_, rfl, p, es, v, rfl, fx, hp, n, L, fun q G sG nq eq => ?_⟩
  refine ⟨q, rfl, ⟨_, SqL.of eq⟩, fun D hD => ?_⟩
  refine lc_list (xs := List.replicate 16 v) (fun i H' => Same G H' ∧ H' D = some (.lst (List.replicate i (.bl true)))) ⟨same_new hD, upd_same⟩ (fun i H' _ s => s.1.seq (SqL.of eq)) ?_ ?_
  · rintro i x H' hx ⟨s, e⟩
    obtain rfl : x = v := List.eq_of_mem_replicate (List.mem_of_getElem? hx)
    have hi : i < 16 := by
      have := (List.getElem?_eq_some_iff.mp hx).1
      simpa using this
    refine ⟨rfl, _, rfl, _, rfl, (T.same (sG.trans s)).self hk ⟨_, e, by rw [List.length_replicate]; exact small1000 (by omega), fun b o q => ?_, ?_⟩⟩
    · rw [upd_ne (ne_of_none q hD)]
      exact s b o q
    · rw [upd_same, ← List.replicate_succ']
  · rintro H' ⟨s, e⟩
    rw [List.length_replicate] at e
    exact rep_end 16 true (by decide) (by rw [e, List.map_replicate]) fun G6 g6 => iteF' rfl (kq G6 ((sG.trans s).trans g6))
/-- the flags that are due -/
theorem due_all {s0 s1 s2 s3 s4 s5 s6 s8 s9 s10 : Option V} {k : Nat} (kq : ∀ D H', Same H H' → H' D = some (.lst (((List.range 24).map fun j => decide (j = k)).map V.bl)) → Q (.ref D) H') :
    tLc (iRng1 (tCons (tC (.int 24)) tNil)) (gName 10) tYes (tOp (rEqU K) (tVar 10) (tVar 7)) [10] [s0, s1, s2, s3, s4, s5, s6, some (.int k), s8, s9, s10] H Q := by
  refine ⟨24, rfl, by decide, by decide, fun D hD => ?_⟩
  refine lc_range (lo := 0) (n := 24) (fun i H' => Same H H' ∧ H' D = some (.lst (((List.range i).map fun j => decide (j = k)).map V.bl))) ⟨same_new hD, upd_same⟩ ?_ ?_
  · rintro i H' hi ⟨s, e⟩
    refine ⟨rfl, _, rfl, _, rfl, .inl ⟨rfl, _, e, ?_, fun b o q => ?_, ?_⟩⟩
    · rw [List.length_map, List.length_map, List.length_range]
      exact small1000 (by omega)
    · rw [upd_ne (ne_of_none q hD)]
      exact s b o q
    · have e2 : decide (V.int (0 + (i : Int)) = V.int (k : Int)) = decide (i = k) := by
        rw [decide_eq_decide]
        constructor
        · intro z
          have := V.int.inj z
          omega
        · intro z
          rw [z, Int.zero_add]
      rw [upd_same, List.range_succ, List.map_append, List.map_append, e2]
      rfl
  · rintro H' ⟨s, e⟩
    exact kq D H' s e
theorem caught_if {De : Ends} {s0 s1 s2 s3 s4 s6 s7 s8 s9 s10 : Option V} (hσ : σ = [s0, s1, s2, s3, s4, some v, s6, s7, s8, s9, s10]) (fx : Fx10 K C) (kq : ∀ H', Same H H' → De.nx σ H') :
    tIfS (tTest (tOp (rNeU K) (tLc (iRng1 (tCons (tC (.int 3)) tNil)) (gName 7) tYes (tCall (sp_law_caught K C) [] E0 (tCons (tVar 7) (tCons (tVar 5) tNil))) [7]) (tOp (rMulU K) (tLst (tCons (tC (.bl true)) tNil)) (tC (.int 3))))) (tRet (tC (.bl false))) tNext De σ H := by
  subst hσ
  refine ⟨3, rfl, by decide, by decide, fun D hD => ?_⟩
  refine lc_range (lo := 0) (n := 3) (fun i H' => Same H H' ∧ H' D = some (.lst ((List.replicate i true).map V.bl))) ⟨same_new hD, upd_same⟩ ?_ ?_
  · rintro i H' hi ⟨s, e⟩
    refine ⟨rfl, _, rfl, _, rfl, 0 + (i : Int), v, rfl, by omega, by omega, fx, fun G g => ⟨_, g _ _ e, ?_, fun b o q => ?_, ?_⟩⟩
    · rw [List.length_map, List.length_replicate]
      exact small1000 (by omega)
    · rw [upd_ne (ne_of_none q hD)]
      exact g _ _ (s b o q)
    · rw [upd_same, List.replicate_succ', List.map_append]
      rfl
  · rintro H' ⟨s, e⟩
    exact rep_end 3 true (by decide) e fun G6 g6 => iteF' rfl (kq G6 (s.trans g6))
/-- a thing is drawn -/
theorem thing_asg {rest : TS} {De : Ends} {y : Int} (h1 : σ[1]? = some (some (.ref b))) (h3 : σ[3]? = some (some (.int y))) (B : Bag H b l) (hy : y.natAbs ≤ 10 ^ 100) (k : ∀ v H', Th10 H' b l 1 v → Bag H' b l → rest De (σ.set 4 (some v)) H') :
    tSeq (tAsg (tOp (rIx K) (tLst (tCons (tVar 3) (tCons (tC (.str "a")) (tCons (tC .non) (tCons (tLst (tCons (tVar 3) tNil)) (tCons (tTup (tCons (tC (.str "x")) (tCons (tVar 3) tNil))) (tCons tDNewK tNil))))))) (tCall (sp_law_take K) [] E0 (tCons (tVar 1) (tCons (tC (.int 6)) tNil)))) (gName 4)) rest De σ H := by
  refine ⟨_, h3, _, h3, two_fit.1, fun q1 h1' => ⟨_, h3, two_fit.2.1, fun q2 h2 q3 h3' => ⟨by show 6 ≤ sizeLine; decide, fun p hp => ?_⟩⟩⟩
  have t1 := same_new (o := .lst [.int y]) h1'
  have t2 := same_new (o := .tup [.str "x", .int y]) h2
  have t3 := same_new (o := .dK []) h3'
  have t4 := same_new (o := .lst [.int y, .str "a", .non, .ref q1, .ref q2, .ref q3]) hp
  have f1 := B.nb h1'
  have g1 := B.nl h1'
  have f2 := B.nb (t1.free h2)
  have f3 := B.nb ((t1.trans t2).free h3')
  have fp := B.nb ((t1.trans (t2.trans t3)).free hp)
  have B' := B.same (t1.trans (t2.trans (t3.trans t4)))
  refine ⟨_, h1, b, l, 6, rfl, B', by decide, by decide, fun z G2 z0 z1 B2 k2 => ?_⟩
  have e1 := k2 _ _ ((t2.trans (t3.trans t4)) _ _ upd_same) f1
  have e2 := k2 _ _ ((t3.trans t4) _ _ upd_same) f2
  have e3 := k2 _ _ (t4 _ _ upd_same) f3
  have ep := k2 _ _ upd_same fp
  clear t1 t2 t3 t4 B B' k2 hp h3' h2 h1' f2 f3 fp
  obtain ⟨j, rfl⟩ : ∃ j : Nat, z = j := ⟨z.toNat, by omega⟩
  obtain ⟨v, ev, T⟩ : ∃ v, ([.int y, .str "a", .non, .ref q1, .ref q2, .ref q3] : List V)[j]? = some v ∧ Th10 G2 b l 1 v := by
    have : j = 0 ∨ j = 1 ∨ j = 2 ∨ j = 3 ∨ j = 4 ∨ j = 5 := by omega
    rcases this with rfl | rfl | rfl | rfl | rfl | rfl
    · exact ⟨_, rfl, .int y hy⟩
    · exact ⟨_, rfl, .str⟩
    · exact ⟨_, rfl, .non⟩
    · exact ⟨_, rfl, .lst q1 [y] e1 f1 g1 (Nat.le_refl 1) (by simpa using hy)⟩
    · exact ⟨_, rfl, .tup q2 y e2 hy⟩
    · exact ⟨_, rfl, .dic q3 e3⟩
  exact .inl ⟨p, _, j, v, rfl, rfl, SqL.of ep, atI_nat ev, k v G2 T B2⟩
theorem kit_ll : PySem.W.kitOne K (.type "list") (.type "list") = some true := kit_ty (by decide +kernel)
theorem Th10.two {k : Nat} (T : Th10 H b l k v) : (∃ (q : Addr) (ms : List Int), v = .ref q ∧ H q = some (.lst (ms.map V.int)) ∧ q ≠ b ∧ q ≠ l ∧ ms.length ≤ k ∧ ∀ m ∈ ms, m.natAbs ≤ 10 ^ 100) ∨ ∃ t, TyX K H v t ∧ PySem.W.kitOne K t (.type "list") = some false := by
  cases T with
  | int n h => exact .inr ⟨_, .base (.int n), kit_ty (by decide +kernel)⟩
  | str => exact .inr ⟨_, .base (.str _), kit_ty (by decide +kernel)⟩
  | non => exact .inr ⟨_, .base .non, kit_ty (by decide +kernel)⟩
  | lst q ms e nb nl few sm => exact .inl ⟨q, ms, rfl, e, nb, nl, few, sm⟩
  | tup q n e h => exact .inr ⟨_, .base (.tup e), kit_ty (by decide +kernel)⟩
  | dic q e => exact .inr ⟨_, .base (.dK e), kit_ty (by decide +kernel)⟩
theorem Er.put {q : Addr} {xs ys : List V} (h : Er C v H i x) (e : H q = some (.lst xs)) : Er C v (upd H q (.lst ys)) i x := by
  obtain ⟨a, rfl, ⟨hi, d, e1, e2⟩ | ⟨hi, e1⟩⟩ := h
  · exact ⟨a, rfl, .inl ⟨hi, d, by rw [upd_ne (ne_of e1 e fun z => nomatch z)]; exact e1, by rw [upd_ne (ne_of e2 e fun z => nomatch z)]; exact e2⟩⟩
  · exact ⟨a, rfl, .inr ⟨hi, by rw [upd_ne (ne_of e1 e fun z => nomatch z)]; exact e1⟩⟩
/-- what stands while the law looks at one thing -/
structure St10 (C : Cs) (G : Hp) (b l p q pe : Addr) (k : Nat) (v x : V) (es : List V) : Prop where
  bag : Bag G b l
  tp : G p = some (.tup [v, .ref q])
  t1 : Th10 G b l k v
  t2 : Th10 G b l k (.ref q)
  tx : Th10 G b l k x
  me : G pe = some (.lst es)
  n : es.length = 24
  ls : ErL C x G es
theorem St10.same {p q pe : Addr} {k : Nat} {es : List V} (S : St10 C G b l p q pe k v x es) (s : Same G G') : St10 C G' b l p q pe k v x es :=
  ⟨S.bag.same s, s _ _ S.tp, S.t1.same s, S.t2.same s, S.tx.same s, s _ _ S.me, S.n, S.ls.same s⟩
def t_law (K : PySem.W.Frag) (C : Cs) : TS :=
  (tSeq (tAsg (tCall (sp_law_bag K) [] E0 (tCons (tVar 0) tNil)) (gName 1))
    (tSeq (tFor (iRng1 (tCons (tC (.int 3)) tNil)) (gName 2) (tSeq (tAsg (tCall (sp_law_take K) [] E0 (tCons (tVar 1) (tCons (tOp (rPowI) (tC (.int 10)) (tC (.int 9))) tNil))) (gName 3))
    (tSeq (tAsg (tOp (rIx K) (tLst (tCons (tVar 3) (tCons (tC (.str "a")) (tCons (tC .non) (tCons (tLst (tCons (tVar 3) tNil)) (tCons (tTup (tCons (tC (.str "x")) (tCons (tVar 3) tNil))) (tCons tDNewK tNil))))))) (tCall (sp_law_take K) [] E0 (tCons (tVar 1) (tCons (tC (.int 6)) tNil)))) (gName 4))
    (tSeq (tFor (iTup K (tTup (tCons (tVar 4) (tCons (tLst (tCons (tVar 3) tNil)) tNil)))) (gName 5) (tSeq (tAsg (tCall (sp_law_made10 K C) [] E0 (tCons (tVar 5) tNil)) (gName 6))
    (tSeq (tIfS (tTest (tOp (rNeU K) (tLc (iList K (tCall (sp_law_kept K C) [] E0 (tCons (tVar 6) tNil))) (gName 9) tYes (tOp (rSelf K) (tVar 9) (tVar 5)) [9]) (tOp (rMulU K) (tLst (tCons (tC (.bl true)) tNil)) (tC (.int 16))))) (tRet (tC (.bl false))) tNext)
    (Evl.tCut (tIfS (tB (tCB (rIsi K) (tCons (tVar 5) (tCons (tC (.ty "list")) tNil)))) (tSeq (tDrop (tBM K "list" rAppend (tVar 5) (tCons (tOp (rAddU K) (tVar 3) (tC (.int 1))) tNil)))
    (tIfS (tTest (tOp (rNeU K) (tLc (iList K (tCall (sp_law_kept K C) [] E0 (tCons (tVar 6) tNil))) (gName 9) tYes (tOp (rSelf K) (tVar 9) (tVar 5)) [9]) (tOp (rMulU K) (tLst (tCons (tC (.bl true)) tNil)) (tC (.int 16))))) (tRet (tC (.bl false))) tNext)) tNext)
    (tSeq (tFor (iRng1 (tCons (tC (.int 24)) tNil)) (gName 7) (tSeq (tAsg (tOp (rIx K) (tVar 6) (tVar 7)) (gName 8))
    (tSeq (tIfS (tOr (tNot (tB (tCB (rIsiE K) (tCons (tVar 8) (tCons (tC (.ref C.PipeError)) tNil))))) (tNot (tB (tCB (rIsiE K) (tCons (tVar 8) (tCons (tC (.ty "ValueError")) tNil)))))) (tRet (tC (.bl false))) tNext)
    (tIfS (tTest (tOp (rNeU K) (tCall (sp_law_flags K C) [] E0 (tCons (tVar 8) tNil)) (tLc (iRng1 (tCons (tC (.int 24)) tNil)) (gName 10) tYes (tOp (rEqU K) (tVar 10) (tVar 7)) [10]))) (tRet (tC (.bl false))) tNext))))
    (tIfS (tTest (tOp (rNeU K) (tLc (iRng1 (tCons (tC (.int 3)) tNil)) (gName 7) tYes (tCall (sp_law_caught K C) [] E0 (tCons (tVar 7) (tCons (tVar 5) tNil))) [7]) (tOp (rMulU K) (tLst (tCons (tC (.bl true)) tNil)) (tC (.int 3))))) (tRet (tC (.bl false))) tNext))))))
    (tIfS (tOr (tTest (tOp (rNeU K) (tCall (sp_law_flags K C) [] E0 (tCons (tExc1 C.PipeError (tC (.str "a"))) tNil)) (tOp (rMulU K) (tLst (tCons (tC (.bl false)) tNil)) (tC (.int 24))))) (tNot (tB (tCB (rIsiE K) (tCons (tExc0 C.PipeError) (tCons (tC (.ty "ValueError")) tNil)))))) (tRet (tC (.bl false))) tNext)))))
    (tRet (tC (.bl true)))))
theorem rd_law (fx : Fx10 K C) (h : sp_law K vs H Q E) : t_law K C (EndsOf Q) (start ["", "", "", "", "", "", "", "", "", "", ""] vs) H := by
  obtain ⟨a, ns, rfl, hS, _, k⟩ := h
  refine ⟨_, rfl, a, ns, rfl, hS, fun b l H1 hb hl B s1 => ?_⟩
  clear hS hb hl s1
  refine ⟨3, rfl, by decide, by decide, ?_⟩
  refine for_range (lo := 0) (n := 3) (fun i σ' G => ∃ s2 s3 s4 s5 s6 s7 s8 s9 s10, σ' = [some (.ref a), some (.ref b), s2, s3, s4, s5, s6, s7, s8, s9, s10] ∧ Bag G b l) ⟨_, _, _, _, _, _, _, _, _, rfl, B⟩ ?_ (fun σ' G _ => k G)
  clear B
  rintro i σ' G hi ⟨s2, s3, s4, s5, s6, s7, s8, s9, s10, rfl, B⟩
  refine ⟨_, rfl, _, _, rfl, rfl, ⟨by decide, by decide, by decide⟩, b, l, 1000000000, rfl, B, by decide, by decide, fun y G1 y0 y1 B1 k1 => ?_⟩
  have hy : y.natAbs ≤ 10 ^ 100 := by
    have z : (1000000000 : Nat) ≤ 10 ^ 100 := by decide +kernel
    omega
  have hy2 : (y + 1).natAbs ≤ 10 ^ 100 := by
    have z : (1000000001 : Nat) ≤ 10 ^ 100 := by decide +kernel
    omega
  clear B k1
  refine thing_asg rfl rfl B1 hy fun v G2 T B2 => ?_
  clear B1
  -- for one in (thing, [number])
  refine ⟨_, rfl, _, rfl, two_fit.1, fun q hq => ⟨two_fit.2.1, fun p hp => ⟨p, rfl, ⟨_, SqT.of upd_same⟩, ?_⟩⟩⟩
  have g1 := same_new (o := .lst [.int y]) hq
  have g2 := same_new (o := .tup [v, .ref q]) hp
  refine for_tup (K := K) (a := p) (xs := [v, .ref q]) (fun j σ' G' => ∃ s5 s6 s7 s8 s9 s10, σ' = [some (.ref a), some (.ref b), some (.int (0 + i)), some (.int y), some v, s5, s6, s7, s8, s9, s10] ∧ Bag G' b l ∧ G' p = some (.tup [v, .ref q]) ∧ Th10 G' b l (1 + j) v ∧ Th10 G' b l (1 + j) (.ref q))
    ⟨_, _, _, _, _, _, rfl, B2.same (g1.trans g2), upd_same, T.same (g1.trans g2), .lst q [y] (g2 _ _ upd_same) (B2.nb hq) (B2.nl hq) (Nat.le_refl 1) (by simpa using hy)⟩ (fun _ _ _ _ ⟨_, _, _, _, _, _, _, _, h, _⟩ => SqT.of h) ?_ ?_
  · clear T B2 hq hp g1 g2 s5 s6 s7 s8 s9 s10
    rintro j x σ' G3 hx ⟨s5, s6, s7, s8, s9, s10, rfl, B, tp, T1, T2⟩
    have hj : j < 2 := (List.getElem?_eq_some_iff.mp hx).1
    have Tx : Th10 G3 b l (1 + j) x := by
      have : j = 0 ∨ j = 1 := by omega
      rcases this with rfl | rfl
      · cases hx
        exact T1
      · cases hx
        exact T2
    refine ⟨_, rfl, x, rfl, fx, fun pe es G4 s4' ne ee len L => ?_⟩
    have S : St10 C G4 b l p q pe (1 + j) v x es := ⟨B.same s4', s4' _ _ tp, T1.same s4', T2.same s4', Tx.same s4', ee, len, L⟩
    clear B tp T1 T2 Tx s4' ne ee len L
    dsimp only [gName, tSeq]
    refine kept_if rfl fx S.me S.n S.ls S.tx (by omega) fun G6 g6 => ?_
    have S := S.same g6
    clear g6
    dsimp only
    refine ⟨fun σ' G' => ∃ s7 s8 s9 s10, σ' = [some (.ref a), some (.ref b), some (.int (0 + i)), some (.int y), some v, some x, some (.ref pe), s7, s8, s9, s10] ∧ St10 C G' b l p q pe (2 + j) v x es, ?_, ?_⟩
    · rcases S.tx.two (K := K) with ⟨r, ms, er, e, nb, nl, few, sm⟩ | ⟨t, ty, e⟩
      · subst er
        refine ⟨_, rfl, _, _, _, _, true, rfl, .ty _, .base (.lst e), kit_ll, true, rfl, iteT' rfl ?_⟩
        refine ⟨_, rfl, .inl ⟨rfl, _, SqL.of e⟩, _, rfl, .inl ⟨_, _, rfl, rfl, r, _, _, rfl, rfl, e, ?_, ?_⟩⟩
        · rw [List.length_map]
          exact small1000 (by omega)
        have em : (ms.map V.int ++ [V.int (y + 1)]) = (ms ++ [y + 1]).map V.int := by rw [List.map_append]; rfl
        rw [em]
        have ne : pe ≠ r := fun c => by
          rw [← c, S.me] at e
          have z := congrArg List.length (HO.lst.inj (Option.some.inj e))
          rw [S.n, List.length_map] at z
          omega
        have S : St10 C (upd G6 r (.lst ((ms ++ [y + 1]).map V.int))) b l p q pe (1 + j + 1) v (.ref r) es :=
          ⟨S.bag.put nb.symm nl.symm, by rw [upd_ne (ne_of S.tp e fun z => nomatch z)]; exact S.tp, S.t1.put e nb nl few sm hy2, S.t2.put e nb nl few sm hy2, S.tx.put e nb nl few sm hy2, by rw [upd_ne ne]; exact S.me, S.n, fun i x hx => (S.ls i x hx).put e⟩
        refine kept_if rfl fx S.me S.n S.ls S.tx (by omega) fun G6 g6 => ?_
        have S := S.same g6
        rw [show 1 + j + 1 = 2 + j by omega] at S
        exact ⟨_, _, _, _, rfl, S⟩
      · exact ⟨_, rfl, _, _, _, _, false, rfl, .ty _, ty, e, false, rfl, iteF' rfl ⟨_, _, _, _, rfl, ⟨S.bag, S.tp, S.t1.up (by omega), S.t2.up (by omega), S.tx.up (by omega), S.me, S.n, S.ls⟩⟩⟩
    clear S
    rintro σ' G7 ⟨s7, s8, s9, s10, rfl, S⟩
    refine ⟨24, rfl, by decide, by decide, ?_⟩
    refine for_range (lo := 0) (n := 24) (fun m σ' G' => ∃ s7 s8 s9 s10, σ' = [some (.ref a), some (.ref b), some (.int (0 + i)), some (.int y), some v, some x, some (.ref pe), s7, s8, s9, s10] ∧ St10 C G' b l p q pe (2 + j) v x es) ⟨_, _, _, _, rfl, S⟩ ?_ ?_
    · clear S s7 s8 s9 s10
      rintro m σ' G8 hm ⟨s7, s8, s9, s10, rfl, S⟩
      rw [Int.zero_add]
      have g := List.getElem?_eq_getElem (show m < es.length by have := S.n; omega)
      have er := S.ls m _ g
      obtain ⟨ea, ee, ev⟩ := er.held (K := K)
      rw [ee] at g
      refine ⟨_, rfl, _, rfl, .inl ⟨pe, es, m, _, rfl, rfl, SqL.of S.me, atI_nat g, ?_⟩⟩
      refine ⟨_, rfl, ea, L10 C m, _, _, true, rfl, .own _, ev, fx.ex m (by omega), fx.pe m (by omega), true, rfl, iteF' rfl ?_⟩
      refine ⟨_, rfl, ea, L10 C m, _, _, true, rfl, .ty _, ev, fx.ex m (by omega), fx.ve m (by omega), true, rfl, iteF' rfl ?_⟩
      refine ⟨_, rfl, ea, m, rfl, by omega, ev, fx, fun pf G9 s9' nf ef => ?_⟩
      refine due_all fun D G10 s10' eD => ?_
      have ef' : G10 pf = some (.lst (((List.range 24).map fun j => decide (j = m)).map V.bl)) := by rw [s10' _ _ ef, List.map_map]; rfl
      refine bools_ne _ (by rw [List.length_map, List.length_range]; decide) ef' eD ?_
      exact iteF' rfl ⟨_, _, _, _, rfl, S.same (s9'.trans s10')⟩
    · clear S s7 s8 s9 s10
      rintro σ' G8 ⟨s7, s8, s9, s10, rfl, S⟩
      dsimp only
      refine caught_if rfl fx fun G10 g10 => ?_
      have S := S.same g10
      rw [show 2 + j = 1 + (j + 1) by omega] at S
      exact ⟨_, _, _, _, _, _, rfl, S.bag, S.tp, S.t1, S.t2⟩
  · clear T B2 hq hp g1 g2 s5 s6 s7 s8 s9 s10
    rintro σ' G3 ⟨s5, s6, s7, s8, s9, s10, rfl, B, _, _, _⟩
    refine fun e1 h1 => ⟨e1, 24, rfl, by decide, .own upd_same, fx, fun pf G4 s4' nf ef => ?_⟩
    refine rep_end 24 false (by decide) (by rw [ef]; rfl) fun G5 s5' => iteF' rfl ?_
    refine fun e2 h2 => ⟨e2, L10 C 24, _, _, true, rfl, .ty _, .own upd_same, fx.ex 24 (by decide), fx.ve 24 (by decide), true, rfl, iteF' rfl ?_⟩
    exact ⟨_, _, _, _, _, _, _, _, _, rfl, (((B.same (same_new h1)).same s4').same s5').same (same_new h2)⟩
end
end Pk
set_option maxHeartbeats 4000000
namespace Lw
open PySem PySem.Spec L2 PyProof.Rows Pk
def top (i : Nat) : Stmt := PySem.Challenge.pw_sharedpipe_k10_errors_told.main.body.getD i (.Pass ⟨0, 0, 0, 0⟩)
abbrev s__law_bag : Stmt := (top 27)
abbrev N__law_bag : List Str := ["_law_script", "_law_cell"]
abbrev P__law_bag : List Str := ["_law_script"]
theorem sc__law_bag : FnScope N__law_bag P__law_bag (defScope s__law_bag) := ⟨rfl, rfl, rfl, by decide +kernel, rfl, by decide +kernel, by decide +kernel⟩
abbrev s_NoStep___init__ : Stmt := (inClass (top 11) 0)
abbrev N_NoStep___init__ : List Str := ["self"]
abbrev P_NoStep___init__ : List Str := ["self"]
abbrev s_Unready___init__ : Stmt := (inClass (top 12) 0)
abbrev N_Unready___init__ : List Str := ["self", "stream"]
abbrev P_Unready___init__ : List Str := ["self", "stream"]
theorem sc_Unready___init__ : FnScope N_Unready___init__ P_Unready___init__ (defScope s_Unready___init__) := ⟨rfl, rfl, rfl, by decide +kernel, rfl, by decide +kernel, by decide +kernel⟩
abbrev s__law_caught : Stmt := (top 32)
abbrev N__law_caught : List Str := ["_law_k", "_law_thing", "_law_e"]
abbrev P__law_caught : List Str := ["_law_k", "_law_thing"]
theorem sc__law_caught : FnScope N__law_caught P__law_caught (defScope s__law_caught) := ⟨rfl, rfl, rfl, by decide +kernel, rfl, by decide +kernel, by decide +kernel⟩
abbrev s__law_flags : Stmt := (top 29)
abbrev N__law_flags : List Str := ["_law_e", "_law_found"]
abbrev P__law_flags : List Str := ["_law_e"]
theorem sc__law_flags : FnScope N__law_flags P__law_flags (defScope s__law_flags) := ⟨rfl, rfl, rfl, by decide +kernel, rfl, by decide +kernel, by decide +kernel⟩
abbrev s__law_kept : Stmt := (top 31)
abbrev N__law_kept : List Str := ["_law_some", "_law_found"]
abbrev P__law_kept : List Str := ["_law_some"]
theorem sc__law_kept : FnScope N__law_kept P__law_kept (defScope s__law_kept) := ⟨rfl, rfl, rfl, by decide +kernel, rfl, by decide +kernel, by decide +kernel⟩
abbrev s_BadFrame___init__ : Stmt := (inClass (top 17) 0)
abbrev N_BadFrame___init__ : List Str := ["self"]
abbrev P_BadFrame___init__ : List Str := ["self"]
abbrev s_BadGuide___init__ : Stmt := (inClass (top 9) 0)
abbrev N_BadGuide___init__ : List Str := ["self", "name"]
abbrev P_BadGuide___init__ : List Str := ["self", "name"]
theorem sc_BadGuide___init__ : FnScope N_BadGuide___init__ P_BadGuide___init__ (defScope s_BadGuide___init__) := ⟨rfl, rfl, rfl, by decide +kernel, rfl, by decide +kernel, by decide +kernel⟩
abbrev s_BadSlow___init__ : Stmt := (inClass (top 16) 0)
abbrev N_BadSlow___init__ : List Str := ["self"]
abbrev P_BadSlow___init__ : List Str := ["self"]
abbrev s_Broken___init__ : Stmt := (inClass (top 15) 0)
abbrev N_Broken___init__ : List Str := ["self", "at"]
abbrev P_Broken___init__ : List Str := ["self", "at"]
theorem sc_Broken___init__ : FnScope N_Broken___init__ P_Broken___init__ (defScope s_Broken___init__) := ⟨rfl, rfl, rfl, by decide +kernel, rfl, by decide +kernel, by decide +kernel⟩
abbrev s_Full___init__ : Stmt := (inClass (top 21) 0)
abbrev N_Full___init__ : List Str := ["self", "limit"]
abbrev P_Full___init__ : List Str := ["self", "limit"]
theorem sc_Full___init__ : FnScope N_Full___init__ P_Full___init__ (defScope s_Full___init__) := ⟨rfl, rfl, rfl, by decide +kernel, rfl, by decide +kernel, by decide +kernel⟩
abbrev s_IsSlow___init__ : Stmt := (inClass (top 18) 0)
abbrev N_IsSlow___init__ : List Str := ["self", "stream"]
abbrev P_IsSlow___init__ : List Str := ["self", "stream"]
theorem sc_IsSlow___init__ : FnScope N_IsSlow___init__ P_IsSlow___init__ (defScope s_IsSlow___init__) := ⟨rfl, rfl, rfl, by decide +kernel, rfl, by decide +kernel, by decide +kernel⟩
abbrev s_Narrow___init__ : Stmt := (inClass (top 10) 0)
abbrev N_Narrow___init__ : List Str := ["self", "name"]
abbrev P_Narrow___init__ : List Str := ["self", "name"]
theorem sc_Narrow___init__ : FnScope N_Narrow___init__ P_Narrow___init__ (defScope s_Narrow___init__) := ⟨rfl, rfl, rfl, by decide +kernel, rfl, by decide +kernel, by decide +kernel⟩
abbrev s_NoCommand___init__ : Stmt := (inClass (top 25) 0)
abbrev N_NoCommand___init__ : List Str := ["self"]
abbrev P_NoCommand___init__ : List Str := ["self"]
abbrev s_NoCredit___init__ : Stmt := (inClass (top 13) 0)
abbrev N_NoCredit___init__ : List Str := ["self", "name"]
abbrev P_NoCredit___init__ : List Str := ["self", "name"]
theorem sc_NoCredit___init__ : FnScope N_NoCredit___init__ P_NoCredit___init__ (defScope s_NoCredit___init__) := ⟨rfl, rfl, rfl, by decide +kernel, rfl, by decide +kernel, by decide +kernel⟩
abbrev s_NoDeed___init__ : Stmt := (inClass (top 20) 0)
abbrev N_NoDeed___init__ : List Str := ["self"]
abbrev P_NoDeed___init__ : List Str := ["self"]
abbrev s_NoEntry___init__ : Stmt := (inClass (top 23) 0)
abbrev N_NoEntry___init__ : List Str := ["self", "many"]
abbrev P_NoEntry___init__ : List Str := ["self", "many"]
theorem sc_NoEntry___init__ : FnScope N_NoEntry___init__ P_NoEntry___init__ (defScope s_NoEntry___init__) := ⟨rfl, rfl, rfl, by decide +kernel, rfl, by decide +kernel, by decide +kernel⟩
abbrev s_NoText___init__ : Stmt := (inClass (top 24) 0)
abbrev N_NoText___init__ : List Str := ["self"]
abbrev P_NoText___init__ : List Str := ["self"]
abbrev s_NotPassed___init__ : Stmt := (inClass (top 5) 0)
abbrev N_NotPassed___init__ : List Str := ["self", "many"]
abbrev P_NotPassed___init__ : List Str := ["self", "many"]
theorem sc_NotPassed___init__ : FnScope N_NotPassed___init__ P_NotPassed___init__ (defScope s_NotPassed___init__) := ⟨rfl, rfl, rfl, by decide +kernel, rfl, by decide +kernel, by decide +kernel⟩
abbrev s_Nothing___init__ : Stmt := (inClass (top 14) 0)
abbrev N_Nothing___init__ : List Str := ["self"]
abbrev P_Nothing___init__ : List Str := ["self"]
abbrev s_Overdrawn___init__ : Stmt := (inClass (top 4) 0)
abbrev N_Overdrawn___init__ : List Str := ["self", "many"]
abbrev P_Overdrawn___init__ : List Str := ["self", "many"]
theorem sc_Overdrawn___init__ : FnScope N_Overdrawn___init__ P_Overdrawn___init__ (defScope s_Overdrawn___init__) := ⟨rfl, rfl, rfl, by decide +kernel, rfl, by decide +kernel, by decide +kernel⟩
abbrev s_Refused___init__ : Stmt := (inClass (top 22) 0)
abbrev N_Refused___init__ : List Str := ["self", "deed"]
abbrev P_Refused___init__ : List Str := ["self", "deed"]
theorem sc_Refused___init__ : FnScope N_Refused___init__ P_Refused___init__ (defScope s_Refused___init__) := ⟨rfl, rfl, rfl, by decide +kernel, rfl, by decide +kernel, by decide +kernel⟩
abbrev s_Ring___init__ : Stmt := (inClass (top 8) 0)
abbrev N_Ring___init__ : List Str := ["self", "name"]
abbrev P_Ring___init__ : List Str := ["self", "name"]
theorem sc_Ring___init__ : FnScope N_Ring___init__ P_Ring___init__ (defScope s_Ring___init__) := ⟨rfl, rfl, rfl, by decide +kernel, rfl, by decide +kernel, by decide +kernel⟩
abbrev s_TooMany___init__ : Stmt := (inClass (top 3) 0)
abbrev N_TooMany___init__ : List Str := ["self", "limit"]
abbrev P_TooMany___init__ : List Str := ["self", "limit"]
theorem sc_TooMany___init__ : FnScope N_TooMany___init__ P_TooMany___init__ (defScope s_TooMany___init__) := ⟨rfl, rfl, rfl, by decide +kernel, rfl, by decide +kernel, by decide +kernel⟩
abbrev s_Twice___init__ : Stmt := (inClass (top 6) 0)
abbrev N_Twice___init__ : List Str := ["self", "name"]
abbrev P_Twice___init__ : List Str := ["self", "name"]
theorem sc_Twice___init__ : FnScope N_Twice___init__ P_Twice___init__ (defScope s_Twice___init__) := ⟨rfl, rfl, rfl, by decide +kernel, rfl, by decide +kernel, by decide +kernel⟩
abbrev s_Unknown___init__ : Stmt := (inClass (top 7) 0)
abbrev N_Unknown___init__ : List Str := ["self", "name"]
abbrev P_Unknown___init__ : List Str := ["self", "name"]
theorem sc_Unknown___init__ : FnScope N_Unknown___init__ P_Unknown___init__ (defScope s_Unknown___init__) := ⟨rfl, rfl, rfl, by decide +kernel, rfl, by decide +kernel, by decide +kernel⟩
abbrev s_Unlike___init__ : Stmt := (inClass (top 19) 0)
abbrev N_Unlike___init__ : List Str := ["self"]
abbrev P_Unlike___init__ : List Str := ["self"]
abbrev s_Wrong___init__ : Stmt := (inClass (top 2) 0)
abbrev N_Wrong___init__ : List Str := ["self", "place"]
abbrev P_Wrong___init__ : List Str := ["self", "place"]
theorem sc_Wrong___init__ : FnScope N_Wrong___init__ P_Wrong___init__ (defScope s_Wrong___init__) := ⟨rfl, rfl, rfl, by decide +kernel, rfl, by decide +kernel, by decide +kernel⟩
abbrev s__law_made : Stmt := (top 30)
abbrev N__law_made : List Str := ["_law_thing", "_law_found"]
abbrev P__law_made : List Str := ["_law_thing"]
theorem sc__law_made : FnScope N__law_made P__law_made (defScope s__law_made) := ⟨rfl, rfl, rfl, by decide +kernel, rfl, by decide +kernel, by decide +kernel⟩
abbrev s__law_take : Stmt := (top 28)
abbrev N__law_take : List Str := ["_law_bag_here", "_law_many", "_law_cell", "_law_mixed", "_law_value", "_law_begin", "_law_second"]
abbrev P__law_take : List Str := ["_law_bag_here", "_law_many"]
theorem sc__law_take : FnScope N__law_take P__law_take (defScope s__law_take) := ⟨rfl, rfl, rfl, by decide +kernel, rfl, by decide +kernel, by decide +kernel⟩
abbrev s_law : Stmt := (top 33)
abbrev N_law : List Str := ["_law_script", "_law_bag_here", "_law_turn", "_law_number", "_law_thing", "_law_one", "_law_some", "_law_k", "_law_e", "_law_found", "_law_j"]
abbrev P_law : List Str := ["_law_script"]
theorem sc_law : FnScope N_law P_law (defScope s_law) := ⟨rfl, rfl, rfl, by decide +kernel, rfl, by decide +kernel, by decide +kernel⟩
structure Bl (mg : Str → Option Value) : Prop where
  none_ : True
  b_ValueError : mg "ValueError" = none
  b_abs : mg "abs" = none
  b_int : mg "int" = none
  b_isinstance : mg "isinstance" = none
  b_len : mg "len" = none
  b_list : mg "list" = none
  b_range : mg "range" = none
section
variable {P : Program} {w : World} {K : PySem.W.Frag} {mg : Str → Option Value} {base : Heap} {C : Cs}
theorem ok__law_bag {f : Addr} {fd : FuncData} (F : Fun K "_law_bag" "_law_bag" s__law_bag f fd) (T : Bl mg)   : FnOk P w K mg base CX0 1 f fd P__law_bag (sp_law_bag K) := by
  refine F.ok sc__law_bag (fun vs H Q E h => ln_law_bag h) (fun cdv A outer s H vs Q E hr h => ⟨t_law_bag K, ?_, rd_law_bag  h⟩)
  exact (pss_one (ps_ret (pe_lst (pa_cons pe_int (pa_cons pe_int (pa_cons pe_int (pa_cons (pe_lc (own := [("_law_cell", 1)]) (g := (gName 1)) (tt := tYes) rfl sc__law_bag.nd (pi_list (pe_slice slU (pv 0) po_none (po_some pe_int))) (blkOk_by (N := N__law_bag) (own := [("_law_cell", 1)]) (sc := defScope s__law_bag) (by decide +kernel)) (fun _ _ _ _ _ => (pg_name (i := 1) sc__law_bag.nd rfl (Or.inl rfl))) (fun _ _ _ _ _ => pts_nil) (fun _ _ _ _ _ => (pe_callB call_abs rfl T.b_abs Pk.boot_abs (pa_cons (pv 1) pa_nil)))) pa_nil)))))))
theorem ok_Unready___init__ {f : Addr} {fd : FuncData} (F : Fun K "__init__" "Unready.__init__" s_Unready___init__ f fd) (T : Bl mg)   : FnOk P w K mg base CX0 1 f fd P_Unready___init__ (rOneI K C.Unready "stream") := by
  refine F.ok sc_Unready___init__ (fun vs H Q E h => ln_OneI h) (fun cdv A outer s H vs Q E hr h => ⟨tOst K "stream" (tVar 0) (tVar 1), ?_, rd_OneI h⟩)
  exact (pss_one (ps_ost (pv 0) (pv 1)))
theorem ok__law_caught {f : Addr} {fd : FuncData} (F : Fun K "_law_caught" "_law_caught" s__law_caught f fd) (T : Bl mg)  (E_PipeError : ErrK K mg "PipeError" C.PipeError) (q_PipeError : PySem.W.excIn K C.PipeError PkX.bmV "ValueError.__new__" = true) (E_NoStep : ErrK K mg "NoStep" C.NoStep) (i_NoStep : ErrI P w K mg base 1 C.NoStep P_NoStep___init__ (rSup K C.NoStep)) (E_Unready : ErrK K mg "Unready" C.Unready) (i_Unready : ErrI P w K mg base 1 C.Unready P_Unready___init__ (rOneI K C.Unready "stream")) : FnOk P w K mg base CX0 3 f fd P__law_caught (sp_law_caught K C) := by
  refine F.ok sc__law_caught (fun vs H Q E h => ln_law_caught h) (fun cdv A outer s H vs Q E hr h => ⟨t_law_caught K C, ?_, rd_law_caught  h⟩)
  exact (pss_one (ps_try_as (i := 2) (tb := (fun W => (tSeq (tIfS (tTest (tOp (rEqU K) (tVar 0) (tC (.int 0)))) (tRaiseW C.Unready (rOneI K C.Unready "stream") (tCons (tVar 1) tNil) W) tNext)
    (tSeq (tIfS (tTest (tOp (rEqU K) (tVar 0) (tC (.int 1)))) (tRaiseW0 C.NoStep W) tNext)
    (tRaiseW0 C.PipeError W))))) (ts := (fun a cls d => (tRet (tAndV (tCB (rIsC K a cls d) (tCons (tVar 2) (tCons (tC (.ty "ValueError")) tNil))) (tOrV (tOp (rLtI) (tVar 0) (tC (.int 2))) (tNotV (tCB (rIsCT K a cls d) (tCons (tVar 2) (tCons (tTup (tCons (tC (.ref C.Unready)) (tCons (tC (.ref C.NoStep)) tNil))) tNil))))))))) (Wout := fun _ _ _ _ => False) rfl rfl sc__law_caught.nd rfl rfl ⟨rfl, by decide, Or.inl E_PipeError.at_⟩ takes0
      (fun W pn xe tk _ => (pss_cons (ps_if (pt_cmpR (opEq hr.units) (pv 0) pe_int (nomark _)) (pss_one (ps_raise rfl tk (pmk_err E_Unready i_Unready hr (pa_cons (pv 1) pa_nil)))) pss_nil)
    (pss_cons (ps_if (pt_cmpR (opEq hr.units) (pv 0) pe_int (nomark _)) (pss_one (ps_raise rfl tk (pmk_sup E_NoStep i_NoStep hr))) pss_nil)
    (pss_one (ps_raise rfl tk (pmk_own PySem.F.excBase_ValueError q_PipeError E_PipeError.at_ E_PipeError.oex.kC (raises_own E_PipeError.oex.exC E_PipeError.oex.tyC) rfl))))))
      (fun a oe cls d pn hz hf => (pss_one (ps_ret (pe_and (pe_callB (call_isC hz hf) rfl T.b_isinstance Pk.boot_isinstance (pa_cons (pv 2) (pa_cons (pe_bltn (v := .ty "ValueError") rfl T.b_ValueError Pk.boot_t_ValueError rfl) pa_nil))) (pe_one (pe_or (pe_cmpR opLt (pv 0) pe_int (nomark _)) (pe_one (pe_not (pe_callB (call_isCT hz hf) rfl T.b_isinstance Pk.boot_isinstance (pa_cons (pv 2) (pa_cons (pe_tup (pa_cons (pe_glob rfl E_Unready.at_ rfl) (pa_cons (pe_glob rfl E_NoStep.at_ rfl) pa_nil))) pa_nil)))))))))))))
theorem ok__law_flags {f : Addr} {fd : FuncData} (F : Fun K "_law_flags" "_law_flags" s__law_flags f fd) (T : Bl mg)  (E_NoCommand : ErrK K mg "NoCommand" C.NoCommand) (E_NoText : ErrK K mg "NoText" C.NoText) (E_NoDeed : ErrK K mg "NoDeed" C.NoDeed) (E_Unlike : ErrK K mg "Unlike" C.Unlike) (E_BadFrame : ErrK K mg "BadFrame" C.BadFrame) (E_BadSlow : ErrK K mg "BadSlow" C.BadSlow) (E_Nothing : ErrK K mg "Nothing" C.Nothing) (E_NoStep : ErrK K mg "NoStep" C.NoStep) (E_NoEntry : ErrK K mg "NoEntry" C.NoEntry) (E_Refused : ErrK K mg "Refused" C.Refused) (E_Full : ErrK K mg "Full" C.Full) (E_IsSlow : ErrK K mg "IsSlow" C.IsSlow) (E_Broken : ErrK K mg "Broken" C.Broken) (E_NoCredit : ErrK K mg "NoCredit" C.NoCredit) (E_Unready : ErrK K mg "Unready" C.Unready) (E_Narrow : ErrK K mg "Narrow" C.Narrow) (E_BadGuide : ErrK K mg "BadGuide" C.BadGuide) (E_Ring : ErrK K mg "Ring" C.Ring) (E_Unknown : ErrK K mg "Unknown" C.Unknown) (E_Twice : ErrK K mg "Twice" C.Twice) (E_NotPassed : ErrK K mg "NotPassed" C.NotPassed) (E_Overdrawn : ErrK K mg "Overdrawn" C.Overdrawn) (E_TooMany : ErrK K mg "TooMany" C.TooMany) (E_Wrong : ErrK K mg "Wrong" C.Wrong) : FnOk P w K mg base CX0 1 f fd P__law_flags (sp_law_flags K C) := by
  refine F.ok sc__law_flags (fun vs H Q E h => ln_law_flags h) (fun cdv A outer s H vs Q E hr h => ⟨t_law_flags K C, ?_, rd_law_flags  h⟩)
  exact (pss_cons (ps_set (i := 1) sc__law_flags.nd rfl (Or.inl rfl) (pe_lst (pa_cons (pe_callB call_isiE rfl T.b_isinstance Pk.boot_isinstance (pa_cons (pv 0) (pa_cons (pe_glob rfl E_Wrong.at_ rfl) pa_nil))) (pa_cons (pe_callB call_isiE rfl T.b_isinstance Pk.boot_isinstance (pa_cons (pv 0) (pa_cons (pe_glob rfl E_TooMany.at_ rfl) pa_nil))) (pa_cons (pe_callB call_isiE rfl T.b_isinstance Pk.boot_isinstance (pa_cons (pv 0) (pa_cons (pe_glob rfl E_Overdrawn.at_ rfl) pa_nil))) (pa_cons (pe_callB call_isiE rfl T.b_isinstance Pk.boot_isinstance (pa_cons (pv 0) (pa_cons (pe_glob rfl E_NotPassed.at_ rfl) pa_nil))) pa_nil))))))
    (pss_cons (ps_set (i := 1) sc__law_flags.nd rfl (Or.inl rfl) (pe_op opAdd (pv 1) (pe_lst (pa_cons (pe_callB call_isiE rfl T.b_isinstance Pk.boot_isinstance (pa_cons (pv 0) (pa_cons (pe_glob rfl E_Twice.at_ rfl) pa_nil))) (pa_cons (pe_callB call_isiE rfl T.b_isinstance Pk.boot_isinstance (pa_cons (pv 0) (pa_cons (pe_glob rfl E_Unknown.at_ rfl) pa_nil))) (pa_cons (pe_callB call_isiE rfl T.b_isinstance Pk.boot_isinstance (pa_cons (pv 0) (pa_cons (pe_glob rfl E_Ring.at_ rfl) pa_nil))) (pa_cons (pe_callB call_isiE rfl T.b_isinstance Pk.boot_isinstance (pa_cons (pv 0) (pa_cons (pe_glob rfl E_BadGuide.at_ rfl) pa_nil))) pa_nil)))))))
    (pss_cons (ps_set (i := 1) sc__law_flags.nd rfl (Or.inl rfl) (pe_op opAdd (pv 1) (pe_lst (pa_cons (pe_callB call_isiE rfl T.b_isinstance Pk.boot_isinstance (pa_cons (pv 0) (pa_cons (pe_glob rfl E_Narrow.at_ rfl) pa_nil))) (pa_cons (pe_callB call_isiE rfl T.b_isinstance Pk.boot_isinstance (pa_cons (pv 0) (pa_cons (pe_glob rfl E_Unready.at_ rfl) pa_nil))) (pa_cons (pe_callB call_isiE rfl T.b_isinstance Pk.boot_isinstance (pa_cons (pv 0) (pa_cons (pe_glob rfl E_NoCredit.at_ rfl) pa_nil))) (pa_cons (pe_callB call_isiE rfl T.b_isinstance Pk.boot_isinstance (pa_cons (pv 0) (pa_cons (pe_glob rfl E_Broken.at_ rfl) pa_nil))) pa_nil)))))))
    (pss_cons (ps_set (i := 1) sc__law_flags.nd rfl (Or.inl rfl) (pe_op opAdd (pv 1) (pe_lst (pa_cons (pe_callB call_isiE rfl T.b_isinstance Pk.boot_isinstance (pa_cons (pv 0) (pa_cons (pe_glob rfl E_IsSlow.at_ rfl) pa_nil))) (pa_cons (pe_callB call_isiE rfl T.b_isinstance Pk.boot_isinstance (pa_cons (pv 0) (pa_cons (pe_glob rfl E_Full.at_ rfl) pa_nil))) (pa_cons (pe_callB call_isiE rfl T.b_isinstance Pk.boot_isinstance (pa_cons (pv 0) (pa_cons (pe_glob rfl E_Refused.at_ rfl) pa_nil))) (pa_cons (pe_callB call_isiE rfl T.b_isinstance Pk.boot_isinstance (pa_cons (pv 0) (pa_cons (pe_glob rfl E_NoEntry.at_ rfl) pa_nil))) pa_nil)))))))
    (pss_cons (ps_set (i := 1) sc__law_flags.nd rfl (Or.inl rfl) (pe_op opAdd (pv 1) (pe_lst (pa_cons (pe_callB call_isiE rfl T.b_isinstance Pk.boot_isinstance (pa_cons (pv 0) (pa_cons (pe_glob rfl E_NoStep.at_ rfl) pa_nil))) (pa_cons (pe_callB call_isiE rfl T.b_isinstance Pk.boot_isinstance (pa_cons (pv 0) (pa_cons (pe_glob rfl E_Nothing.at_ rfl) pa_nil))) (pa_cons (pe_callB call_isiE rfl T.b_isinstance Pk.boot_isinstance (pa_cons (pv 0) (pa_cons (pe_glob rfl E_BadSlow.at_ rfl) pa_nil))) (pa_cons (pe_callB call_isiE rfl T.b_isinstance Pk.boot_isinstance (pa_cons (pv 0) (pa_cons (pe_glob rfl E_BadFrame.at_ rfl) pa_nil))) pa_nil)))))))
    (pss_cons (ps_set (i := 1) sc__law_flags.nd rfl (Or.inl rfl) (pe_op opAdd (pv 1) (pe_lst (pa_cons (pe_callB call_isiE rfl T.b_isinstance Pk.boot_isinstance (pa_cons (pv 0) (pa_cons (pe_glob rfl E_Unlike.at_ rfl) pa_nil))) (pa_cons (pe_callB call_isiE rfl T.b_isinstance Pk.boot_isinstance (pa_cons (pv 0) (pa_cons (pe_glob rfl E_NoDeed.at_ rfl) pa_nil))) (pa_cons (pe_callB call_isiE rfl T.b_isinstance Pk.boot_isinstance (pa_cons (pv 0) (pa_cons (pe_glob rfl E_NoText.at_ rfl) pa_nil))) (pa_cons (pe_callB call_isiE rfl T.b_isinstance Pk.boot_isinstance (pa_cons (pv 0) (pa_cons (pe_glob rfl E_NoCommand.at_ rfl) pa_nil))) pa_nil)))))))
    (pss_one (ps_ret (pv 1)))))))))
theorem ok__law_kept {f : Addr} {fd : FuncData} (F : Fun K "_law_kept" "_law_kept" s__law_kept f fd) (T : Bl mg)   : FnOk P w K mg base CX0 1 f fd P__law_kept (sp_law_kept K C) := by
  refine F.ok sc__law_kept (fun vs H Q E h => ln_law_kept h) (fun cdv A outer s H vs Q E hr h => ⟨t_law_kept K, ?_, rd_law_kept  h⟩)
  exact (pss_cons (ps_set (i := 1) sc__law_kept.nd rfl (Or.inl rfl) (pe_lst (pa_cons (pe_fldE (pe_ix ix_seq (pv 0) pe_int (fun _ _ => rfl)) rfl) (pa_cons (pe_fldE (pe_ix ix_seq (pv 0) pe_int (fun _ _ => rfl)) rfl) (pa_cons (pe_fldE (pe_ix ix_seq (pv 0) pe_int (fun _ _ => rfl)) rfl) (pa_cons (pe_fldE (pe_ix ix_seq (pv 0) pe_int (fun _ _ => rfl)) rfl) (pa_cons (pe_fldE (pe_ix ix_seq (pv 0) pe_int (fun _ _ => rfl)) rfl) (pa_cons (pe_fldE (pe_ix ix_seq (pv 0) pe_int (fun _ _ => rfl)) rfl) (pa_cons (pe_fldE (pe_ix ix_seq (pv 0) pe_int (fun _ _ => rfl)) rfl) pa_nil)))))))))
    (pss_cons (ps_set (i := 1) sc__law_kept.nd rfl (Or.inl rfl) (pe_op opAdd (pv 1) (pe_lst (pa_cons (pe_fldE (pe_ix ix_seq (pv 0) pe_int (fun _ _ => rfl)) rfl) (pa_cons (pe_fldE (pe_ix ix_seq (pv 0) pe_int (fun _ _ => rfl)) rfl) (pa_cons (pe_fldE (pe_ix ix_seq (pv 0) pe_int (fun _ _ => rfl)) rfl) (pa_cons (pe_fldE (pe_ix ix_seq (pv 0) pe_int (fun _ _ => rfl)) rfl) (pa_cons (pe_fldE (pe_ix ix_seq (pv 0) pe_int (fun _ _ => rfl)) rfl) (pa_cons (pe_fldE (pe_ix ix_seq (pv 0) pe_int (fun _ _ => rfl)) rfl) pa_nil)))))))))
    (pss_one (ps_ret (pe_op opAdd (pv 1) (pe_lst (pa_cons (pe_fldE (pe_ix ix_seq (pv 0) pe_int (fun _ _ => rfl)) rfl) (pa_cons (pe_fldE (pe_ix ix_seq (pv 0) pe_int (fun _ _ => rfl)) rfl) (pa_cons (pe_fldE (pe_ix ix_seq (pv 0) pe_int (fun _ _ => rfl)) rfl) pa_nil)))))))))
theorem ok_BadGuide___init__ {f : Addr} {fd : FuncData} (F : Fun K "__init__" "BadGuide.__init__" s_BadGuide___init__ f fd) (T : Bl mg)   : FnOk P w K mg base CX0 1 f fd P_BadGuide___init__ (rOneI K C.BadGuide "name") := by
  refine F.ok sc_BadGuide___init__ (fun vs H Q E h => ln_OneI h) (fun cdv A outer s H vs Q E hr h => ⟨tOst K "name" (tVar 0) (tVar 1), ?_, rd_OneI h⟩)
  exact (pss_one (ps_ost (pv 0) (pv 1)))
theorem ok_Broken___init__ {f : Addr} {fd : FuncData} (F : Fun K "__init__" "Broken.__init__" s_Broken___init__ f fd) (T : Bl mg)   : FnOk P w K mg base CX0 1 f fd P_Broken___init__ (rOneI K C.Broken "at") := by
  refine F.ok sc_Broken___init__ (fun vs H Q E h => ln_OneI h) (fun cdv A outer s H vs Q E hr h => ⟨tOst K "at" (tVar 0) (tVar 1), ?_, rd_OneI h⟩)
  exact (pss_one (ps_ost (pv 0) (pv 1)))
theorem ok_Full___init__ {f : Addr} {fd : FuncData} (F : Fun K "__init__" "Full.__init__" s_Full___init__ f fd) (T : Bl mg)   : FnOk P w K mg base CX0 1 f fd P_Full___init__ (rOneI K C.Full "limit") := by
  refine F.ok sc_Full___init__ (fun vs H Q E h => ln_OneI h) (fun cdv A outer s H vs Q E hr h => ⟨tOst K "limit" (tVar 0) (tVar 1), ?_, rd_OneI h⟩)
  exact (pss_one (ps_ost (pv 0) (pv 1)))
theorem ok_IsSlow___init__ {f : Addr} {fd : FuncData} (F : Fun K "__init__" "IsSlow.__init__" s_IsSlow___init__ f fd) (T : Bl mg)   : FnOk P w K mg base CX0 1 f fd P_IsSlow___init__ (rOneI K C.IsSlow "stream") := by
  refine F.ok sc_IsSlow___init__ (fun vs H Q E h => ln_OneI h) (fun cdv A outer s H vs Q E hr h => ⟨tOst K "stream" (tVar 0) (tVar 1), ?_, rd_OneI h⟩)
  exact (pss_one (ps_ost (pv 0) (pv 1)))
theorem ok_Narrow___init__ {f : Addr} {fd : FuncData} (F : Fun K "__init__" "Narrow.__init__" s_Narrow___init__ f fd) (T : Bl mg)   : FnOk P w K mg base CX0 1 f fd P_Narrow___init__ (rOneI K C.Narrow "name") := by
  refine F.ok sc_Narrow___init__ (fun vs H Q E h => ln_OneI h) (fun cdv A outer s H vs Q E hr h => ⟨tOst K "name" (tVar 0) (tVar 1), ?_, rd_OneI h⟩)
  exact (pss_one (ps_ost (pv 0) (pv 1)))
theorem ok_NoCredit___init__ {f : Addr} {fd : FuncData} (F : Fun K "__init__" "NoCredit.__init__" s_NoCredit___init__ f fd) (T : Bl mg)   : FnOk P w K mg base CX0 1 f fd P_NoCredit___init__ (rOneI K C.NoCredit "name") := by
  refine F.ok sc_NoCredit___init__ (fun vs H Q E h => ln_OneI h) (fun cdv A outer s H vs Q E hr h => ⟨tOst K "name" (tVar 0) (tVar 1), ?_, rd_OneI h⟩)
  exact (pss_one (ps_ost (pv 0) (pv 1)))
theorem ok_NoEntry___init__ {f : Addr} {fd : FuncData} (F : Fun K "__init__" "NoEntry.__init__" s_NoEntry___init__ f fd) (T : Bl mg)   : FnOk P w K mg base CX0 1 f fd P_NoEntry___init__ (rOneI K C.NoEntry "many") := by
  refine F.ok sc_NoEntry___init__ (fun vs H Q E h => ln_OneI h) (fun cdv A outer s H vs Q E hr h => ⟨tOst K "many" (tVar 0) (tVar 1), ?_, rd_OneI h⟩)
  exact (pss_one (ps_ost (pv 0) (pv 1)))
theorem ok_NotPassed___init__ {f : Addr} {fd : FuncData} (F : Fun K "__init__" "NotPassed.__init__" s_NotPassed___init__ f fd) (T : Bl mg)   : FnOk P w K mg base CX0 1 f fd P_NotPassed___init__ (rOneI K C.NotPassed "many") := by
  refine F.ok sc_NotPassed___init__ (fun vs H Q E h => ln_OneI h) (fun cdv A outer s H vs Q E hr h => ⟨tOst K "many" (tVar 0) (tVar 1), ?_, rd_OneI h⟩)
  exact (pss_one (ps_ost (pv 0) (pv 1)))
theorem ok_Overdrawn___init__ {f : Addr} {fd : FuncData} (F : Fun K "__init__" "Overdrawn.__init__" s_Overdrawn___init__ f fd) (T : Bl mg)   : FnOk P w K mg base CX0 1 f fd P_Overdrawn___init__ (rOneI K C.Overdrawn "many") := by
  refine F.ok sc_Overdrawn___init__ (fun vs H Q E h => ln_OneI h) (fun cdv A outer s H vs Q E hr h => ⟨tOst K "many" (tVar 0) (tVar 1), ?_, rd_OneI h⟩)
  exact (pss_one (ps_ost (pv 0) (pv 1)))
theorem ok_Refused___init__ {f : Addr} {fd : FuncData} (F : Fun K "__init__" "Refused.__init__" s_Refused___init__ f fd) (T : Bl mg)   : FnOk P w K mg base CX0 1 f fd P_Refused___init__ (rOneI K C.Refused "deed") := by
  refine F.ok sc_Refused___init__ (fun vs H Q E h => ln_OneI h) (fun cdv A outer s H vs Q E hr h => ⟨tOst K "deed" (tVar 0) (tVar 1), ?_, rd_OneI h⟩)
  exact (pss_one (ps_ost (pv 0) (pv 1)))
theorem ok_Ring___init__ {f : Addr} {fd : FuncData} (F : Fun K "__init__" "Ring.__init__" s_Ring___init__ f fd) (T : Bl mg)   : FnOk P w K mg base CX0 1 f fd P_Ring___init__ (rOneI K C.Ring "name") := by
  refine F.ok sc_Ring___init__ (fun vs H Q E h => ln_OneI h) (fun cdv A outer s H vs Q E hr h => ⟨tOst K "name" (tVar 0) (tVar 1), ?_, rd_OneI h⟩)
  exact (pss_one (ps_ost (pv 0) (pv 1)))
theorem ok_TooMany___init__ {f : Addr} {fd : FuncData} (F : Fun K "__init__" "TooMany.__init__" s_TooMany___init__ f fd) (T : Bl mg)   : FnOk P w K mg base CX0 1 f fd P_TooMany___init__ (rOneI K C.TooMany "limit") := by
  refine F.ok sc_TooMany___init__ (fun vs H Q E h => ln_OneI h) (fun cdv A outer s H vs Q E hr h => ⟨tOst K "limit" (tVar 0) (tVar 1), ?_, rd_OneI h⟩)
  exact (pss_one (ps_ost (pv 0) (pv 1)))
theorem ok_Twice___init__ {f : Addr} {fd : FuncData} (F : Fun K "__init__" "Twice.__init__" s_Twice___init__ f fd) (T : Bl mg)   : FnOk P w K mg base CX0 1 f fd P_Twice___init__ (rOneI K C.Twice "name") := by
  refine F.ok sc_Twice___init__ (fun vs H Q E h => ln_OneI h) (fun cdv A outer s H vs Q E hr h => ⟨tOst K "name" (tVar 0) (tVar 1), ?_, rd_OneI h⟩)
  exact (pss_one (ps_ost (pv 0) (pv 1)))
theorem ok_Unknown___init__ {f : Addr} {fd : FuncData} (F : Fun K "__init__" "Unknown.__init__" s_Unknown___init__ f fd) (T : Bl mg)   : FnOk P w K mg base CX0 1 f fd P_Unknown___init__ (rOneI K C.Unknown "name") := by
  refine F.ok sc_Unknown___init__ (fun vs H Q E h => ln_OneI h) (fun cdv A outer s H vs Q E hr h => ⟨tOst K "name" (tVar 0) (tVar 1), ?_, rd_OneI h⟩)
  exact (pss_one (ps_ost (pv 0) (pv 1)))
theorem ok_Wrong___init__ {f : Addr} {fd : FuncData} (F : Fun K "__init__" "Wrong.__init__" s_Wrong___init__ f fd) (T : Bl mg)   : FnOk P w K mg base CX0 1 f fd P_Wrong___init__ (rOneI K C.Wrong "place") := by
  refine F.ok sc_Wrong___init__ (fun vs H Q E h => ln_OneI h) (fun cdv A outer s H vs Q E hr h => ⟨tOst K "place" (tVar 0) (tVar 1), ?_, rd_OneI h⟩)
  exact (pss_one (ps_ost (pv 0) (pv 1)))
theorem ok__law_made {f : Addr} {fd : FuncData} (F : Fun K "_law_made" "_law_made" s__law_made f fd) (T : Bl mg)  (E_NoCommand : ErrK K mg "NoCommand" C.NoCommand) (i_NoCommand : ErrI P w K mg base 1 C.NoCommand P_NoCommand___init__ (rSup K C.NoCommand)) (E_NoText : ErrK K mg "NoText" C.NoText) (i_NoText : ErrI P w K mg base 1 C.NoText P_NoText___init__ (rSup K C.NoText)) (E_NoDeed : ErrK K mg "NoDeed" C.NoDeed) (i_NoDeed : ErrI P w K mg base 1 C.NoDeed P_NoDeed___init__ (rSup K C.NoDeed)) (E_Unlike : ErrK K mg "Unlike" C.Unlike) (i_Unlike : ErrI P w K mg base 1 C.Unlike P_Unlike___init__ (rSup K C.Unlike)) (E_BadFrame : ErrK K mg "BadFrame" C.BadFrame) (i_BadFrame : ErrI P w K mg base 1 C.BadFrame P_BadFrame___init__ (rSup K C.BadFrame)) (E_BadSlow : ErrK K mg "BadSlow" C.BadSlow) (i_BadSlow : ErrI P w K mg base 1 C.BadSlow P_BadSlow___init__ (rSup K C.BadSlow)) (E_Nothing : ErrK K mg "Nothing" C.Nothing) (i_Nothing : ErrI P w K mg base 1 C.Nothing P_Nothing___init__ (rSup K C.Nothing)) (E_NoStep : ErrK K mg "NoStep" C.NoStep) (i_NoStep : ErrI P w K mg base 1 C.NoStep P_NoStep___init__ (rSup K C.NoStep)) (E_NoEntry : ErrK K mg "NoEntry" C.NoEntry) (i_NoEntry : ErrI P w K mg base 1 C.NoEntry P_NoEntry___init__ (rOneI K C.NoEntry "many")) (E_Refused : ErrK K mg "Refused" C.Refused) (i_Refused : ErrI P w K mg base 1 C.Refused P_Refused___init__ (rOneI K C.Refused "deed")) (E_Full : ErrK K mg "Full" C.Full) (i_Full : ErrI P w K mg base 1 C.Full P_Full___init__ (rOneI K C.Full "limit")) (E_IsSlow : ErrK K mg "IsSlow" C.IsSlow) (i_IsSlow : ErrI P w K mg base 1 C.IsSlow P_IsSlow___init__ (rOneI K C.IsSlow "stream")) (E_Broken : ErrK K mg "Broken" C.Broken) (i_Broken : ErrI P w K mg base 1 C.Broken P_Broken___init__ (rOneI K C.Broken "at")) (E_NoCredit : ErrK K mg "NoCredit" C.NoCredit) (i_NoCredit : ErrI P w K mg base 1 C.NoCredit P_NoCredit___init__ (rOneI K C.NoCredit "name")) (E_Unready : ErrK K mg "Unready" C.Unready) (i_Unready : ErrI P w K mg base 1 C.Unready P_Unready___init__ (rOneI K C.Unready "stream")) (E_Narrow : ErrK K mg "Narrow" C.Narrow) (i_Narrow : ErrI P w K mg base 1 C.Narrow P_Narrow___init__ (rOneI K C.Narrow "name")) (E_BadGuide : ErrK K mg "BadGuide" C.BadGuide) (i_BadGuide : ErrI P w K mg base 1 C.BadGuide P_BadGuide___init__ (rOneI K C.BadGuide "name")) (E_Ring : ErrK K mg "Ring" C.Ring) (i_Ring : ErrI P w K mg base 1 C.Ring P_Ring___init__ (rOneI K C.Ring "name")) (E_Unknown : ErrK K mg "Unknown" C.Unknown) (i_Unknown : ErrI P w K mg base 1 C.Unknown P_Unknown___init__ (rOneI K C.Unknown "name")) (E_Twice : ErrK K mg "Twice" C.Twice) (i_Twice : ErrI P w K mg base 1 C.Twice P_Twice___init__ (rOneI K C.Twice "name")) (E_NotPassed : ErrK K mg "NotPassed" C.NotPassed) (i_NotPassed : ErrI P w K mg base 1 C.NotPassed P_NotPassed___init__ (rOneI K C.NotPassed "many")) (E_Overdrawn : ErrK K mg "Overdrawn" C.Overdrawn) (i_Overdrawn : ErrI P w K mg base 1 C.Overdrawn P_Overdrawn___init__ (rOneI K C.Overdrawn "many")) (E_TooMany : ErrK K mg "TooMany" C.TooMany) (i_TooMany : ErrI P w K mg base 1 C.TooMany P_TooMany___init__ (rOneI K C.TooMany "limit")) (E_Wrong : ErrK K mg "Wrong" C.Wrong) (i_Wrong : ErrI P w K mg base 1 C.Wrong P_Wrong___init__ (rOneI K C.Wrong "place")) : FnOk P w K mg base CX0 3 f fd P__law_made (sp_law_made10 K C) := by
  refine F.ok sc__law_made (fun vs H Q E h => ln_law_made10 h) (fun cdv A outer s H vs Q E hr h => ⟨t_law_made10 K C, ?_, rd_law_made10  h⟩)
  exact (pss_cons (ps_set (i := 1) sc__law_made.nd rfl (Or.inl rfl) (pe_lst (pa_cons (pe_mkV E_Wrong i_Wrong hr (pa_cons (pv 0) pa_nil)) (pa_cons (pe_mkV E_TooMany i_TooMany hr (pa_cons (pv 0) pa_nil)) (pa_cons (pe_mkV E_Overdrawn i_Overdrawn hr (pa_cons (pv 0) pa_nil)) (pa_cons (pe_mkV E_NotPassed i_NotPassed hr (pa_cons (pv 0) pa_nil)) (pa_cons (pe_mkV E_Twice i_Twice hr (pa_cons (pv 0) pa_nil)) (pa_cons (pe_mkV E_Unknown i_Unknown hr (pa_cons (pv 0) pa_nil)) pa_nil))))))))
    (pss_cons (ps_set (i := 1) sc__law_made.nd rfl (Or.inl rfl) (pe_op opAdd (pv 1) (pe_lst (pa_cons (pe_mkV E_Ring i_Ring hr (pa_cons (pv 0) pa_nil)) (pa_cons (pe_mkV E_BadGuide i_BadGuide hr (pa_cons (pv 0) pa_nil)) (pa_cons (pe_mkV E_Narrow i_Narrow hr (pa_cons (pv 0) pa_nil)) (pa_cons (pe_mkV E_Unready i_Unready hr (pa_cons (pv 0) pa_nil)) (pa_cons (pe_mkV E_NoCredit i_NoCredit hr (pa_cons (pv 0) pa_nil)) (pa_cons (pe_mkV E_Broken i_Broken hr (pa_cons (pv 0) pa_nil)) pa_nil)))))))))
    (pss_cons (ps_set (i := 1) sc__law_made.nd rfl (Or.inl rfl) (pe_op opAdd (pv 1) (pe_lst (pa_cons (pe_mkV E_IsSlow i_IsSlow hr (pa_cons (pv 0) pa_nil)) (pa_cons (pe_mkV E_Full i_Full hr (pa_cons (pv 0) pa_nil)) (pa_cons (pe_mkV E_Refused i_Refused hr (pa_cons (pv 0) pa_nil)) (pa_cons (pe_mkV E_NoEntry i_NoEntry hr (pa_cons (pv 0) pa_nil)) (pa_cons (pe_mkV0 E_NoStep i_NoStep hr) (pa_cons (pe_mkV0 E_Nothing i_Nothing hr) (pa_cons (pe_mkV0 E_BadSlow i_BadSlow hr) pa_nil))))))))))
    (pss_one (ps_ret (pe_op opAdd (pv 1) (pe_lst (pa_cons (pe_mkV0 E_BadFrame i_BadFrame hr) (pa_cons (pe_mkV0 E_Unlike i_Unlike hr) (pa_cons (pe_mkV0 E_NoDeed i_NoDeed hr) (pa_cons (pe_mkV0 E_NoText i_NoText hr) (pa_cons (pe_mkV0 E_NoCommand i_NoCommand hr) pa_nil))))))))))))
theorem ok__law_take {f : Addr} {fd : FuncData} (F : Fun K "_law_take" "_law_take" s__law_take f fd) (T : Bl mg)   : FnOk P w K mg base CX0 1 f fd P__law_take (sp_law_take K) := by
  refine F.ok sc__law_take (fun vs H Q E h => ln_law_take h) (fun cdv A outer s H vs Q E hr h => ⟨t_law_take K, ?_, rd_law_take  h⟩)
  exact (Evl.pss_cut (ps_if (pt_cmpR (opEq hr.units) (pe_ix ix_seq (pv 0) pe_int (fun _ _ => rfl)) pe_int (nomark _)) (pss_cons (ps_set (i := 2) sc__law_take.nd rfl (Or.inl rfl) pe_int)
    (Evl.pss_cut (ps_if (pt_cmpR opLt (pe_ix ix_seq (pv 0) pe_int (fun _ _ => rfl)) (pe_callB callLen rfl T.b_len Pk.boot_len (pa_cons (pe_ix ix_seq (pv 0) pe_int (fun _ _ => rfl)) pa_nil)) (nomark _)) (pss_one (ps_set (i := 2) sc__law_take.nd rfl (Or.inl rfl) (pe_ix ix_seq (pe_ix ix_seq (pv 0) pe_int (fun _ _ => rfl)) (pe_ix ix_seq (pv 0) pe_int (fun _ _ => rfl)) (fun _ _ => rfl)))) pss_nil)
    (pss_cons (ps_augS (pv 0) pe_int get_list pe_int ip_add set_list)
    (Evl.pss_cut (ps_if (pt_cmpR opGe (pv 2) pe_int (nomark _)) (pss_one (ps_asg (pv 2) (pg_sub (pv 0) pe_int set_list))) pss_nil)
    (pss_cons (ps_set (i := 3) sc__law_take.nd rfl (Or.inl rfl) (pe_op opAdd (pe_op opAdd (pe_op opMul (pe_ix ix_seq (pv 0) pe_int (fun _ _ => rfl)) pe_int) (pe_op opMod (pe_callTy callInt rfl T.b_int Pk.boot_t_int (pa_cons (pv 2) pa_nil)) pe_int)) (pe_op opMul pe_int (pe_ix ix_seq (pv 0) pe_int (fun _ _ => rfl)))))
    (pss_one (ps_asg (pe_op opMod (pe_callTy callInt rfl T.b_int Pk.boot_t_int (pa_cons (pv 3) pa_nil)) pe_int) (pg_sub (pv 0) pe_int set_list)))))))) pss_nil)
    (pss_cons (ps_if (pt_cmpR opGt (pe_ix ix_seq (pv 0) pe_int (fun _ _ => rfl)) pe_int (nomark _)) (pss_cons (ps_set (i := 4) sc__law_take.nd rfl (Or.inl rfl) (pe_op opMod (pe_callTy callInt rfl T.b_int Pk.boot_t_int (pa_cons (pe_ix ix_seq (pv 0) pe_int (fun _ _ => rfl)) pa_nil)) (pv 1)))
    (pss_cons (ps_asg (pe_op opDiv (pe_ix ix_seq (pv 0) pe_int (fun _ _ => rfl)) (pv 1)) (pg_sub (pv 0) pe_int set_list))
    (pss_one (ps_ret (pv 4))))) pss_nil)
    (pss_cons (ps_set (i := 5) sc__law_take.nd rfl (Or.inl rfl) (pe_op opMod (pe_callTy callInt rfl T.b_int Pk.boot_t_int (pa_cons (pe_op opMul (pe_op opAdd (pe_ix ix_seq (pv 0) pe_int (fun _ _ => rfl)) pe_int) pe_int) pa_nil)) pe_int))
    (pss_cons (ps_set (i := 6) sc__law_take.nd rfl (Or.inl rfl) (pe_op opMod (pe_callTy callInt rfl T.b_int Pk.boot_t_int (pa_cons (pe_op opMul (pe_op opMod (pe_callTy callInt rfl T.b_int Pk.boot_t_int (pa_cons (pe_op opMul (pv 5) (pv 5)) pa_nil)) pe_int) pe_int) pa_nil)) pe_int))
    (pss_cons (ps_if (pt_cmpR opGt (pv 1) pe_int (nomark _)) (pss_one (ps_ret (pe_op opMod (pe_callTy callInt rfl T.b_int Pk.boot_t_int (pa_cons (pe_op opAdd (pe_op opMul (pv 6) pe_int) (pv 5)) pa_nil)) (pv 1)))) pss_nil)
    (pss_one (ps_ret (pe_op opMod (pe_callTy callInt rfl T.b_int Pk.boot_t_int (pa_cons (pe_op opDiv (pv 6) pe_int) pa_nil)) (pv 1)))))))))
theorem ok_law {f : Addr} {fd : FuncData} (F : Fun K "law" "law" s_law f fd) (T : Bl mg) (fx_Fx10 : Fx10 K C) (E_PipeError : ErrK K mg "PipeError" C.PipeError) (q_PipeError : PySem.W.excIn K C.PipeError PkX.bmV "ValueError.__new__" = true) (f__law_flags : Cal P w K mg base CX0 1 "_law_flags" P__law_flags [] (sp_law_flags K C)) (f__law_caught : Cal P w K mg base CX0 3 "_law_caught" P__law_caught [] (sp_law_caught K C)) (f__law_kept : Cal P w K mg base CX0 1 "_law_kept" P__law_kept [] (sp_law_kept K C)) (f__law_made : Cal P w K mg base CX0 3 "_law_made" P__law_made [] (sp_law_made10 K C)) (f__law_take : Cal P w K mg base CX0 1 "_law_take" P__law_take [] (sp_law_take K)) (f__law_bag : Cal P w K mg base CX0 1 "_law_bag" P__law_bag [] (sp_law_bag K)) : FnOk P w K mg base CX0 4 f fd P_law (sp_law K) := by
  refine F.ok sc_law (fun vs H Q E h => ln_law h) (fun cdv A outer s H vs Q E hr h => ⟨t_law K C, ?_, rd_law fx_Fx10 h⟩)
  exact (pss_cons (ps_set (i := 1) sc_law.nd rfl (Or.inl rfl) (pe_cal f__law_bag hr pass0 (pa_cons (pv 0) pa_nil)))
    (pss_cons (ps_for PassesOwn.never rfl (pi_range1 rfl T.b_range (pa_cons pe_int pa_nil)) (pg_name (i := 2) sc_law.nd rfl (Or.inl rfl)) (pss_cons (ps_set (i := 3) sc_law.nd rfl (Or.inl rfl) (pe_cal f__law_take hr pass0 (pa_cons (pv 1) (pa_cons (pe_op opPow pe_int pe_int) pa_nil))))
    (pss_cons (ps_set (i := 4) sc_law.nd rfl (Or.inl rfl) (pe_ix ix_seq (pe_lst (pa_cons (pv 3) (pa_cons pe_str (pa_cons pe_non (pa_cons (pe_lst (pa_cons (pv 3) pa_nil)) (pa_cons (pe_tup (pa_cons pe_str (pa_cons (pv 3) pa_nil))) (pa_cons pe_dnewK pa_nil))))))) (pe_cal f__law_take hr pass0 (pa_cons (pv 1) (pa_cons pe_int pa_nil))) (fun _ _ => rfl)))
    (pss_cons (ps_for PassesOwn.never rfl (pi_tup (pe_tup (pa_cons (pv 4) (pa_cons (pe_lst (pa_cons (pv 3) pa_nil)) pa_nil)))) (pg_name (i := 5) sc_law.nd rfl (Or.inr rfl)) (pss_cons (ps_set (i := 6) sc_law.nd rfl (Or.inl rfl) (pe_cal f__law_made hr pass0 (pa_cons (pv 5) pa_nil)))
    (pss_cons (ps_if (pt_cmpR (opNe hr.units) (pe_lc (own := [("_law_found", 9)]) (g := (gName 9)) (tt := tYes) rfl sc_law.nd (pi_list (pe_cal f__law_kept hr pass0 (pa_cons (pv 6) pa_nil))) (blkOk_by (N := N_law) (own := [("_law_found", 9)]) (sc := defScope s_law) (by decide +kernel)) (fun _ _ _ _ _ => (pg_name (i := 9) sc_law.nd rfl (Or.inl rfl))) (fun _ _ _ _ _ => pts_nil) (fun _ _ _ _ _ => (pe_cmpR (or2 (opEq hr.units) (op_eq_dict (Nat.lt_of_succ_lt (hu_of hr)))) (pv 9) (pv 5) (nomark _)))) (pe_op opMul (pe_lst (pa_cons pe_bl pa_nil)) pe_int) (nomark _)) (pss_one (ps_ret pe_bl)) pss_nil)
    (Evl.pss_cut (ps_if (pt_val (pe_callB call_isi rfl T.b_isinstance Pk.boot_isinstance (pa_cons (pv 5) (pa_cons (pe_bltn (v := .ty "list") rfl T.b_list Pk.boot_t_list rfl) pa_nil)))) (pss_cons (ps_expr (pe_bm PySem.F.plainAttrs_list PySem.F.slot_list_append PySem.F.type_list_append mt_append (pv 5) (pa_cons (pe_op opAdd (pv 3) pe_int) pa_nil)))
    (pss_one (ps_if (pt_cmpR (opNe hr.units) (pe_lc (own := [("_law_found", 9)]) (g := (gName 9)) (tt := tYes) rfl sc_law.nd (pi_list (pe_cal f__law_kept hr pass0 (pa_cons (pv 6) pa_nil))) (blkOk_by (N := N_law) (own := [("_law_found", 9)]) (sc := defScope s_law) (by decide +kernel)) (fun _ _ _ _ _ => (pg_name (i := 9) sc_law.nd rfl (Or.inl rfl))) (fun _ _ _ _ _ => pts_nil) (fun _ _ _ _ _ => (pe_cmpR (or2 (opEq hr.units) (op_eq_dict (Nat.lt_of_succ_lt (hu_of hr)))) (pv 9) (pv 5) (nomark _)))) (pe_op opMul (pe_lst (pa_cons pe_bl pa_nil)) pe_int) (nomark _)) (pss_one (ps_ret pe_bl)) pss_nil))) pss_nil)
    (pss_cons (ps_for PassesOwn.never rfl (pi_range1 rfl T.b_range (pa_cons pe_int pa_nil)) (pg_name (i := 7) sc_law.nd rfl (Or.inr rfl)) (pss_cons (ps_set (i := 8) sc_law.nd rfl (Or.inl rfl) (pe_ix ix_seq (pv 6) (pv 7) (fun _ _ => rfl)))
    (pss_cons (ps_if (PW.pt (pw_or (pt_not (pt_val (pe_callB call_isiE rfl T.b_isinstance Pk.boot_isinstance (pa_cons (pv 8) (pa_cons (pe_glob rfl E_PipeError.at_ rfl) pa_nil))))) (pw_or1 (pt_not (pt_val (pe_callB call_isiE rfl T.b_isinstance Pk.boot_isinstance (pa_cons (pv 8) (pa_cons (pe_bltn (v := .ty "ValueError") rfl T.b_ValueError Pk.boot_t_ValueError rfl) pa_nil)))))))) (pss_one (ps_ret pe_bl)) pss_nil)
    (pss_one (ps_if (pt_cmpR (opNe hr.units) (pe_cal f__law_flags hr pass0 (pa_cons (pv 8) pa_nil)) (pe_lc (own := [("_law_j", 10)]) (g := (gName 10)) (tt := tYes) rfl sc_law.nd (pi_range1 rfl T.b_range (pa_cons pe_int pa_nil)) (blkOk_by (N := N_law) (own := [("_law_j", 10)]) (sc := defScope s_law) (by decide +kernel)) (fun _ _ _ _ _ => (pg_name (i := 10) sc_law.nd rfl (Or.inl rfl))) (fun _ _ _ _ _ => pts_nil) (fun _ _ _ _ _ => (pe_cmpR (opEq hr.units) (pv 10) (pv 7) (nomark _)))) (nomark _)) (pss_one (ps_ret pe_bl)) pss_nil)))))
    (pss_one (ps_if (pt_cmpR (opNe hr.units) (pe_lc (own := [("_law_k", 7)]) (g := (gName 7)) (tt := tYes) rfl sc_law.nd (pi_range1 rfl T.b_range (pa_cons pe_int pa_nil)) (blkOk_by (N := N_law) (own := [("_law_k", 7)]) (sc := defScope s_law) (by decide +kernel)) (fun _ _ _ _ _ => (pg_name (i := 7) sc_law.nd rfl (Or.inl rfl))) (fun _ _ _ _ _ => pts_nil) (fun _ _ _ _ _ => (pe_cal f__law_caught hr pass0 (pa_cons (pv 7) (pa_cons (pv 5) pa_nil))))) (pe_op opMul (pe_lst (pa_cons pe_bl pa_nil)) pe_int) (nomark _)) (pss_one (ps_ret pe_bl)) pss_nil)))))))
    (pss_one (ps_if (PW.pt (pw_or (pt_cmpR (opNe hr.units) (pe_cal f__law_flags hr pass0 (pa_cons (pe_exc1 PySem.F.excBase_ValueError q_PipeError E_PipeError.at_ E_PipeError.oex.kC rfl pe_str) pa_nil)) (pe_op opMul (pe_lst (pa_cons pe_bl pa_nil)) pe_int) (nomark _)) (pw_or1 (pt_not (pt_val (pe_callB call_isiE rfl T.b_isinstance Pk.boot_isinstance (pa_cons (pe_exc0 PySem.F.excBase_ValueError q_PipeError E_PipeError.at_ E_PipeError.oex.kC) (pa_cons (pe_bltn (v := .ty "ValueError") rfl T.b_ValueError Pk.boot_t_ValueError rfl) pa_nil)))))))) (pss_one (ps_ret pe_bl)) pss_nil))))))
    (pss_one (ps_ret pe_bl))))
end
theorem kit_false {K : PySem.W.Frag} {D C : Addr} (hd : PySem.W.hasDictIn K C = true) (ty : PySem.W.typeIn K (.ref C) = some (.type "type")) (s : PySem.W.subIn K (.ref D) (.ref C) = some false) (r : PySem.W.subIn K (.ref D) (.ref D) = some true) :
    PySem.W.kitOne K (.ref D) (.ref C) = some false := by
  have ne : D ≠ C := fun e => by
    subst e
    rw [s] at r
    cases r
  have ne2 : ((Value.ref D) == Value.ref C) = false := beq_eq_false_iff_ne.mpr fun e => ne (Value.ref.inj e)
  obtain ⟨cd, hc, _⟩ := PySem.W.any_some hd
  unfold PySem.W.kitOne
  rw [ne2, if_neg (by decide)]
  unfold PySem.W.kitCls
  dsimp only
  rw [hc, ty]
  exact s
theorem all_mk {l : PySem.W.OpenLaw} {w : World} {K : PySem.W.Frag} {h : Heap} {mg : Str → Option Value} {fa : Addr} (X : K.In h) (G : h.Ns mainGlobals mg) (hfa : mg "law" = some (.ref fa))
    {c_BadFrame : Addr} {nmBadFrame qnBadFrame : Str} {NBadFrame : Addr} {bsBadFrame : List Value} {snBadFrame : List Str} {sbBadFrame : List Value} {abBadFrame : Bool} {coBadFrame : Option Bool} {ddBadFrame : Option Addr} {m0BadFrame m1BadFrame m2BadFrame m3BadFrame m5BadFrame : Option Value}
    {c_BadGuide : Addr} {nmBadGuide qnBadGuide : Str} {NBadGuide : Addr} {bsBadGuide : List Value} {snBadGuide : List Str} {sbBadGuide : List Value} {abBadGuide : Bool} {coBadGuide : Option Bool} {ddBadGuide : Option Addr} {m0BadGuide m1BadGuide m2BadGuide m3BadGuide m5BadGuide : Option Value}
    {c_BadSlow : Addr} {nmBadSlow qnBadSlow : Str} {NBadSlow : Addr} {bsBadSlow : List Value} {snBadSlow : List Str} {sbBadSlow : List Value} {abBadSlow : Bool} {coBadSlow : Option Bool} {ddBadSlow : Option Addr} {m0BadSlow m1BadSlow m2BadSlow m3BadSlow m5BadSlow : Option Value}
    {c_Broken : Addr} {nmBroken qnBroken : Str} {NBroken : Addr} {bsBroken : List Value} {snBroken : List Str} {sbBroken : List Value} {abBroken : Bool} {coBroken : Option Bool} {ddBroken : Option Addr} {m0Broken m1Broken m2Broken m3Broken m5Broken : Option Value}
    {c_Full : Addr} {nmFull qnFull : Str} {NFull : Addr} {bsFull : List Value} {snFull : List Str} {sbFull : List Value} {abFull : Bool} {coFull : Option Bool} {ddFull : Option Addr} {m0Full m1Full m2Full m3Full m5Full : Option Value}
    {c_IsSlow : Addr} {nmIsSlow qnIsSlow : Str} {NIsSlow : Addr} {bsIsSlow : List Value} {snIsSlow : List Str} {sbIsSlow : List Value} {abIsSlow : Bool} {coIsSlow : Option Bool} {ddIsSlow : Option Addr} {m0IsSlow m1IsSlow m2IsSlow m3IsSlow m5IsSlow : Option Value}
    {c_Narrow : Addr} {nmNarrow qnNarrow : Str} {NNarrow : Addr} {bsNarrow : List Value} {snNarrow : List Str} {sbNarrow : List Value} {abNarrow : Bool} {coNarrow : Option Bool} {ddNarrow : Option Addr} {m0Narrow m1Narrow m2Narrow m3Narrow m5Narrow : Option Value}
    {c_NoCommand : Addr} {nmNoCommand qnNoCommand : Str} {NNoCommand : Addr} {bsNoCommand : List Value} {snNoCommand : List Str} {sbNoCommand : List Value} {abNoCommand : Bool} {coNoCommand : Option Bool} {ddNoCommand : Option Addr} {m0NoCommand m1NoCommand m2NoCommand m3NoCommand m5NoCommand : Option Value}
    {c_NoCredit : Addr} {nmNoCredit qnNoCredit : Str} {NNoCredit : Addr} {bsNoCredit : List Value} {snNoCredit : List Str} {sbNoCredit : List Value} {abNoCredit : Bool} {coNoCredit : Option Bool} {ddNoCredit : Option Addr} {m0NoCredit m1NoCredit m2NoCredit m3NoCredit m5NoCredit : Option Value}
    {c_NoDeed : Addr} {nmNoDeed qnNoDeed : Str} {NNoDeed : Addr} {bsNoDeed : List Value} {snNoDeed : List Str} {sbNoDeed : List Value} {abNoDeed : Bool} {coNoDeed : Option Bool} {ddNoDeed : Option Addr} {m0NoDeed m1NoDeed m2NoDeed m3NoDeed m5NoDeed : Option Value}
    {c_NoEntry : Addr} {nmNoEntry qnNoEntry : Str} {NNoEntry : Addr} {bsNoEntry : List Value} {snNoEntry : List Str} {sbNoEntry : List Value} {abNoEntry : Bool} {coNoEntry : Option Bool} {ddNoEntry : Option Addr} {m0NoEntry m1NoEntry m2NoEntry m3NoEntry m5NoEntry : Option Value}
    {c_NoStep : Addr} {nmNoStep qnNoStep : Str} {NNoStep : Addr} {bsNoStep : List Value} {snNoStep : List Str} {sbNoStep : List Value} {abNoStep : Bool} {coNoStep : Option Bool} {ddNoStep : Option Addr} {m0NoStep m1NoStep m2NoStep m3NoStep m5NoStep : Option Value}
    {c_NoText : Addr} {nmNoText qnNoText : Str} {NNoText : Addr} {bsNoText : List Value} {snNoText : List Str} {sbNoText : List Value} {abNoText : Bool} {coNoText : Option Bool} {ddNoText : Option Addr} {m0NoText m1NoText m2NoText m3NoText m5NoText : Option Value}
    {c_NotPassed : Addr} {nmNotPassed qnNotPassed : Str} {NNotPassed : Addr} {bsNotPassed : List Value} {snNotPassed : List Str} {sbNotPassed : List Value} {abNotPassed : Bool} {coNotPassed : Option Bool} {ddNotPassed : Option Addr} {m0NotPassed m1NotPassed m2NotPassed m3NotPassed m5NotPassed : Option Value}
    {c_Nothing : Addr} {nmNothing qnNothing : Str} {NNothing : Addr} {bsNothing : List Value} {snNothing : List Str} {sbNothing : List Value} {abNothing : Bool} {coNothing : Option Bool} {ddNothing : Option Addr} {m0Nothing m1Nothing m2Nothing m3Nothing m5Nothing : Option Value}
    {c_Overdrawn : Addr} {nmOverdrawn qnOverdrawn : Str} {NOverdrawn : Addr} {bsOverdrawn : List Value} {snOverdrawn : List Str} {sbOverdrawn : List Value} {abOverdrawn : Bool} {coOverdrawn : Option Bool} {ddOverdrawn : Option Addr} {m0Overdrawn m1Overdrawn m2Overdrawn m3Overdrawn m5Overdrawn : Option Value}
    {c_PipeError : Addr} {nmPipeError qnPipeError : Str} {NPipeError : Addr} {bsPipeError : List Value} {snPipeError : List Str} {sbPipeError : List Value} {abPipeError : Bool} {coPipeError : Option Bool} {ddPipeError : Option Addr} {m0PipeError m1PipeError m2PipeError m3PipeError m5PipeError : Option Value}
    {c_Refused : Addr} {nmRefused qnRefused : Str} {NRefused : Addr} {bsRefused : List Value} {snRefused : List Str} {sbRefused : List Value} {abRefused : Bool} {coRefused : Option Bool} {ddRefused : Option Addr} {m0Refused m1Refused m2Refused m3Refused m5Refused : Option Value}
    {c_Ring : Addr} {nmRing qnRing : Str} {NRing : Addr} {bsRing : List Value} {snRing : List Str} {sbRing : List Value} {abRing : Bool} {coRing : Option Bool} {ddRing : Option Addr} {m0Ring m1Ring m2Ring m3Ring m5Ring : Option Value}
    {c_TooMany : Addr} {nmTooMany qnTooMany : Str} {NTooMany : Addr} {bsTooMany : List Value} {snTooMany : List Str} {sbTooMany : List Value} {abTooMany : Bool} {coTooMany : Option Bool} {ddTooMany : Option Addr} {m0TooMany m1TooMany m2TooMany m3TooMany m5TooMany : Option Value}
    {c_Twice : Addr} {nmTwice qnTwice : Str} {NTwice : Addr} {bsTwice : List Value} {snTwice : List Str} {sbTwice : List Value} {abTwice : Bool} {coTwice : Option Bool} {ddTwice : Option Addr} {m0Twice m1Twice m2Twice m3Twice m5Twice : Option Value}
    {c_Unknown : Addr} {nmUnknown qnUnknown : Str} {NUnknown : Addr} {bsUnknown : List Value} {snUnknown : List Str} {sbUnknown : List Value} {abUnknown : Bool} {coUnknown : Option Bool} {ddUnknown : Option Addr} {m0Unknown m1Unknown m2Unknown m3Unknown m5Unknown : Option Value}
    {c_Unlike : Addr} {nmUnlike qnUnlike : Str} {NUnlike : Addr} {bsUnlike : List Value} {snUnlike : List Str} {sbUnlike : List Value} {abUnlike : Bool} {coUnlike : Option Bool} {ddUnlike : Option Addr} {m0Unlike m1Unlike m2Unlike m3Unlike m5Unlike : Option Value}
    {c_Unready : Addr} {nmUnready qnUnready : Str} {NUnready : Addr} {bsUnready : List Value} {snUnready : List Str} {sbUnready : List Value} {abUnready : Bool} {coUnready : Option Bool} {ddUnready : Option Addr} {m0Unready m1Unready m2Unready m3Unready m5Unready : Option Value}
    {c_Wrong : Addr} {nmWrong qnWrong : Str} {NWrong : Addr} {bsWrong : List Value} {snWrong : List Str} {sbWrong : List Value} {abWrong : Bool} {coWrong : Option Bool} {ddWrong : Option Addr} {m0Wrong m1Wrong m2Wrong m3Wrong m5Wrong : Option Value}
    {f0 : Addr} {od0 an0 : Option Addr} {oc0 kV0 dc0 pm0 cd0 ct0 : Value} {sl0 : Array (Option Value)}
    {f1 : Addr} {od1 an1 : Option Addr} {oc1 kV1 dc1 pm1 ct1 : Value} {sl1 : Array (Option Value)}
    {cc1 cda1 : Addr} {ccl1 cclB1 : Value} {cdd1 ccd1 : Option Addr} {ccs1 ccsB1 : Array (Option Value)} {va1 : Array Value} {fi1 : Str} {tf1 : Tok}
    {f2 : Addr} {od2 an2 : Option Addr} {oc2 kV2 dc2 pm2 cd2 ct2 : Value} {sl2 : Array (Option Value)}
    {f3 : Addr} {od3 an3 : Option Addr} {oc3 kV3 dc3 pm3 cd3 ct3 : Value} {sl3 : Array (Option Value)}
    {f4 : Addr} {od4 an4 : Option Addr} {oc4 kV4 dc4 pm4 cd4 ct4 : Value} {sl4 : Array (Option Value)}
    {f5 : Addr} {od5 an5 : Option Addr} {oc5 kV5 dc5 pm5 cd5 ct5 : Value} {sl5 : Array (Option Value)}
    {f6 : Addr} {od6 an6 : Option Addr} {oc6 kV6 dc6 pm6 ct6 : Value} {sl6 : Array (Option Value)}
    {cc6 cda6 : Addr} {ccl6 cclB6 : Value} {cdd6 ccd6 : Option Addr} {ccs6 ccsB6 : Array (Option Value)} {va6 : Array Value} {fi6 : Str} {tf6 : Tok}
    {f7 : Addr} {od7 an7 : Option Addr} {oc7 kV7 dc7 pm7 cd7 ct7 : Value} {sl7 : Array (Option Value)}
    {f8 : Addr} {od8 an8 : Option Addr} {oc8 kV8 dc8 pm8 ct8 : Value} {sl8 : Array (Option Value)}
    {cc8 cda8 : Addr} {ccl8 cclB8 : Value} {cdd8 ccd8 : Option Addr} {ccs8 ccsB8 : Array (Option Value)} {va8 : Array Value} {fi8 : Str} {tf8 : Tok}
    {f9 : Addr} {od9 an9 : Option Addr} {oc9 kV9 dc9 pm9 cd9 ct9 : Value} {sl9 : Array (Option Value)}
    {f10 : Addr} {od10 an10 : Option Addr} {oc10 kV10 dc10 pm10 cd10 ct10 : Value} {sl10 : Array (Option Value)}
    {f11 : Addr} {od11 an11 : Option Addr} {oc11 kV11 dc11 pm11 cd11 ct11 : Value} {sl11 : Array (Option Value)}
    {f12 : Addr} {od12 an12 : Option Addr} {oc12 kV12 dc12 pm12 cd12 ct12 : Value} {sl12 : Array (Option Value)}
    {f13 : Addr} {od13 an13 : Option Addr} {oc13 kV13 dc13 pm13 ct13 : Value} {sl13 : Array (Option Value)}
    {cc13 cda13 : Addr} {ccl13 cclB13 : Value} {cdd13 ccd13 : Option Addr} {ccs13 ccsB13 : Array (Option Value)} {va13 : Array Value} {fi13 : Str} {tf13 : Tok}
    {f14 : Addr} {od14 an14 : Option Addr} {oc14 kV14 dc14 pm14 cd14 ct14 : Value} {sl14 : Array (Option Value)}
    {f15 : Addr} {od15 an15 : Option Addr} {oc15 kV15 dc15 pm15 ct15 : Value} {sl15 : Array (Option Value)}
    {cc15 cda15 : Addr} {ccl15 cclB15 : Value} {cdd15 ccd15 : Option Addr} {ccs15 ccsB15 : Array (Option Value)} {va15 : Array Value} {fi15 : Str} {tf15 : Tok}
    {f16 : Addr} {od16 an16 : Option Addr} {oc16 kV16 dc16 pm16 cd16 ct16 : Value} {sl16 : Array (Option Value)}
    {f17 : Addr} {od17 an17 : Option Addr} {oc17 kV17 dc17 pm17 ct17 : Value} {sl17 : Array (Option Value)}
    {cc17 cda17 : Addr} {ccl17 cclB17 : Value} {cdd17 ccd17 : Option Addr} {ccs17 ccsB17 : Array (Option Value)} {va17 : Array Value} {fi17 : Str} {tf17 : Tok}
    {f18 : Addr} {od18 an18 : Option Addr} {oc18 kV18 dc18 pm18 cd18 ct18 : Value} {sl18 : Array (Option Value)}
    {f19 : Addr} {od19 an19 : Option Addr} {oc19 kV19 dc19 pm19 ct19 : Value} {sl19 : Array (Option Value)}
    {cc19 cda19 : Addr} {ccl19 cclB19 : Value} {cdd19 ccd19 : Option Addr} {ccs19 ccsB19 : Array (Option Value)} {va19 : Array Value} {fi19 : Str} {tf19 : Tok}
    {f20 : Addr} {od20 an20 : Option Addr} {oc20 kV20 dc20 pm20 cd20 ct20 : Value} {sl20 : Array (Option Value)}
    {f21 : Addr} {od21 an21 : Option Addr} {oc21 kV21 dc21 pm21 cd21 ct21 : Value} {sl21 : Array (Option Value)}
    {f22 : Addr} {od22 an22 : Option Addr} {oc22 kV22 dc22 pm22 cd22 ct22 : Value} {sl22 : Array (Option Value)}
    {f23 : Addr} {od23 an23 : Option Addr} {oc23 kV23 dc23 pm23 cd23 ct23 : Value} {sl23 : Array (Option Value)}
    {f24 : Addr} {od24 an24 : Option Addr} {oc24 kV24 dc24 pm24 cd24 ct24 : Value} {sl24 : Array (Option Value)}
    {f25 : Addr} {od25 an25 : Option Addr} {oc25 kV25 dc25 pm25 cd25 ct25 : Value} {sl25 : Array (Option Value)}
    {f26 : Addr} {od26 an26 : Option Addr} {oc26 kV26 dc26 pm26 ct26 : Value} {sl26 : Array (Option Value)}
    {cc26 cda26 : Addr} {ccl26 cclB26 : Value} {cdd26 ccd26 : Option Addr} {ccs26 ccsB26 : Array (Option Value)} {va26 : Array Value} {fi26 : Str} {tf26 : Tok}
    {f27 : Addr} {od27 an27 : Option Addr} {oc27 kV27 dc27 pm27 cd27 ct27 : Value} {sl27 : Array (Option Value)}
    {f28 : Addr} {od28 an28 : Option Addr} {oc28 kV28 dc28 pm28 cd28 ct28 : Value} {sl28 : Array (Option Value)}
    {f29 : Addr} {od29 an29 : Option Addr} {oc29 kV29 dc29 pm29 cd29 ct29 : Value} {sl29 : Array (Option Value)}
    {f30 : Addr} {od30 an30 : Option Addr} {oc30 kV30 dc30 pm30 cd30 ct30 : Value} {sl30 : Array (Option Value)}
    (aC_BadFrame : PySem.W.nsIn K mainGlobals "BadFrame" = some (some (.ref c_BadFrame)))
    (kl_BadFrame : K.lookup c_BadFrame = some (excClassObj nmBadFrame qnBadFrame c_BadFrame NBadFrame bsBadFrame [.ref c_PipeError, .type "ValueError", .type "Exception", .type "BaseException", .type "object"] true snBadFrame sbBadFrame abBadFrame coBadFrame ddBadFrame m0BadFrame m1BadFrame m2BadFrame m3BadFrame m5BadFrame "ValueError.__new__"))
    (sa_BadFrame : PySem.W.findIn K (.ref c_BadFrame) "__setattr__" = some (some (.builtin "object.__setattr__")))
    (ex_BadFrame : PySem.W.subIn K (.ref c_BadFrame) (.type "BaseException") = some true)
    (ty_BadFrame : PySem.W.typeIn K (.ref c_BadFrame) = some (.type "type"))
    (kc_BadFrame : PySem.W.keepIn K (.ref c_BadFrame) = true)
    (hd_BadFrame : PySem.W.hasDictIn K c_BadFrame = true)
    (ga_BadFrame : PySem.W.findIn K (.ref c_BadFrame) "__getattribute__" = some (some (.builtin "BaseException.__getattribute__")))
    (gg_BadFrame : PySem.W.findIn K (.ref c_BadFrame) "__getattr__" = some none)
    (ha_BadFrame : PySem.W.findIn K (.ref c_BadFrame) "__class__" = some (some (.builtin "object.__class__")))
    (hn_BadFrame : PySem.W.specialIn K (.builtin "object.__class__") "__get__" = some (some (.builtin "getset_descriptor.__get__")))
    (ht_BadFrame : PySem.W.takesIn K (.builtin "object.__class__") = some true)
    (hm_BadFrame : PySem.W.mroIn K c_BadFrame (.type "object") = some true)
    (su_BadFrame : PySem.W.subIn K (.ref c_BadFrame) (.ref c_PipeError) = some true)
    (aC_BadGuide : PySem.W.nsIn K mainGlobals "BadGuide" = some (some (.ref c_BadGuide)))
    (kl_BadGuide : K.lookup c_BadGuide = some (excClassObj nmBadGuide qnBadGuide c_BadGuide NBadGuide bsBadGuide [.ref c_PipeError, .type "ValueError", .type "Exception", .type "BaseException", .type "object"] true snBadGuide sbBadGuide abBadGuide coBadGuide ddBadGuide m0BadGuide m1BadGuide m2BadGuide m3BadGuide m5BadGuide "ValueError.__new__"))
    (sa_BadGuide : PySem.W.findIn K (.ref c_BadGuide) "__setattr__" = some (some (.builtin "object.__setattr__")))
    (ex_BadGuide : PySem.W.subIn K (.ref c_BadGuide) (.type "BaseException") = some true)
    (ty_BadGuide : PySem.W.typeIn K (.ref c_BadGuide) = some (.type "type"))
    (kc_BadGuide : PySem.W.keepIn K (.ref c_BadGuide) = true)
    (hd_BadGuide : PySem.W.hasDictIn K c_BadGuide = true)
    (ga_BadGuide : PySem.W.findIn K (.ref c_BadGuide) "__getattribute__" = some (some (.builtin "BaseException.__getattribute__")))
    (gg_BadGuide : PySem.W.findIn K (.ref c_BadGuide) "__getattr__" = some none)
    (ha_BadGuide : PySem.W.findIn K (.ref c_BadGuide) "__class__" = some (some (.builtin "object.__class__")))
    (hn_BadGuide : PySem.W.specialIn K (.builtin "object.__class__") "__get__" = some (some (.builtin "getset_descriptor.__get__")))
    (ht_BadGuide : PySem.W.takesIn K (.builtin "object.__class__") = some true)
    (hm_BadGuide : PySem.W.mroIn K c_BadGuide (.type "object") = some true)
    (nf_BadGuide : PySem.W.findIn K (.ref c_BadGuide) "name" = some none)
    (su_BadGuide : PySem.W.subIn K (.ref c_BadGuide) (.ref c_PipeError) = some true)
    (aC_BadSlow : PySem.W.nsIn K mainGlobals "BadSlow" = some (some (.ref c_BadSlow)))
    (kl_BadSlow : K.lookup c_BadSlow = some (excClassObj nmBadSlow qnBadSlow c_BadSlow NBadSlow bsBadSlow [.ref c_PipeError, .type "ValueError", .type "Exception", .type "BaseException", .type "object"] true snBadSlow sbBadSlow abBadSlow coBadSlow ddBadSlow m0BadSlow m1BadSlow m2BadSlow m3BadSlow m5BadSlow "ValueError.__new__"))
    (sa_BadSlow : PySem.W.findIn K (.ref c_BadSlow) "__setattr__" = some (some (.builtin "object.__setattr__")))
    (ex_BadSlow : PySem.W.subIn K (.ref c_BadSlow) (.type "BaseException") = some true)
    (ty_BadSlow : PySem.W.typeIn K (.ref c_BadSlow) = some (.type "type"))
    (kc_BadSlow : PySem.W.keepIn K (.ref c_BadSlow) = true)
    (hd_BadSlow : PySem.W.hasDictIn K c_BadSlow = true)
    (ga_BadSlow : PySem.W.findIn K (.ref c_BadSlow) "__getattribute__" = some (some (.builtin "BaseException.__getattribute__")))
    (gg_BadSlow : PySem.W.findIn K (.ref c_BadSlow) "__getattr__" = some none)
    (ha_BadSlow : PySem.W.findIn K (.ref c_BadSlow) "__class__" = some (some (.builtin "object.__class__")))
    (hn_BadSlow : PySem.W.specialIn K (.builtin "object.__class__") "__get__" = some (some (.builtin "getset_descriptor.__get__")))
    (ht_BadSlow : PySem.W.takesIn K (.builtin "object.__class__") = some true)
    (hm_BadSlow : PySem.W.mroIn K c_BadSlow (.type "object") = some true)
    (su_BadSlow : PySem.W.subIn K (.ref c_BadSlow) (.ref c_PipeError) = some true)
    (aC_Broken : PySem.W.nsIn K mainGlobals "Broken" = some (some (.ref c_Broken)))
    (kl_Broken : K.lookup c_Broken = some (excClassObj nmBroken qnBroken c_Broken NBroken bsBroken [.ref c_PipeError, .type "ValueError", .type "Exception", .type "BaseException", .type "object"] true snBroken sbBroken abBroken coBroken ddBroken m0Broken m1Broken m2Broken m3Broken m5Broken "ValueError.__new__"))
    (sa_Broken : PySem.W.findIn K (.ref c_Broken) "__setattr__" = some (some (.builtin "object.__setattr__")))
    (ex_Broken : PySem.W.subIn K (.ref c_Broken) (.type "BaseException") = some true)
    (ty_Broken : PySem.W.typeIn K (.ref c_Broken) = some (.type "type"))
    (kc_Broken : PySem.W.keepIn K (.ref c_Broken) = true)
    (hd_Broken : PySem.W.hasDictIn K c_Broken = true)
    (ga_Broken : PySem.W.findIn K (.ref c_Broken) "__getattribute__" = some (some (.builtin "BaseException.__getattribute__")))
    (gg_Broken : PySem.W.findIn K (.ref c_Broken) "__getattr__" = some none)
    (ha_Broken : PySem.W.findIn K (.ref c_Broken) "__class__" = some (some (.builtin "object.__class__")))
    (hn_Broken : PySem.W.specialIn K (.builtin "object.__class__") "__get__" = some (some (.builtin "getset_descriptor.__get__")))
    (ht_Broken : PySem.W.takesIn K (.builtin "object.__class__") = some true)
    (hm_Broken : PySem.W.mroIn K c_Broken (.type "object") = some true)
    (nf_Broken : PySem.W.findIn K (.ref c_Broken) "at" = some none)
    (su_Broken : PySem.W.subIn K (.ref c_Broken) (.ref c_PipeError) = some true)
    (aC_Full : PySem.W.nsIn K mainGlobals "Full" = some (some (.ref c_Full)))
    (kl_Full : K.lookup c_Full = some (excClassObj nmFull qnFull c_Full NFull bsFull [.ref c_PipeError, .type "ValueError", .type "Exception", .type "BaseException", .type "object"] true snFull sbFull abFull coFull ddFull m0Full m1Full m2Full m3Full m5Full "ValueError.__new__"))
    (sa_Full : PySem.W.findIn K (.ref c_Full) "__setattr__" = some (some (.builtin "object.__setattr__")))
    (ex_Full : PySem.W.subIn K (.ref c_Full) (.type "BaseException") = some true)
    (ty_Full : PySem.W.typeIn K (.ref c_Full) = some (.type "type"))
    (kc_Full : PySem.W.keepIn K (.ref c_Full) = true)
    (hd_Full : PySem.W.hasDictIn K c_Full = true)
    (ga_Full : PySem.W.findIn K (.ref c_Full) "__getattribute__" = some (some (.builtin "BaseException.__getattribute__")))
    (gg_Full : PySem.W.findIn K (.ref c_Full) "__getattr__" = some none)
    (ha_Full : PySem.W.findIn K (.ref c_Full) "__class__" = some (some (.builtin "object.__class__")))
    (hn_Full : PySem.W.specialIn K (.builtin "object.__class__") "__get__" = some (some (.builtin "getset_descriptor.__get__")))
    (ht_Full : PySem.W.takesIn K (.builtin "object.__class__") = some true)
    (hm_Full : PySem.W.mroIn K c_Full (.type "object") = some true)
    (nf_Full : PySem.W.findIn K (.ref c_Full) "limit" = some none)
    (su_Full : PySem.W.subIn K (.ref c_Full) (.ref c_PipeError) = some true)
    (aC_IsSlow : PySem.W.nsIn K mainGlobals "IsSlow" = some (some (.ref c_IsSlow)))
    (kl_IsSlow : K.lookup c_IsSlow = some (excClassObj nmIsSlow qnIsSlow c_IsSlow NIsSlow bsIsSlow [.ref c_PipeError, .type "ValueError", .type "Exception", .type "BaseException", .type "object"] true snIsSlow sbIsSlow abIsSlow coIsSlow ddIsSlow m0IsSlow m1IsSlow m2IsSlow m3IsSlow m5IsSlow "ValueError.__new__"))
    (sa_IsSlow : PySem.W.findIn K (.ref c_IsSlow) "__setattr__" = some (some (.builtin "object.__setattr__")))
    (ex_IsSlow : PySem.W.subIn K (.ref c_IsSlow) (.type "BaseException") = some true)
    (ty_IsSlow : PySem.W.typeIn K (.ref c_IsSlow) = some (.type "type"))
    (kc_IsSlow : PySem.W.keepIn K (.ref c_IsSlow) = true)
    (hd_IsSlow : PySem.W.hasDictIn K c_IsSlow = true)
    (ga_IsSlow : PySem.W.findIn K (.ref c_IsSlow) "__getattribute__" = some (some (.builtin "BaseException.__getattribute__")))
    (gg_IsSlow : PySem.W.findIn K (.ref c_IsSlow) "__getattr__" = some none)
    (ha_IsSlow : PySem.W.findIn K (.ref c_IsSlow) "__class__" = some (some (.builtin "object.__class__")))
    (hn_IsSlow : PySem.W.specialIn K (.builtin "object.__class__") "__get__" = some (some (.builtin "getset_descriptor.__get__")))
    (ht_IsSlow : PySem.W.takesIn K (.builtin "object.__class__") = some true)
    (hm_IsSlow : PySem.W.mroIn K c_IsSlow (.type "object") = some true)
    (nf_IsSlow : PySem.W.findIn K (.ref c_IsSlow) "stream" = some none)
    (su_IsSlow : PySem.W.subIn K (.ref c_IsSlow) (.ref c_PipeError) = some true)
    (aC_Narrow : PySem.W.nsIn K mainGlobals "Narrow" = some (some (.ref c_Narrow)))
    (kl_Narrow : K.lookup c_Narrow = some (excClassObj nmNarrow qnNarrow c_Narrow NNarrow bsNarrow [.ref c_PipeError, .type "ValueError", .type "Exception", .type "BaseException", .type "object"] true snNarrow sbNarrow abNarrow coNarrow ddNarrow m0Narrow m1Narrow m2Narrow m3Narrow m5Narrow "ValueError.__new__"))
    (sa_Narrow : PySem.W.findIn K (.ref c_Narrow) "__setattr__" = some (some (.builtin "object.__setattr__")))
    (ex_Narrow : PySem.W.subIn K (.ref c_Narrow) (.type "BaseException") = some true)
    (ty_Narrow : PySem.W.typeIn K (.ref c_Narrow) = some (.type "type"))
    (kc_Narrow : PySem.W.keepIn K (.ref c_Narrow) = true)
    (hd_Narrow : PySem.W.hasDictIn K c_Narrow = true)
    (ga_Narrow : PySem.W.findIn K (.ref c_Narrow) "__getattribute__" = some (some (.builtin "BaseException.__getattribute__")))
    (gg_Narrow : PySem.W.findIn K (.ref c_Narrow) "__getattr__" = some none)
    (ha_Narrow : PySem.W.findIn K (.ref c_Narrow) "__class__" = some (some (.builtin "object.__class__")))
    (hn_Narrow : PySem.W.specialIn K (.builtin "object.__class__") "__get__" = some (some (.builtin "getset_descriptor.__get__")))
    (ht_Narrow : PySem.W.takesIn K (.builtin "object.__class__") = some true)
    (hm_Narrow : PySem.W.mroIn K c_Narrow (.type "object") = some true)
    (nf_Narrow : PySem.W.findIn K (.ref c_Narrow) "name" = some none)
    (su_Narrow : PySem.W.subIn K (.ref c_Narrow) (.ref c_PipeError) = some true)
    (aC_NoCommand : PySem.W.nsIn K mainGlobals "NoCommand" = some (some (.ref c_NoCommand)))
    (kl_NoCommand : K.lookup c_NoCommand = some (excClassObj nmNoCommand qnNoCommand c_NoCommand NNoCommand bsNoCommand [.ref c_PipeError, .type "ValueError", .type "Exception", .type "BaseException", .type "object"] true snNoCommand sbNoCommand abNoCommand coNoCommand ddNoCommand m0NoCommand m1NoCommand m2NoCommand m3NoCommand m5NoCommand "ValueError.__new__"))
    (sa_NoCommand : PySem.W.findIn K (.ref c_NoCommand) "__setattr__" = some (some (.builtin "object.__setattr__")))
    (ex_NoCommand : PySem.W.subIn K (.ref c_NoCommand) (.type "BaseException") = some true)
    (ty_NoCommand : PySem.W.typeIn K (.ref c_NoCommand) = some (.type "type"))
    (kc_NoCommand : PySem.W.keepIn K (.ref c_NoCommand) = true)
    (hd_NoCommand : PySem.W.hasDictIn K c_NoCommand = true)
    (ga_NoCommand : PySem.W.findIn K (.ref c_NoCommand) "__getattribute__" = some (some (.builtin "BaseException.__getattribute__")))
    (gg_NoCommand : PySem.W.findIn K (.ref c_NoCommand) "__getattr__" = some none)
    (ha_NoCommand : PySem.W.findIn K (.ref c_NoCommand) "__class__" = some (some (.builtin "object.__class__")))
    (hn_NoCommand : PySem.W.specialIn K (.builtin "object.__class__") "__get__" = some (some (.builtin "getset_descriptor.__get__")))
    (ht_NoCommand : PySem.W.takesIn K (.builtin "object.__class__") = some true)
    (hm_NoCommand : PySem.W.mroIn K c_NoCommand (.type "object") = some true)
    (su_NoCommand : PySem.W.subIn K (.ref c_NoCommand) (.ref c_PipeError) = some true)
    (aC_NoCredit : PySem.W.nsIn K mainGlobals "NoCredit" = some (some (.ref c_NoCredit)))
    (kl_NoCredit : K.lookup c_NoCredit = some (excClassObj nmNoCredit qnNoCredit c_NoCredit NNoCredit bsNoCredit [.ref c_PipeError, .type "ValueError", .type "Exception", .type "BaseException", .type "object"] true snNoCredit sbNoCredit abNoCredit coNoCredit ddNoCredit m0NoCredit m1NoCredit m2NoCredit m3NoCredit m5NoCredit "ValueError.__new__"))
    (sa_NoCredit : PySem.W.findIn K (.ref c_NoCredit) "__setattr__" = some (some (.builtin "object.__setattr__")))
    (ex_NoCredit : PySem.W.subIn K (.ref c_NoCredit) (.type "BaseException") = some true)
    (ty_NoCredit : PySem.W.typeIn K (.ref c_NoCredit) = some (.type "type"))
    (kc_NoCredit : PySem.W.keepIn K (.ref c_NoCredit) = true)
    (hd_NoCredit : PySem.W.hasDictIn K c_NoCredit = true)
    (ga_NoCredit : PySem.W.findIn K (.ref c_NoCredit) "__getattribute__" = some (some (.builtin "BaseException.__getattribute__")))
    (gg_NoCredit : PySem.W.findIn K (.ref c_NoCredit) "__getattr__" = some none)
    (ha_NoCredit : PySem.W.findIn K (.ref c_NoCredit) "__class__" = some (some (.builtin "object.__class__")))
    (hn_NoCredit : PySem.W.specialIn K (.builtin "object.__class__") "__get__" = some (some (.builtin "getset_descriptor.__get__")))
    (ht_NoCredit : PySem.W.takesIn K (.builtin "object.__class__") = some true)
    (hm_NoCredit : PySem.W.mroIn K c_NoCredit (.type "object") = some true)
    (nf_NoCredit : PySem.W.findIn K (.ref c_NoCredit) "name" = some none)
    (su_NoCredit : PySem.W.subIn K (.ref c_NoCredit) (.ref c_PipeError) = some true)
    (aC_NoDeed : PySem.W.nsIn K mainGlobals "NoDeed" = some (some (.ref c_NoDeed)))
    (kl_NoDeed : K.lookup c_NoDeed = some (excClassObj nmNoDeed qnNoDeed c_NoDeed NNoDeed bsNoDeed [.ref c_PipeError, .type "ValueError", .type "Exception", .type "BaseException", .type "object"] true snNoDeed sbNoDeed abNoDeed coNoDeed ddNoDeed m0NoDeed m1NoDeed m2NoDeed m3NoDeed m5NoDeed "ValueError.__new__"))
    (sa_NoDeed : PySem.W.findIn K (.ref c_NoDeed) "__setattr__" = some (some (.builtin "object.__setattr__")))
    (ex_NoDeed : PySem.W.subIn K (.ref c_NoDeed) (.type "BaseException") = some true)
    (ty_NoDeed : PySem.W.typeIn K (.ref c_NoDeed) = some (.type "type"))
    (kc_NoDeed : PySem.W.keepIn K (.ref c_NoDeed) = true)
    (hd_NoDeed : PySem.W.hasDictIn K c_NoDeed = true)
    (ga_NoDeed : PySem.W.findIn K (.ref c_NoDeed) "__getattribute__" = some (some (.builtin "BaseException.__getattribute__")))
    (gg_NoDeed : PySem.W.findIn K (.ref c_NoDeed) "__getattr__" = some none)
    (ha_NoDeed : PySem.W.findIn K (.ref c_NoDeed) "__class__" = some (some (.builtin "object.__class__")))
    (hn_NoDeed : PySem.W.specialIn K (.builtin "object.__class__") "__get__" = some (some (.builtin "getset_descriptor.__get__")))
    (ht_NoDeed : PySem.W.takesIn K (.builtin "object.__class__") = some true)
    (hm_NoDeed : PySem.W.mroIn K c_NoDeed (.type "object") = some true)
    (su_NoDeed : PySem.W.subIn K (.ref c_NoDeed) (.ref c_PipeError) = some true)
    (aC_NoEntry : PySem.W.nsIn K mainGlobals "NoEntry" = some (some (.ref c_NoEntry)))
    (kl_NoEntry : K.lookup c_NoEntry = some (excClassObj nmNoEntry qnNoEntry c_NoEntry NNoEntry bsNoEntry [.ref c_PipeError, .type "ValueError", .type "Exception", .type "BaseException", .type "object"] true snNoEntry sbNoEntry abNoEntry coNoEntry ddNoEntry m0NoEntry m1NoEntry m2NoEntry m3NoEntry m5NoEntry "ValueError.__new__"))
    (sa_NoEntry : PySem.W.findIn K (.ref c_NoEntry) "__setattr__" = some (some (.builtin "object.__setattr__")))
    (ex_NoEntry : PySem.W.subIn K (.ref c_NoEntry) (.type "BaseException") = some true)
    (ty_NoEntry : PySem.W.typeIn K (.ref c_NoEntry) = some (.type "type"))
    (kc_NoEntry : PySem.W.keepIn K (.ref c_NoEntry) = true)
    (hd_NoEntry : PySem.W.hasDictIn K c_NoEntry = true)
    (ga_NoEntry : PySem.W.findIn K (.ref c_NoEntry) "__getattribute__" = some (some (.builtin "BaseException.__getattribute__")))
    (gg_NoEntry : PySem.W.findIn K (.ref c_NoEntry) "__getattr__" = some none)
    (ha_NoEntry : PySem.W.findIn K (.ref c_NoEntry) "__class__" = some (some (.builtin "object.__class__")))
    (hn_NoEntry : PySem.W.specialIn K (.builtin "object.__class__") "__get__" = some (some (.builtin "getset_descriptor.__get__")))
    (ht_NoEntry : PySem.W.takesIn K (.builtin "object.__class__") = some true)
    (hm_NoEntry : PySem.W.mroIn K c_NoEntry (.type "object") = some true)
    (nf_NoEntry : PySem.W.findIn K (.ref c_NoEntry) "many" = some none)
    (su_NoEntry : PySem.W.subIn K (.ref c_NoEntry) (.ref c_PipeError) = some true)
    (aC_NoStep : PySem.W.nsIn K mainGlobals "NoStep" = some (some (.ref c_NoStep)))
    (kl_NoStep : K.lookup c_NoStep = some (excClassObj nmNoStep qnNoStep c_NoStep NNoStep bsNoStep [.ref c_PipeError, .type "ValueError", .type "Exception", .type "BaseException", .type "object"] true snNoStep sbNoStep abNoStep coNoStep ddNoStep m0NoStep m1NoStep m2NoStep m3NoStep m5NoStep "ValueError.__new__"))
    (sa_NoStep : PySem.W.findIn K (.ref c_NoStep) "__setattr__" = some (some (.builtin "object.__setattr__")))
    (ex_NoStep : PySem.W.subIn K (.ref c_NoStep) (.type "BaseException") = some true)
    (ty_NoStep : PySem.W.typeIn K (.ref c_NoStep) = some (.type "type"))
    (kc_NoStep : PySem.W.keepIn K (.ref c_NoStep) = true)
    (hd_NoStep : PySem.W.hasDictIn K c_NoStep = true)
    (ga_NoStep : PySem.W.findIn K (.ref c_NoStep) "__getattribute__" = some (some (.builtin "BaseException.__getattribute__")))
    (gg_NoStep : PySem.W.findIn K (.ref c_NoStep) "__getattr__" = some none)
    (ha_NoStep : PySem.W.findIn K (.ref c_NoStep) "__class__" = some (some (.builtin "object.__class__")))
    (hn_NoStep : PySem.W.specialIn K (.builtin "object.__class__") "__get__" = some (some (.builtin "getset_descriptor.__get__")))
    (ht_NoStep : PySem.W.takesIn K (.builtin "object.__class__") = some true)
    (hm_NoStep : PySem.W.mroIn K c_NoStep (.type "object") = some true)
    (su_NoStep : PySem.W.subIn K (.ref c_NoStep) (.ref c_PipeError) = some true)
    (aC_NoText : PySem.W.nsIn K mainGlobals "NoText" = some (some (.ref c_NoText)))
    (kl_NoText : K.lookup c_NoText = some (excClassObj nmNoText qnNoText c_NoText NNoText bsNoText [.ref c_PipeError, .type "ValueError", .type "Exception", .type "BaseException", .type "object"] true snNoText sbNoText abNoText coNoText ddNoText m0NoText m1NoText m2NoText m3NoText m5NoText "ValueError.__new__"))
    (sa_NoText : PySem.W.findIn K (.ref c_NoText) "__setattr__" = some (some (.builtin "object.__setattr__")))
    (ex_NoText : PySem.W.subIn K (.ref c_NoText) (.type "BaseException") = some true)
    (ty_NoText : PySem.W.typeIn K (.ref c_NoText) = some (.type "type"))
    (kc_NoText : PySem.W.keepIn K (.ref c_NoText) = true)
    (hd_NoText : PySem.W.hasDictIn K c_NoText = true)
    (ga_NoText : PySem.W.findIn K (.ref c_NoText) "__getattribute__" = some (some (.builtin "BaseException.__getattribute__")))
    (gg_NoText : PySem.W.findIn K (.ref c_NoText) "__getattr__" = some none)
    (ha_NoText : PySem.W.findIn K (.ref c_NoText) "__class__" = some (some (.builtin "object.__class__")))
    (hn_NoText : PySem.W.specialIn K (.builtin "object.__class__") "__get__" = some (some (.builtin "getset_descriptor.__get__")))
    (ht_NoText : PySem.W.takesIn K (.builtin "object.__class__") = some true)
    (hm_NoText : PySem.W.mroIn K c_NoText (.type "object") = some true)
    (su_NoText : PySem.W.subIn K (.ref c_NoText) (.ref c_PipeError) = some true)
    (aC_NotPassed : PySem.W.nsIn K mainGlobals "NotPassed" = some (some (.ref c_NotPassed)))
    (kl_NotPassed : K.lookup c_NotPassed = some (excClassObj nmNotPassed qnNotPassed c_NotPassed NNotPassed bsNotPassed [.ref c_PipeError, .type "ValueError", .type "Exception", .type "BaseException", .type "object"] true snNotPassed sbNotPassed abNotPassed coNotPassed ddNotPassed m0NotPassed m1NotPassed m2NotPassed m3NotPassed m5NotPassed "ValueError.__new__"))
    (sa_NotPassed : PySem.W.findIn K (.ref c_NotPassed) "__setattr__" = some (some (.builtin "object.__setattr__")))
    (ex_NotPassed : PySem.W.subIn K (.ref c_NotPassed) (.type "BaseException") = some true)
    (ty_NotPassed : PySem.W.typeIn K (.ref c_NotPassed) = some (.type "type"))
    (kc_NotPassed : PySem.W.keepIn K (.ref c_NotPassed) = true)
    (hd_NotPassed : PySem.W.hasDictIn K c_NotPassed = true)
    (ga_NotPassed : PySem.W.findIn K (.ref c_NotPassed) "__getattribute__" = some (some (.builtin "BaseException.__getattribute__")))
    (gg_NotPassed : PySem.W.findIn K (.ref c_NotPassed) "__getattr__" = some none)
    (ha_NotPassed : PySem.W.findIn K (.ref c_NotPassed) "__class__" = some (some (.builtin "object.__class__")))
    (hn_NotPassed : PySem.W.specialIn K (.builtin "object.__class__") "__get__" = some (some (.builtin "getset_descriptor.__get__")))
    (ht_NotPassed : PySem.W.takesIn K (.builtin "object.__class__") = some true)
    (hm_NotPassed : PySem.W.mroIn K c_NotPassed (.type "object") = some true)
    (nf_NotPassed : PySem.W.findIn K (.ref c_NotPassed) "many" = some none)
    (su_NotPassed : PySem.W.subIn K (.ref c_NotPassed) (.ref c_PipeError) = some true)
    (aC_Nothing : PySem.W.nsIn K mainGlobals "Nothing" = some (some (.ref c_Nothing)))
    (kl_Nothing : K.lookup c_Nothing = some (excClassObj nmNothing qnNothing c_Nothing NNothing bsNothing [.ref c_PipeError, .type "ValueError", .type "Exception", .type "BaseException", .type "object"] true snNothing sbNothing abNothing coNothing ddNothing m0Nothing m1Nothing m2Nothing m3Nothing m5Nothing "ValueError.__new__"))
    (sa_Nothing : PySem.W.findIn K (.ref c_Nothing) "__setattr__" = some (some (.builtin "object.__setattr__")))
    (ex_Nothing : PySem.W.subIn K (.ref c_Nothing) (.type "BaseException") = some true)
    (ty_Nothing : PySem.W.typeIn K (.ref c_Nothing) = some (.type "type"))
    (kc_Nothing : PySem.W.keepIn K (.ref c_Nothing) = true)
    (hd_Nothing : PySem.W.hasDictIn K c_Nothing = true)
    (ga_Nothing : PySem.W.findIn K (.ref c_Nothing) "__getattribute__" = some (some (.builtin "BaseException.__getattribute__")))
    (gg_Nothing : PySem.W.findIn K (.ref c_Nothing) "__getattr__" = some none)
    (ha_Nothing : PySem.W.findIn K (.ref c_Nothing) "__class__" = some (some (.builtin "object.__class__")))
    (hn_Nothing : PySem.W.specialIn K (.builtin "object.__class__") "__get__" = some (some (.builtin "getset_descriptor.__get__")))
    (ht_Nothing : PySem.W.takesIn K (.builtin "object.__class__") = some true)
    (hm_Nothing : PySem.W.mroIn K c_Nothing (.type "object") = some true)
    (su_Nothing : PySem.W.subIn K (.ref c_Nothing) (.ref c_PipeError) = some true)
    (aC_Overdrawn : PySem.W.nsIn K mainGlobals "Overdrawn" = some (some (.ref c_Overdrawn)))
    (kl_Overdrawn : K.lookup c_Overdrawn = some (excClassObj nmOverdrawn qnOverdrawn c_Overdrawn NOverdrawn bsOverdrawn [.ref c_PipeError, .type "ValueError", .type "Exception", .type "BaseException", .type "object"] true snOverdrawn sbOverdrawn abOverdrawn coOverdrawn ddOverdrawn m0Overdrawn m1Overdrawn m2Overdrawn m3Overdrawn m5Overdrawn "ValueError.__new__"))
    (sa_Overdrawn : PySem.W.findIn K (.ref c_Overdrawn) "__setattr__" = some (some (.builtin "object.__setattr__")))
    (ex_Overdrawn : PySem.W.subIn K (.ref c_Overdrawn) (.type "BaseException") = some true)
    (ty_Overdrawn : PySem.W.typeIn K (.ref c_Overdrawn) = some (.type "type"))
    (kc_Overdrawn : PySem.W.keepIn K (.ref c_Overdrawn) = true)
    (hd_Overdrawn : PySem.W.hasDictIn K c_Overdrawn = true)
    (ga_Overdrawn : PySem.W.findIn K (.ref c_Overdrawn) "__getattribute__" = some (some (.builtin "BaseException.__getattribute__")))
    (gg_Overdrawn : PySem.W.findIn K (.ref c_Overdrawn) "__getattr__" = some none)
    (ha_Overdrawn : PySem.W.findIn K (.ref c_Overdrawn) "__class__" = some (some (.builtin "object.__class__")))
    (hn_Overdrawn : PySem.W.specialIn K (.builtin "object.__class__") "__get__" = some (some (.builtin "getset_descriptor.__get__")))
    (ht_Overdrawn : PySem.W.takesIn K (.builtin "object.__class__") = some true)
    (hm_Overdrawn : PySem.W.mroIn K c_Overdrawn (.type "object") = some true)
    (nf_Overdrawn : PySem.W.findIn K (.ref c_Overdrawn) "many" = some none)
    (su_Overdrawn : PySem.W.subIn K (.ref c_Overdrawn) (.ref c_PipeError) = some true)
    (aC_PipeError : PySem.W.nsIn K mainGlobals "PipeError" = some (some (.ref c_PipeError)))
    (kl_PipeError : K.lookup c_PipeError = some (excClassObj nmPipeError qnPipeError c_PipeError NPipeError bsPipeError [.type "ValueError", .type "Exception", .type "BaseException", .type "object"] true snPipeError sbPipeError abPipeError coPipeError ddPipeError m0PipeError m1PipeError m2PipeError m3PipeError m5PipeError "ValueError.__new__"))
    (sa_PipeError : PySem.W.findIn K (.ref c_PipeError) "__setattr__" = some (some (.builtin "object.__setattr__")))
    (ex_PipeError : PySem.W.subIn K (.ref c_PipeError) (.type "BaseException") = some true)
    (ty_PipeError : PySem.W.typeIn K (.ref c_PipeError) = some (.type "type"))
    (kc_PipeError : PySem.W.keepIn K (.ref c_PipeError) = true)
    (hd_PipeError : PySem.W.hasDictIn K c_PipeError = true)
    (ga_PipeError : PySem.W.findIn K (.ref c_PipeError) "__getattribute__" = some (some (.builtin "BaseException.__getattribute__")))
    (gg_PipeError : PySem.W.findIn K (.ref c_PipeError) "__getattr__" = some none)
    (ha_PipeError : PySem.W.findIn K (.ref c_PipeError) "__class__" = some (some (.builtin "object.__class__")))
    (hn_PipeError : PySem.W.specialIn K (.builtin "object.__class__") "__get__" = some (some (.builtin "getset_descriptor.__get__")))
    (ht_PipeError : PySem.W.takesIn K (.builtin "object.__class__") = some true)
    (hm_PipeError : PySem.W.mroIn K c_PipeError (.type "object") = some true)
    (q_PipeError : PySem.W.excIn K c_PipeError PkX.bmV "ValueError.__new__" = true)
    (aC_Refused : PySem.W.nsIn K mainGlobals "Refused" = some (some (.ref c_Refused)))
    (kl_Refused : K.lookup c_Refused = some (excClassObj nmRefused qnRefused c_Refused NRefused bsRefused [.ref c_PipeError, .type "ValueError", .type "Exception", .type "BaseException", .type "object"] true snRefused sbRefused abRefused coRefused ddRefused m0Refused m1Refused m2Refused m3Refused m5Refused "ValueError.__new__"))
    (sa_Refused : PySem.W.findIn K (.ref c_Refused) "__setattr__" = some (some (.builtin "object.__setattr__")))
    (ex_Refused : PySem.W.subIn K (.ref c_Refused) (.type "BaseException") = some true)
    (ty_Refused : PySem.W.typeIn K (.ref c_Refused) = some (.type "type"))
    (kc_Refused : PySem.W.keepIn K (.ref c_Refused) = true)
    (hd_Refused : PySem.W.hasDictIn K c_Refused = true)
    (ga_Refused : PySem.W.findIn K (.ref c_Refused) "__getattribute__" = some (some (.builtin "BaseException.__getattribute__")))
    (gg_Refused : PySem.W.findIn K (.ref c_Refused) "__getattr__" = some none)
    (ha_Refused : PySem.W.findIn K (.ref c_Refused) "__class__" = some (some (.builtin "object.__class__")))
    (hn_Refused : PySem.W.specialIn K (.builtin "object.__class__") "__get__" = some (some (.builtin "getset_descriptor.__get__")))
    (ht_Refused : PySem.W.takesIn K (.builtin "object.__class__") = some true)
    (hm_Refused : PySem.W.mroIn K c_Refused (.type "object") = some true)
    (nf_Refused : PySem.W.findIn K (.ref c_Refused) "deed" = some none)
    (su_Refused : PySem.W.subIn K (.ref c_Refused) (.ref c_PipeError) = some true)
    (aC_Ring : PySem.W.nsIn K mainGlobals "Ring" = some (some (.ref c_Ring)))
    (kl_Ring : K.lookup c_Ring = some (excClassObj nmRing qnRing c_Ring NRing bsRing [.ref c_PipeError, .type "ValueError", .type "Exception", .type "BaseException", .type "object"] true snRing sbRing abRing coRing ddRing m0Ring m1Ring m2Ring m3Ring m5Ring "ValueError.__new__"))
    (sa_Ring : PySem.W.findIn K (.ref c_Ring) "__setattr__" = some (some (.builtin "object.__setattr__")))
    (ex_Ring : PySem.W.subIn K (.ref c_Ring) (.type "BaseException") = some true)
    (ty_Ring : PySem.W.typeIn K (.ref c_Ring) = some (.type "type"))
    (kc_Ring : PySem.W.keepIn K (.ref c_Ring) = true)
    (hd_Ring : PySem.W.hasDictIn K c_Ring = true)
    (ga_Ring : PySem.W.findIn K (.ref c_Ring) "__getattribute__" = some (some (.builtin "BaseException.__getattribute__")))
    (gg_Ring : PySem.W.findIn K (.ref c_Ring) "__getattr__" = some none)
    (ha_Ring : PySem.W.findIn K (.ref c_Ring) "__class__" = some (some (.builtin "object.__class__")))
    (hn_Ring : PySem.W.specialIn K (.builtin "object.__class__") "__get__" = some (some (.builtin "getset_descriptor.__get__")))
    (ht_Ring : PySem.W.takesIn K (.builtin "object.__class__") = some true)
    (hm_Ring : PySem.W.mroIn K c_Ring (.type "object") = some true)
    (nf_Ring : PySem.W.findIn K (.ref c_Ring) "name" = some none)
    (su_Ring : PySem.W.subIn K (.ref c_Ring) (.ref c_PipeError) = some true)
    (aC_TooMany : PySem.W.nsIn K mainGlobals "TooMany" = some (some (.ref c_TooMany)))
    (kl_TooMany : K.lookup c_TooMany = some (excClassObj nmTooMany qnTooMany c_TooMany NTooMany bsTooMany [.ref c_PipeError, .type "ValueError", .type "Exception", .type "BaseException", .type "object"] true snTooMany sbTooMany abTooMany coTooMany ddTooMany m0TooMany m1TooMany m2TooMany m3TooMany m5TooMany "ValueError.__new__"))
    (sa_TooMany : PySem.W.findIn K (.ref c_TooMany) "__setattr__" = some (some (.builtin "object.__setattr__")))
    (ex_TooMany : PySem.W.subIn K (.ref c_TooMany) (.type "BaseException") = some true)
    (ty_TooMany : PySem.W.typeIn K (.ref c_TooMany) = some (.type "type"))
    (kc_TooMany : PySem.W.keepIn K (.ref c_TooMany) = true)
    (hd_TooMany : PySem.W.hasDictIn K c_TooMany = true)
    (ga_TooMany : PySem.W.findIn K (.ref c_TooMany) "__getattribute__" = some (some (.builtin "BaseException.__getattribute__")))
    (gg_TooMany : PySem.W.findIn K (.ref c_TooMany) "__getattr__" = some none)
    (ha_TooMany : PySem.W.findIn K (.ref c_TooMany) "__class__" = some (some (.builtin "object.__class__")))
    (hn_TooMany : PySem.W.specialIn K (.builtin "object.__class__") "__get__" = some (some (.builtin "getset_descriptor.__get__")))
    (ht_TooMany : PySem.W.takesIn K (.builtin "object.__class__") = some true)
    (hm_TooMany : PySem.W.mroIn K c_TooMany (.type "object") = some true)
    (nf_TooMany : PySem.W.findIn K (.ref c_TooMany) "limit" = some none)
    (su_TooMany : PySem.W.subIn K (.ref c_TooMany) (.ref c_PipeError) = some true)
    (aC_Twice : PySem.W.nsIn K mainGlobals "Twice" = some (some (.ref c_Twice)))
    (kl_Twice : K.lookup c_Twice = some (excClassObj nmTwice qnTwice c_Twice NTwice bsTwice [.ref c_PipeError, .type "ValueError", .type "Exception", .type "BaseException", .type "object"] true snTwice sbTwice abTwice coTwice ddTwice m0Twice m1Twice m2Twice m3Twice m5Twice "ValueError.__new__"))
    (sa_Twice : PySem.W.findIn K (.ref c_Twice) "__setattr__" = some (some (.builtin "object.__setattr__")))
    (ex_Twice : PySem.W.subIn K (.ref c_Twice) (.type "BaseException") = some true)
    (ty_Twice : PySem.W.typeIn K (.ref c_Twice) = some (.type "type"))
    (kc_Twice : PySem.W.keepIn K (.ref c_Twice) = true)
    (hd_Twice : PySem.W.hasDictIn K c_Twice = true)
    (ga_Twice : PySem.W.findIn K (.ref c_Twice) "__getattribute__" = some (some (.builtin "BaseException.__getattribute__")))
    (gg_Twice : PySem.W.findIn K (.ref c_Twice) "__getattr__" = some none)
    (ha_Twice : PySem.W.findIn K (.ref c_Twice) "__class__" = some (some (.builtin "object.__class__")))
    (hn_Twice : PySem.W.specialIn K (.builtin "object.__class__") "__get__" = some (some (.builtin "getset_descriptor.__get__")))
    (ht_Twice : PySem.W.takesIn K (.builtin "object.__class__") = some true)
    (hm_Twice : PySem.W.mroIn K c_Twice (.type "object") = some true)
    (nf_Twice : PySem.W.findIn K (.ref c_Twice) "name" = some none)
    (su_Twice : PySem.W.subIn K (.ref c_Twice) (.ref c_PipeError) = some true)
    (aC_Unknown : PySem.W.nsIn K mainGlobals "Unknown" = some (some (.ref c_Unknown)))
    (kl_Unknown : K.lookup c_Unknown = some (excClassObj nmUnknown qnUnknown c_Unknown NUnknown bsUnknown [.ref c_PipeError, .type "ValueError", .type "Exception", .type "BaseException", .type "object"] true snUnknown sbUnknown abUnknown coUnknown ddUnknown m0Unknown m1Unknown m2Unknown m3Unknown m5Unknown "ValueError.__new__"))
    (sa_Unknown : PySem.W.findIn K (.ref c_Unknown) "__setattr__" = some (some (.builtin "object.__setattr__")))
    (ex_Unknown : PySem.W.subIn K (.ref c_Unknown) (.type "BaseException") = some true)
    (ty_Unknown : PySem.W.typeIn K (.ref c_Unknown) = some (.type "type"))
    (kc_Unknown : PySem.W.keepIn K (.ref c_Unknown) = true)
    (hd_Unknown : PySem.W.hasDictIn K c_Unknown = true)
    (ga_Unknown : PySem.W.findIn K (.ref c_Unknown) "__getattribute__" = some (some (.builtin "BaseException.__getattribute__")))
    (gg_Unknown : PySem.W.findIn K (.ref c_Unknown) "__getattr__" = some none)
    (ha_Unknown : PySem.W.findIn K (.ref c_Unknown) "__class__" = some (some (.builtin "object.__class__")))
    (hn_Unknown : PySem.W.specialIn K (.builtin "object.__class__") "__get__" = some (some (.builtin "getset_descriptor.__get__")))
    (ht_Unknown : PySem.W.takesIn K (.builtin "object.__class__") = some true)
    (hm_Unknown : PySem.W.mroIn K c_Unknown (.type "object") = some true)
    (nf_Unknown : PySem.W.findIn K (.ref c_Unknown) "name" = some none)
    (su_Unknown : PySem.W.subIn K (.ref c_Unknown) (.ref c_PipeError) = some true)
    (aC_Unlike : PySem.W.nsIn K mainGlobals "Unlike" = some (some (.ref c_Unlike)))
    (kl_Unlike : K.lookup c_Unlike = some (excClassObj nmUnlike qnUnlike c_Unlike NUnlike bsUnlike [.ref c_PipeError, .type "ValueError", .type "Exception", .type "BaseException", .type "object"] true snUnlike sbUnlike abUnlike coUnlike ddUnlike m0Unlike m1Unlike m2Unlike m3Unlike m5Unlike "ValueError.__new__"))
    (sa_Unlike : PySem.W.findIn K (.ref c_Unlike) "__setattr__" = some (some (.builtin "object.__setattr__")))
    (ex_Unlike : PySem.W.subIn K (.ref c_Unlike) (.type "BaseException") = some true)
    (ty_Unlike : PySem.W.typeIn K (.ref c_Unlike) = some (.type "type"))
    (kc_Unlike : PySem.W.keepIn K (.ref c_Unlike) = true)
    (hd_Unlike : PySem.W.hasDictIn K c_Unlike = true)
    (ga_Unlike : PySem.W.findIn K (.ref c_Unlike) "__getattribute__" = some (some (.builtin "BaseException.__getattribute__")))
    (gg_Unlike : PySem.W.findIn K (.ref c_Unlike) "__getattr__" = some none)
    (ha_Unlike : PySem.W.findIn K (.ref c_Unlike) "__class__" = some (some (.builtin "object.__class__")))
    (hn_Unlike : PySem.W.specialIn K (.builtin "object.__class__") "__get__" = some (some (.builtin "getset_descriptor.__get__")))
    (ht_Unlike : PySem.W.takesIn K (.builtin "object.__class__") = some true)
    (hm_Unlike : PySem.W.mroIn K c_Unlike (.type "object") = some true)
    (su_Unlike : PySem.W.subIn K (.ref c_Unlike) (.ref c_PipeError) = some true)
    (aC_Unready : PySem.W.nsIn K mainGlobals "Unready" = some (some (.ref c_Unready)))
    (kl_Unready : K.lookup c_Unready = some (excClassObj nmUnready qnUnready c_Unready NUnready bsUnready [.ref c_PipeError, .type "ValueError", .type "Exception", .type "BaseException", .type "object"] true snUnready sbUnready abUnready coUnready ddUnready m0Unready m1Unready m2Unready m3Unready m5Unready "ValueError.__new__"))
    (sa_Unready : PySem.W.findIn K (.ref c_Unready) "__setattr__" = some (some (.builtin "object.__setattr__")))
    (ex_Unready : PySem.W.subIn K (.ref c_Unready) (.type "BaseException") = some true)
    (ty_Unready : PySem.W.typeIn K (.ref c_Unready) = some (.type "type"))
    (kc_Unready : PySem.W.keepIn K (.ref c_Unready) = true)
    (hd_Unready : PySem.W.hasDictIn K c_Unready = true)
    (ga_Unready : PySem.W.findIn K (.ref c_Unready) "__getattribute__" = some (some (.builtin "BaseException.__getattribute__")))
    (gg_Unready : PySem.W.findIn K (.ref c_Unready) "__getattr__" = some none)
    (ha_Unready : PySem.W.findIn K (.ref c_Unready) "__class__" = some (some (.builtin "object.__class__")))
    (hn_Unready : PySem.W.specialIn K (.builtin "object.__class__") "__get__" = some (some (.builtin "getset_descriptor.__get__")))
    (ht_Unready : PySem.W.takesIn K (.builtin "object.__class__") = some true)
    (hm_Unready : PySem.W.mroIn K c_Unready (.type "object") = some true)
    (nf_Unready : PySem.W.findIn K (.ref c_Unready) "stream" = some none)
    (su_Unready : PySem.W.subIn K (.ref c_Unready) (.ref c_PipeError) = some true)
    (aC_Wrong : PySem.W.nsIn K mainGlobals "Wrong" = some (some (.ref c_Wrong)))
    (kl_Wrong : K.lookup c_Wrong = some (excClassObj nmWrong qnWrong c_Wrong NWrong bsWrong [.ref c_PipeError, .type "ValueError", .type "Exception", .type "BaseException", .type "object"] true snWrong sbWrong abWrong coWrong ddWrong m0Wrong m1Wrong m2Wrong m3Wrong m5Wrong "ValueError.__new__"))
    (sa_Wrong : PySem.W.findIn K (.ref c_Wrong) "__setattr__" = some (some (.builtin "object.__setattr__")))
    (ex_Wrong : PySem.W.subIn K (.ref c_Wrong) (.type "BaseException") = some true)
    (ty_Wrong : PySem.W.typeIn K (.ref c_Wrong) = some (.type "type"))
    (kc_Wrong : PySem.W.keepIn K (.ref c_Wrong) = true)
    (hd_Wrong : PySem.W.hasDictIn K c_Wrong = true)
    (ga_Wrong : PySem.W.findIn K (.ref c_Wrong) "__getattribute__" = some (some (.builtin "BaseException.__getattribute__")))
    (gg_Wrong : PySem.W.findIn K (.ref c_Wrong) "__getattr__" = some none)
    (ha_Wrong : PySem.W.findIn K (.ref c_Wrong) "__class__" = some (some (.builtin "object.__class__")))
    (hn_Wrong : PySem.W.specialIn K (.builtin "object.__class__") "__get__" = some (some (.builtin "getset_descriptor.__get__")))
    (ht_Wrong : PySem.W.takesIn K (.builtin "object.__class__") = some true)
    (hm_Wrong : PySem.W.mroIn K c_Wrong (.type "object") = some true)
    (nf_Wrong : PySem.W.findIn K (.ref c_Wrong) "place" = some none)
    (su_Wrong : PySem.W.subIn K (.ref c_Wrong) (.ref c_PipeError) = some true)
    (tab10 : Pk.tab10 K ({ PipeError := c_PipeError, Wrong := c_Wrong, TooMany := c_TooMany, Overdrawn := c_Overdrawn, NotPassed := c_NotPassed, Rule := 0, Account := 0, Twice := c_Twice, Unknown := c_Unknown, Ring := c_Ring, BadGuide := c_BadGuide, Narrow := c_Narrow, NoStep := c_NoStep, Unready := c_Unready, NoCredit := c_NoCredit, Nothing := c_Nothing, Broken := c_Broken, BadSlow := c_BadSlow, BadFrame := c_BadFrame, IsSlow := c_IsSlow, Unlike := c_Unlike, NoDeed := c_NoDeed, Full := c_Full, Refused := c_Refused, NoEntry := c_NoEntry, NoText := c_NoText, NoCommand := c_NoCommand } : Cs) = true)
    (sG_super : PySem.W.nsIn K mainGlobals "super" = some none)
    (sO_super : PySem.W.nsIn K cStatics "thirdparty.any" = some none)
    (sM_super : (l.prog.main.scope.names.lookup ("super" : Str)).isSome = false)
    (a0 : PySem.W.nsIn K mainGlobals "_law_bag" = some (some (.ref f0)))
    (l0 : K.lookup f0 = some ⟨oc0, od0, .func (PySem.W.fnOf "_law_bag" "_law_bag" (defArgs s__law_bag) (defBody s__law_bag) (defScope s__law_bag) .none kV0 dc0 pm0 an0 cd0 ct0), sl0⟩)
    (c0 : PySem.W.codeIn K cd0 "_law_bag" = true)
    (k0 : PySem.W.keepIn K (.ref f0) = true)
    (a1 : PySem.W.findIn K (.ref c_NoStep) "__init__" = some (some (.ref f1)))
    (i1 : PySem.W.typeIn K (.ref f1) = some (.type "function"))
    (l1 : K.lookup f1 = some ⟨oc1, od1, .func (PySem.W.ksFn "__init__" "NoStep.__init__" (defArgs s_NoStep___init__) (defBody s_NoStep___init__) (defScope s_NoStep___init__) .none kV1 dc1 pm1 an1 (.ref cda1) ct1 cc1), sl1⟩)
    (c1 : PySem.W.codeIn K (.ref cda1) "NoStep.__init__" = true)
    (sc1 : K.lookup cda1 = some ⟨ccl1, cdd1, .fields va1, ccs1⟩)
    (sv1 : va1[2]? = some (.str fi1 tf1))
    (sf1 : ((l.prog.main.file : Str) == fi1) = true)
    (se1 : K.lookup cc1 = some ⟨cclB1, ccd1, .cell (some (.ref c_NoStep)), ccsB1⟩)
    (su1 : PySem.W.ks_superIn K c_NoStep c_NoStep "__init__" = some (some (.builtin "ValueError.__init__")))
    (sw1 : PySem.W.subIn K (.ref c_NoStep) (.type "ValueError") = some true)
    (sm1 : PySem.W.mroIn K c_NoStep (.ref c_NoStep) = some true)
    (a2 : PySem.W.findIn K (.ref c_Unready) "__init__" = some (some (.ref f2)))
    (i2 : PySem.W.typeIn K (.ref f2) = some (.type "function"))
    (l2 : K.lookup f2 = some ⟨oc2, od2, .func (PySem.W.fnOf "__init__" "Unready.__init__" (defArgs s_Unready___init__) (defBody s_Unready___init__) (defScope s_Unready___init__) .none kV2 dc2 pm2 an2 cd2 ct2), sl2⟩)
    (c2 : PySem.W.codeIn K cd2 "Unready.__init__" = true)
    (k2 : PySem.W.keepIn K (.ref f2) = true)
    (a3 : PySem.W.nsIn K mainGlobals "_law_caught" = some (some (.ref f3)))
    (l3 : K.lookup f3 = some ⟨oc3, od3, .func (PySem.W.fnOf "_law_caught" "_law_caught" (defArgs s__law_caught) (defBody s__law_caught) (defScope s__law_caught) .none kV3 dc3 pm3 an3 cd3 ct3), sl3⟩)
    (c3 : PySem.W.codeIn K cd3 "_law_caught" = true)
    (k3 : PySem.W.keepIn K (.ref f3) = true)
    (a4 : PySem.W.nsIn K mainGlobals "_law_flags" = some (some (.ref f4)))
    (l4 : K.lookup f4 = some ⟨oc4, od4, .func (PySem.W.fnOf "_law_flags" "_law_flags" (defArgs s__law_flags) (defBody s__law_flags) (defScope s__law_flags) .none kV4 dc4 pm4 an4 cd4 ct4), sl4⟩)
    (c4 : PySem.W.codeIn K cd4 "_law_flags" = true)
    (k4 : PySem.W.keepIn K (.ref f4) = true)
    (a5 : PySem.W.nsIn K mainGlobals "_law_kept" = some (some (.ref f5)))
    (l5 : K.lookup f5 = some ⟨oc5, od5, .func (PySem.W.fnOf "_law_kept" "_law_kept" (defArgs s__law_kept) (defBody s__law_kept) (defScope s__law_kept) .none kV5 dc5 pm5 an5 cd5 ct5), sl5⟩)
    (c5 : PySem.W.codeIn K cd5 "_law_kept" = true)
    (k5 : PySem.W.keepIn K (.ref f5) = true)
    (a6 : PySem.W.findIn K (.ref c_BadFrame) "__init__" = some (some (.ref f6)))
    (i6 : PySem.W.typeIn K (.ref f6) = some (.type "function"))
    (l6 : K.lookup f6 = some ⟨oc6, od6, .func (PySem.W.ksFn "__init__" "BadFrame.__init__" (defArgs s_BadFrame___init__) (defBody s_BadFrame___init__) (defScope s_BadFrame___init__) .none kV6 dc6 pm6 an6 (.ref cda6) ct6 cc6), sl6⟩)
    (c6 : PySem.W.codeIn K (.ref cda6) "BadFrame.__init__" = true)
    (sc6 : K.lookup cda6 = some ⟨ccl6, cdd6, .fields va6, ccs6⟩)
    (sv6 : va6[2]? = some (.str fi6 tf6))
    (sf6 : ((l.prog.main.file : Str) == fi6) = true)
    (se6 : K.lookup cc6 = some ⟨cclB6, ccd6, .cell (some (.ref c_BadFrame)), ccsB6⟩)
    (su6 : PySem.W.ks_superIn K c_BadFrame c_BadFrame "__init__" = some (some (.builtin "ValueError.__init__")))
    (sw6 : PySem.W.subIn K (.ref c_BadFrame) (.type "ValueError") = some true)
    (sm6 : PySem.W.mroIn K c_BadFrame (.ref c_BadFrame) = some true)
    (a7 : PySem.W.findIn K (.ref c_BadGuide) "__init__" = some (some (.ref f7)))
    (i7 : PySem.W.typeIn K (.ref f7) = some (.type "function"))
    (l7 : K.lookup f7 = some ⟨oc7, od7, .func (PySem.W.fnOf "__init__" "BadGuide.__init__" (defArgs s_BadGuide___init__) (defBody s_BadGuide___init__) (defScope s_BadGuide___init__) .none kV7 dc7 pm7 an7 cd7 ct7), sl7⟩)
    (c7 : PySem.W.codeIn K cd7 "BadGuide.__init__" = true)
    (k7 : PySem.W.keepIn K (.ref f7) = true)
    (a8 : PySem.W.findIn K (.ref c_BadSlow) "__init__" = some (some (.ref f8)))
    (i8 : PySem.W.typeIn K (.ref f8) = some (.type "function"))
    (l8 : K.lookup f8 = some ⟨oc8, od8, .func (PySem.W.ksFn "__init__" "BadSlow.__init__" (defArgs s_BadSlow___init__) (defBody s_BadSlow___init__) (defScope s_BadSlow___init__) .none kV8 dc8 pm8 an8 (.ref cda8) ct8 cc8), sl8⟩)
    (c8 : PySem.W.codeIn K (.ref cda8) "BadSlow.__init__" = true)
    (sc8 : K.lookup cda8 = some ⟨ccl8, cdd8, .fields va8, ccs8⟩)
    (sv8 : va8[2]? = some (.str fi8 tf8))
    (sf8 : ((l.prog.main.file : Str) == fi8) = true)
    (se8 : K.lookup cc8 = some ⟨cclB8, ccd8, .cell (some (.ref c_BadSlow)), ccsB8⟩)
    (su8 : PySem.W.ks_superIn K c_BadSlow c_BadSlow "__init__" = some (some (.builtin "ValueError.__init__")))
    (sw8 : PySem.W.subIn K (.ref c_BadSlow) (.type "ValueError") = some true)
    (sm8 : PySem.W.mroIn K c_BadSlow (.ref c_BadSlow) = some true)
    (a9 : PySem.W.findIn K (.ref c_Broken) "__init__" = some (some (.ref f9)))
    (i9 : PySem.W.typeIn K (.ref f9) = some (.type "function"))
    (l9 : K.lookup f9 = some ⟨oc9, od9, .func (PySem.W.fnOf "__init__" "Broken.__init__" (defArgs s_Broken___init__) (defBody s_Broken___init__) (defScope s_Broken___init__) .none kV9 dc9 pm9 an9 cd9 ct9), sl9⟩)
    (c9 : PySem.W.codeIn K cd9 "Broken.__init__" = true)
    (k9 : PySem.W.keepIn K (.ref f9) = true)
    (a10 : PySem.W.findIn K (.ref c_Full) "__init__" = some (some (.ref f10)))
    (i10 : PySem.W.typeIn K (.ref f10) = some (.type "function"))
    (l10 : K.lookup f10 = some ⟨oc10, od10, .func (PySem.W.fnOf "__init__" "Full.__init__" (defArgs s_Full___init__) (defBody s_Full___init__) (defScope s_Full___init__) .none kV10 dc10 pm10 an10 cd10 ct10), sl10⟩)
    (c10 : PySem.W.codeIn K cd10 "Full.__init__" = true)
    (k10 : PySem.W.keepIn K (.ref f10) = true)
    (a11 : PySem.W.findIn K (.ref c_IsSlow) "__init__" = some (some (.ref f11)))
    (i11 : PySem.W.typeIn K (.ref f11) = some (.type "function"))
    (l11 : K.lookup f11 = some ⟨oc11, od11, .func (PySem.W.fnOf "__init__" "IsSlow.__init__" (defArgs s_IsSlow___init__) (defBody s_IsSlow___init__) (defScope s_IsSlow___init__) .none kV11 dc11 pm11 an11 cd11 ct11), sl11⟩)
    (c11 : PySem.W.codeIn K cd11 "IsSlow.__init__" = true)
    (k11 : PySem.W.keepIn K (.ref f11) = true)
    (a12 : PySem.W.findIn K (.ref c_Narrow) "__init__" = some (some (.ref f12)))
    (i12 : PySem.W.typeIn K (.ref f12) = some (.type "function"))
    (l12 : K.lookup f12 = some ⟨oc12, od12, .func (PySem.W.fnOf "__init__" "Narrow.__init__" (defArgs s_Narrow___init__) (defBody s_Narrow___init__) (defScope s_Narrow___init__) .none kV12 dc12 pm12 an12 cd12 ct12), sl12⟩)
    (c12 : PySem.W.codeIn K cd12 "Narrow.__init__" = true)
    (k12 : PySem.W.keepIn K (.ref f12) = true)
    (a13 : PySem.W.findIn K (.ref c_NoCommand) "__init__" = some (some (.ref f13)))
    (i13 : PySem.W.typeIn K (.ref f13) = some (.type "function"))
    (l13 : K.lookup f13 = some ⟨oc13, od13, .func (PySem.W.ksFn "__init__" "NoCommand.__init__" (defArgs s_NoCommand___init__) (defBody s_NoCommand___init__) (defScope s_NoCommand___init__) .none kV13 dc13 pm13 an13 (.ref cda13) ct13 cc13), sl13⟩)
    (c13 : PySem.W.codeIn K (.ref cda13) "NoCommand.__init__" = true)
    (sc13 : K.lookup cda13 = some ⟨ccl13, cdd13, .fields va13, ccs13⟩)
    (sv13 : va13[2]? = some (.str fi13 tf13))
    (sf13 : ((l.prog.main.file : Str) == fi13) = true)
    (se13 : K.lookup cc13 = some ⟨cclB13, ccd13, .cell (some (.ref c_NoCommand)), ccsB13⟩)
    (su13 : PySem.W.ks_superIn K c_NoCommand c_NoCommand "__init__" = some (some (.builtin "ValueError.__init__")))
    (sw13 : PySem.W.subIn K (.ref c_NoCommand) (.type "ValueError") = some true)
    (sm13 : PySem.W.mroIn K c_NoCommand (.ref c_NoCommand) = some true)
    (a14 : PySem.W.findIn K (.ref c_NoCredit) "__init__" = some (some (.ref f14)))
    (i14 : PySem.W.typeIn K (.ref f14) = some (.type "function"))
    (l14 : K.lookup f14 = some ⟨oc14, od14, .func (PySem.W.fnOf "__init__" "NoCredit.__init__" (defArgs s_NoCredit___init__) (defBody s_NoCredit___init__) (defScope s_NoCredit___init__) .none kV14 dc14 pm14 an14 cd14 ct14), sl14⟩)
    (c14 : PySem.W.codeIn K cd14 "NoCredit.__init__" = true)
    (k14 : PySem.W.keepIn K (.ref f14) = true)
    (a15 : PySem.W.findIn K (.ref c_NoDeed) "__init__" = some (some (.ref f15)))
    (i15 : PySem.W.typeIn K (.ref f15) = some (.type "function"))
    (l15 : K.lookup f15 = some ⟨oc15, od15, .func (PySem.W.ksFn "__init__" "NoDeed.__init__" (defArgs s_NoDeed___init__) (defBody s_NoDeed___init__) (defScope s_NoDeed___init__) .none kV15 dc15 pm15 an15 (.ref cda15) ct15 cc15), sl15⟩)
    (c15 : PySem.W.codeIn K (.ref cda15) "NoDeed.__init__" = true)
    (sc15 : K.lookup cda15 = some ⟨ccl15, cdd15, .fields va15, ccs15⟩)
    (sv15 : va15[2]? = some (.str fi15 tf15))
    (sf15 : ((l.prog.main.file : Str) == fi15) = true)
    (se15 : K.lookup cc15 = some ⟨cclB15, ccd15, .cell (some (.ref c_NoDeed)), ccsB15⟩)
    (su15 : PySem.W.ks_superIn K c_NoDeed c_NoDeed "__init__" = some (some (.builtin "ValueError.__init__")))
    (sw15 : PySem.W.subIn K (.ref c_NoDeed) (.type "ValueError") = some true)
    (sm15 : PySem.W.mroIn K c_NoDeed (.ref c_NoDeed) = some true)
    (a16 : PySem.W.findIn K (.ref c_NoEntry) "__init__" = some (some (.ref f16)))
    (i16 : PySem.W.typeIn K (.ref f16) = some (.type "function"))
    (l16 : K.lookup f16 = some ⟨oc16, od16, .func (PySem.W.fnOf "__init__" "NoEntry.__init__" (defArgs s_NoEntry___init__) (defBody s_NoEntry___init__) (defScope s_NoEntry___init__) .none kV16 dc16 pm16 an16 cd16 ct16), sl16⟩)
    (c16 : PySem.W.codeIn K cd16 "NoEntry.__init__" = true)
    (k16 : PySem.W.keepIn K (.ref f16) = true)
    (a17 : PySem.W.findIn K (.ref c_NoText) "__init__" = some (some (.ref f17)))
    (i17 : PySem.W.typeIn K (.ref f17) = some (.type "function"))
    (l17 : K.lookup f17 = some ⟨oc17, od17, .func (PySem.W.ksFn "__init__" "NoText.__init__" (defArgs s_NoText___init__) (defBody s_NoText___init__) (defScope s_NoText___init__) .none kV17 dc17 pm17 an17 (.ref cda17) ct17 cc17), sl17⟩)
    (c17 : PySem.W.codeIn K (.ref cda17) "NoText.__init__" = true)
    (sc17 : K.lookup cda17 = some ⟨ccl17, cdd17, .fields va17, ccs17⟩)
    (sv17 : va17[2]? = some (.str fi17 tf17))
    (sf17 : ((l.prog.main.file : Str) == fi17) = true)
    (se17 : K.lookup cc17 = some ⟨cclB17, ccd17, .cell (some (.ref c_NoText)), ccsB17⟩)
    (su17 : PySem.W.ks_superIn K c_NoText c_NoText "__init__" = some (some (.builtin "ValueError.__init__")))
    (sw17 : PySem.W.subIn K (.ref c_NoText) (.type "ValueError") = some true)
    (sm17 : PySem.W.mroIn K c_NoText (.ref c_NoText) = some true)
    (a18 : PySem.W.findIn K (.ref c_NotPassed) "__init__" = some (some (.ref f18)))
    (i18 : PySem.W.typeIn K (.ref f18) = some (.type "function"))
    (l18 : K.lookup f18 = some ⟨oc18, od18, .func (PySem.W.fnOf "__init__" "NotPassed.__init__" (defArgs s_NotPassed___init__) (defBody s_NotPassed___init__) (defScope s_NotPassed___init__) .none kV18 dc18 pm18 an18 cd18 ct18), sl18⟩)
    (c18 : PySem.W.codeIn K cd18 "NotPassed.__init__" = true)
    (k18 : PySem.W.keepIn K (.ref f18) = true)
    (a19 : PySem.W.findIn K (.ref c_Nothing) "__init__" = some (some (.ref f19)))
    (i19 : PySem.W.typeIn K (.ref f19) = some (.type "function"))
    (l19 : K.lookup f19 = some ⟨oc19, od19, .func (PySem.W.ksFn "__init__" "Nothing.__init__" (defArgs s_Nothing___init__) (defBody s_Nothing___init__) (defScope s_Nothing___init__) .none kV19 dc19 pm19 an19 (.ref cda19) ct19 cc19), sl19⟩)
    (c19 : PySem.W.codeIn K (.ref cda19) "Nothing.__init__" = true)
    (sc19 : K.lookup cda19 = some ⟨ccl19, cdd19, .fields va19, ccs19⟩)
    (sv19 : va19[2]? = some (.str fi19 tf19))
    (sf19 : ((l.prog.main.file : Str) == fi19) = true)
    (se19 : K.lookup cc19 = some ⟨cclB19, ccd19, .cell (some (.ref c_Nothing)), ccsB19⟩)
    (su19 : PySem.W.ks_superIn K c_Nothing c_Nothing "__init__" = some (some (.builtin "ValueError.__init__")))
    (sw19 : PySem.W.subIn K (.ref c_Nothing) (.type "ValueError") = some true)
    (sm19 : PySem.W.mroIn K c_Nothing (.ref c_Nothing) = some true)
    (a20 : PySem.W.findIn K (.ref c_Overdrawn) "__init__" = some (some (.ref f20)))
    (i20 : PySem.W.typeIn K (.ref f20) = some (.type "function"))
    (l20 : K.lookup f20 = some ⟨oc20, od20, .func (PySem.W.fnOf "__init__" "Overdrawn.__init__" (defArgs s_Overdrawn___init__) (defBody s_Overdrawn___init__) (defScope s_Overdrawn___init__) .none kV20 dc20 pm20 an20 cd20 ct20), sl20⟩)
    (c20 : PySem.W.codeIn K cd20 "Overdrawn.__init__" = true)
    (k20 : PySem.W.keepIn K (.ref f20) = true)
    (a21 : PySem.W.findIn K (.ref c_Refused) "__init__" = some (some (.ref f21)))
    (i21 : PySem.W.typeIn K (.ref f21) = some (.type "function"))
    (l21 : K.lookup f21 = some ⟨oc21, od21, .func (PySem.W.fnOf "__init__" "Refused.__init__" (defArgs s_Refused___init__) (defBody s_Refused___init__) (defScope s_Refused___init__) .none kV21 dc21 pm21 an21 cd21 ct21), sl21⟩)
    (c21 : PySem.W.codeIn K cd21 "Refused.__init__" = true)
    (k21 : PySem.W.keepIn K (.ref f21) = true)
    (a22 : PySem.W.findIn K (.ref c_Ring) "__init__" = some (some (.ref f22)))
    (i22 : PySem.W.typeIn K (.ref f22) = some (.type "function"))
    (l22 : K.lookup f22 = some ⟨oc22, od22, .func (PySem.W.fnOf "__init__" "Ring.__init__" (defArgs s_Ring___init__) (defBody s_Ring___init__) (defScope s_Ring___init__) .none kV22 dc22 pm22 an22 cd22 ct22), sl22⟩)
    (c22 : PySem.W.codeIn K cd22 "Ring.__init__" = true)
    (k22 : PySem.W.keepIn K (.ref f22) = true)
    (a23 : PySem.W.findIn K (.ref c_TooMany) "__init__" = some (some (.ref f23)))
    (i23 : PySem.W.typeIn K (.ref f23) = some (.type "function"))
    (l23 : K.lookup f23 = some ⟨oc23, od23, .func (PySem.W.fnOf "__init__" "TooMany.__init__" (defArgs s_TooMany___init__) (defBody s_TooMany___init__) (defScope s_TooMany___init__) .none kV23 dc23 pm23 an23 cd23 ct23), sl23⟩)
    (c23 : PySem.W.codeIn K cd23 "TooMany.__init__" = true)
    (k23 : PySem.W.keepIn K (.ref f23) = true)
    (a24 : PySem.W.findIn K (.ref c_Twice) "__init__" = some (some (.ref f24)))
    (i24 : PySem.W.typeIn K (.ref f24) = some (.type "function"))
    (l24 : K.lookup f24 = some ⟨oc24, od24, .func (PySem.W.fnOf "__init__" "Twice.__init__" (defArgs s_Twice___init__) (defBody s_Twice___init__) (defScope s_Twice___init__) .none kV24 dc24 pm24 an24 cd24 ct24), sl24⟩)
    (c24 : PySem.W.codeIn K cd24 "Twice.__init__" = true)
    (k24 : PySem.W.keepIn K (.ref f24) = true)
    (a25 : PySem.W.findIn K (.ref c_Unknown) "__init__" = some (some (.ref f25)))
    (i25 : PySem.W.typeIn K (.ref f25) = some (.type "function"))
    (l25 : K.lookup f25 = some ⟨oc25, od25, .func (PySem.W.fnOf "__init__" "Unknown.__init__" (defArgs s_Unknown___init__) (defBody s_Unknown___init__) (defScope s_Unknown___init__) .none kV25 dc25 pm25 an25 cd25 ct25), sl25⟩)
    (c25 : PySem.W.codeIn K cd25 "Unknown.__init__" = true)
    (k25 : PySem.W.keepIn K (.ref f25) = true)
    (a26 : PySem.W.findIn K (.ref c_Unlike) "__init__" = some (some (.ref f26)))
    (i26 : PySem.W.typeIn K (.ref f26) = some (.type "function"))
    (l26 : K.lookup f26 = some ⟨oc26, od26, .func (PySem.W.ksFn "__init__" "Unlike.__init__" (defArgs s_Unlike___init__) (defBody s_Unlike___init__) (defScope s_Unlike___init__) .none kV26 dc26 pm26 an26 (.ref cda26) ct26 cc26), sl26⟩)
    (c26 : PySem.W.codeIn K (.ref cda26) "Unlike.__init__" = true)
    (sc26 : K.lookup cda26 = some ⟨ccl26, cdd26, .fields va26, ccs26⟩)
    (sv26 : va26[2]? = some (.str fi26 tf26))
    (sf26 : ((l.prog.main.file : Str) == fi26) = true)
    (se26 : K.lookup cc26 = some ⟨cclB26, ccd26, .cell (some (.ref c_Unlike)), ccsB26⟩)
    (su26 : PySem.W.ks_superIn K c_Unlike c_Unlike "__init__" = some (some (.builtin "ValueError.__init__")))
    (sw26 : PySem.W.subIn K (.ref c_Unlike) (.type "ValueError") = some true)
    (sm26 : PySem.W.mroIn K c_Unlike (.ref c_Unlike) = some true)
    (a27 : PySem.W.findIn K (.ref c_Wrong) "__init__" = some (some (.ref f27)))
    (i27 : PySem.W.typeIn K (.ref f27) = some (.type "function"))
    (l27 : K.lookup f27 = some ⟨oc27, od27, .func (PySem.W.fnOf "__init__" "Wrong.__init__" (defArgs s_Wrong___init__) (defBody s_Wrong___init__) (defScope s_Wrong___init__) .none kV27 dc27 pm27 an27 cd27 ct27), sl27⟩)
    (c27 : PySem.W.codeIn K cd27 "Wrong.__init__" = true)
    (k27 : PySem.W.keepIn K (.ref f27) = true)
    (a28 : PySem.W.nsIn K mainGlobals "_law_made" = some (some (.ref f28)))
    (l28 : K.lookup f28 = some ⟨oc28, od28, .func (PySem.W.fnOf "_law_made" "_law_made" (defArgs s__law_made) (defBody s__law_made) (defScope s__law_made) .none kV28 dc28 pm28 an28 cd28 ct28), sl28⟩)
    (c28 : PySem.W.codeIn K cd28 "_law_made" = true)
    (k28 : PySem.W.keepIn K (.ref f28) = true)
    (a29 : PySem.W.nsIn K mainGlobals "_law_take" = some (some (.ref f29)))
    (l29 : K.lookup f29 = some ⟨oc29, od29, .func (PySem.W.fnOf "_law_take" "_law_take" (defArgs s__law_take) (defBody s__law_take) (defScope s__law_take) .none kV29 dc29 pm29 an29 cd29 ct29), sl29⟩)
    (c29 : PySem.W.codeIn K cd29 "_law_take" = true)
    (k29 : PySem.W.keepIn K (.ref f29) = true)
    (a30 : PySem.W.nsIn K mainGlobals "law" = some (some (.ref f30)))
    (l30 : K.lookup f30 = some ⟨oc30, od30, .func (PySem.W.fnOf "law" "law" (defArgs s_law) (defBody s_law) (defScope s_law) .none kV30 dc30 pm30 an30 cd30 ct30), sl30⟩)
    (c30 : PySem.W.codeIn K cd30 "law" = true)
    (k30 : PySem.W.keepIn K (.ref f30) = true)
    (zb_ValueError : PySem.W.nsIn K mainGlobals "ValueError" = some none)
    (zb_abs : PySem.W.nsIn K mainGlobals "abs" = some none)
    (zb_int : PySem.W.nsIn K mainGlobals "int" = some none)
    (zb_isinstance : PySem.W.nsIn K mainGlobals "isinstance" = some none)
    (zb_len : PySem.W.nsIn K mainGlobals "len" = some none)
    (zb_list : PySem.W.nsIn K mainGlobals "list" = some none)
    (zb_range : PySem.W.nsIn K mainGlobals "range" = some none) :
    ∃ fd : FuncData, (∀ (s : Shared) (v : Value), BindsTo s fd ⟨[v], []⟩ [("_law_script", v)]) ∧ ∀ base : Heap, K.In base → base.Ns mainGlobals mg → FnG l.prog w K mg base CX0 4 fa fd P_law (sp_law K) := by
  have e := hfa.symm.trans (PySem.W.mg_of X G a30)
  cases e
  have T : Bl mg := ⟨trivial, PySem.W.mg_none_of X G zb_ValueError, PySem.W.mg_none_of X G zb_abs, PySem.W.mg_none_of X G zb_int, PySem.W.mg_none_of X G zb_isinstance, PySem.W.mg_none_of X G zb_len, PySem.W.mg_none_of X G zb_list, PySem.W.mg_none_of X G zb_range⟩
  have F0 := fun_mk (st := s__law_bag) l0 c0 k0
  have b0 := F0.binds (ps := P__law_bag) fun _ _ _ _ _ _ us hl => match us, hl with | [_], _ => rfl
  have S1 : SupC l.prog K c_NoStep cc1 (.ref cda1) := ⟨⟨_, _, _, _, _, _, _, rfl, sc1, sv1, sf1⟩, ⟨_, _, _, se1⟩, su1, sw1, sm1, sG_super, sO_super, sM_super⟩
  have F2 := fun_mk (st := s_Unready___init__) l2 c2 k2
  have b2 := F2.binds (ps := P_Unready___init__) fun _ _ _ _ _ _ us hl => match us, hl with | [_, _], _ => rfl
  have F3 := fun_mk (st := s__law_caught) l3 c3 k3
  have b3 := F3.binds (ps := P__law_caught) fun _ _ _ _ _ _ us hl => match us, hl with | [_, _], _ => rfl
  have F4 := fun_mk (st := s__law_flags) l4 c4 k4
  have b4 := F4.binds (ps := P__law_flags) fun _ _ _ _ _ _ us hl => match us, hl with | [_], _ => rfl
  have F5 := fun_mk (st := s__law_kept) l5 c5 k5
  have b5 := F5.binds (ps := P__law_kept) fun _ _ _ _ _ _ us hl => match us, hl with | [_], _ => rfl
  have S6 : SupC l.prog K c_BadFrame cc6 (.ref cda6) := ⟨⟨_, _, _, _, _, _, _, rfl, sc6, sv6, sf6⟩, ⟨_, _, _, se6⟩, su6, sw6, sm6, sG_super, sO_super, sM_super⟩
  have F7 := fun_mk (st := s_BadGuide___init__) l7 c7 k7
  have b7 := F7.binds (ps := P_BadGuide___init__) fun _ _ _ _ _ _ us hl => match us, hl with | [_, _], _ => rfl
  have S8 : SupC l.prog K c_BadSlow cc8 (.ref cda8) := ⟨⟨_, _, _, _, _, _, _, rfl, sc8, sv8, sf8⟩, ⟨_, _, _, se8⟩, su8, sw8, sm8, sG_super, sO_super, sM_super⟩
  have F9 := fun_mk (st := s_Broken___init__) l9 c9 k9
  have b9 := F9.binds (ps := P_Broken___init__) fun _ _ _ _ _ _ us hl => match us, hl with | [_, _], _ => rfl
  have F10 := fun_mk (st := s_Full___init__) l10 c10 k10
  have b10 := F10.binds (ps := P_Full___init__) fun _ _ _ _ _ _ us hl => match us, hl with | [_, _], _ => rfl
  have F11 := fun_mk (st := s_IsSlow___init__) l11 c11 k11
  have b11 := F11.binds (ps := P_IsSlow___init__) fun _ _ _ _ _ _ us hl => match us, hl with | [_, _], _ => rfl
  have F12 := fun_mk (st := s_Narrow___init__) l12 c12 k12
  have b12 := F12.binds (ps := P_Narrow___init__) fun _ _ _ _ _ _ us hl => match us, hl with | [_, _], _ => rfl
  have S13 : SupC l.prog K c_NoCommand cc13 (.ref cda13) := ⟨⟨_, _, _, _, _, _, _, rfl, sc13, sv13, sf13⟩, ⟨_, _, _, se13⟩, su13, sw13, sm13, sG_super, sO_super, sM_super⟩
  have F14 := fun_mk (st := s_NoCredit___init__) l14 c14 k14
  have b14 := F14.binds (ps := P_NoCredit___init__) fun _ _ _ _ _ _ us hl => match us, hl with | [_, _], _ => rfl
  have S15 : SupC l.prog K c_NoDeed cc15 (.ref cda15) := ⟨⟨_, _, _, _, _, _, _, rfl, sc15, sv15, sf15⟩, ⟨_, _, _, se15⟩, su15, sw15, sm15, sG_super, sO_super, sM_super⟩
  have F16 := fun_mk (st := s_NoEntry___init__) l16 c16 k16
  have b16 := F16.binds (ps := P_NoEntry___init__) fun _ _ _ _ _ _ us hl => match us, hl with | [_, _], _ => rfl
  have S17 : SupC l.prog K c_NoText cc17 (.ref cda17) := ⟨⟨_, _, _, _, _, _, _, rfl, sc17, sv17, sf17⟩, ⟨_, _, _, se17⟩, su17, sw17, sm17, sG_super, sO_super, sM_super⟩
  have F18 := fun_mk (st := s_NotPassed___init__) l18 c18 k18
  have b18 := F18.binds (ps := P_NotPassed___init__) fun _ _ _ _ _ _ us hl => match us, hl with | [_, _], _ => rfl
  have S19 : SupC l.prog K c_Nothing cc19 (.ref cda19) := ⟨⟨_, _, _, _, _, _, _, rfl, sc19, sv19, sf19⟩, ⟨_, _, _, se19⟩, su19, sw19, sm19, sG_super, sO_super, sM_super⟩
  have F20 := fun_mk (st := s_Overdrawn___init__) l20 c20 k20
  have b20 := F20.binds (ps := P_Overdrawn___init__) fun _ _ _ _ _ _ us hl => match us, hl with | [_, _], _ => rfl
  have F21 := fun_mk (st := s_Refused___init__) l21 c21 k21
  have b21 := F21.binds (ps := P_Refused___init__) fun _ _ _ _ _ _ us hl => match us, hl with | [_, _], _ => rfl
  have F22 := fun_mk (st := s_Ring___init__) l22 c22 k22
  have b22 := F22.binds (ps := P_Ring___init__) fun _ _ _ _ _ _ us hl => match us, hl with | [_, _], _ => rfl
  have F23 := fun_mk (st := s_TooMany___init__) l23 c23 k23
  have b23 := F23.binds (ps := P_TooMany___init__) fun _ _ _ _ _ _ us hl => match us, hl with | [_, _], _ => rfl
  have F24 := fun_mk (st := s_Twice___init__) l24 c24 k24
  have b24 := F24.binds (ps := P_Twice___init__) fun _ _ _ _ _ _ us hl => match us, hl with | [_, _], _ => rfl
  have F25 := fun_mk (st := s_Unknown___init__) l25 c25 k25
  have b25 := F25.binds (ps := P_Unknown___init__) fun _ _ _ _ _ _ us hl => match us, hl with | [_, _], _ => rfl
  have S26 : SupC l.prog K c_Unlike cc26 (.ref cda26) := ⟨⟨_, _, _, _, _, _, _, rfl, sc26, sv26, sf26⟩, ⟨_, _, _, se26⟩, su26, sw26, sm26, sG_super, sO_super, sM_super⟩
  have F27 := fun_mk (st := s_Wrong___init__) l27 c27 k27
  have b27 := F27.binds (ps := P_Wrong___init__) fun _ _ _ _ _ _ us hl => match us, hl with | [_, _], _ => rfl
  have F28 := fun_mk (st := s__law_made) l28 c28 k28
  have b28 := F28.binds (ps := P__law_made) fun _ _ _ _ _ _ us hl => match us, hl with | [_], _ => rfl
  have F29 := fun_mk (st := s__law_take) l29 c29 k29
  have b29 := F29.binds (ps := P__law_take) fun _ _ _ _ _ _ us hl => match us, hl with | [_, _], _ => rfl
  have F30 := fun_mk (st := s_law) l30 c30 k30
  have b30 := F30.binds (ps := P_law) fun _ _ _ _ _ _ us hl => match us, hl with | [_], _ => rfl
  refine ⟨PySem.W.fnOf "law" "law" (defArgs s_law) (defBody s_law) (defScope s_law) .none kV30 dc30 pm30 an30 cd30 ct30, fun s v => .of_eq rfl, fun base _ _ => ?_⟩
  have E_BadFrame : ErrK K mg "BadFrame" c_BadFrame := ⟨PySem.W.mg_of X G aC_BadFrame, ⟨⟨_, _, _, _, _, _, _, _, _, _, _, _, _, _, _, kl_BadFrame, refs1 _⟩, sa_BadFrame, ex_BadFrame, ty_BadFrame, kc_BadFrame⟩, ⟨ga_BadFrame, gg_BadFrame, ex_BadFrame, hd_BadFrame⟩, ⟨ga_BadFrame, gg_BadFrame, ex_BadFrame, hd_BadFrame, ha_BadFrame, hn_BadFrame, ht_BadFrame, hm_BadFrame⟩⟩
  have E_BadGuide : ErrK K mg "BadGuide" c_BadGuide := ⟨PySem.W.mg_of X G aC_BadGuide, ⟨⟨_, _, _, _, _, _, _, _, _, _, _, _, _, _, _, kl_BadGuide, refs1 _⟩, sa_BadGuide, ex_BadGuide, ty_BadGuide, kc_BadGuide⟩, ⟨ga_BadGuide, gg_BadGuide, ex_BadGuide, hd_BadGuide⟩, ⟨ga_BadGuide, gg_BadGuide, ex_BadGuide, hd_BadGuide, ha_BadGuide, hn_BadGuide, ht_BadGuide, hm_BadGuide⟩⟩
  have E_BadSlow : ErrK K mg "BadSlow" c_BadSlow := ⟨PySem.W.mg_of X G aC_BadSlow, ⟨⟨_, _, _, _, _, _, _, _, _, _, _, _, _, _, _, kl_BadSlow, refs1 _⟩, sa_BadSlow, ex_BadSlow, ty_BadSlow, kc_BadSlow⟩, ⟨ga_BadSlow, gg_BadSlow, ex_BadSlow, hd_BadSlow⟩, ⟨ga_BadSlow, gg_BadSlow, ex_BadSlow, hd_BadSlow, ha_BadSlow, hn_BadSlow, ht_BadSlow, hm_BadSlow⟩⟩
  have E_Broken : ErrK K mg "Broken" c_Broken := ⟨PySem.W.mg_of X G aC_Broken, ⟨⟨_, _, _, _, _, _, _, _, _, _, _, _, _, _, _, kl_Broken, refs1 _⟩, sa_Broken, ex_Broken, ty_Broken, kc_Broken⟩, ⟨ga_Broken, gg_Broken, ex_Broken, hd_Broken⟩, ⟨ga_Broken, gg_Broken, ex_Broken, hd_Broken, ha_Broken, hn_Broken, ht_Broken, hm_Broken⟩⟩
  have E_Full : ErrK K mg "Full" c_Full := ⟨PySem.W.mg_of X G aC_Full, ⟨⟨_, _, _, _, _, _, _, _, _, _, _, _, _, _, _, kl_Full, refs1 _⟩, sa_Full, ex_Full, ty_Full, kc_Full⟩, ⟨ga_Full, gg_Full, ex_Full, hd_Full⟩, ⟨ga_Full, gg_Full, ex_Full, hd_Full, ha_Full, hn_Full, ht_Full, hm_Full⟩⟩
  have E_IsSlow : ErrK K mg "IsSlow" c_IsSlow := ⟨PySem.W.mg_of X G aC_IsSlow, ⟨⟨_, _, _, _, _, _, _, _, _, _, _, _, _, _, _, kl_IsSlow, refs1 _⟩, sa_IsSlow, ex_IsSlow, ty_IsSlow, kc_IsSlow⟩, ⟨ga_IsSlow, gg_IsSlow, ex_IsSlow, hd_IsSlow⟩, ⟨ga_IsSlow, gg_IsSlow, ex_IsSlow, hd_IsSlow, ha_IsSlow, hn_IsSlow, ht_IsSlow, hm_IsSlow⟩⟩
  have E_Narrow : ErrK K mg "Narrow" c_Narrow := ⟨PySem.W.mg_of X G aC_Narrow, ⟨⟨_, _, _, _, _, _, _, _, _, _, _, _, _, _, _, kl_Narrow, refs1 _⟩, sa_Narrow, ex_Narrow, ty_Narrow, kc_Narrow⟩, ⟨ga_Narrow, gg_Narrow, ex_Narrow, hd_Narrow⟩, ⟨ga_Narrow, gg_Narrow, ex_Narrow, hd_Narrow, ha_Narrow, hn_Narrow, ht_Narrow, hm_Narrow⟩⟩
  have E_NoCommand : ErrK K mg "NoCommand" c_NoCommand := ⟨PySem.W.mg_of X G aC_NoCommand, ⟨⟨_, _, _, _, _, _, _, _, _, _, _, _, _, _, _, kl_NoCommand, refs1 _⟩, sa_NoCommand, ex_NoCommand, ty_NoCommand, kc_NoCommand⟩, ⟨ga_NoCommand, gg_NoCommand, ex_NoCommand, hd_NoCommand⟩, ⟨ga_NoCommand, gg_NoCommand, ex_NoCommand, hd_NoCommand, ha_NoCommand, hn_NoCommand, ht_NoCommand, hm_NoCommand⟩⟩
  have E_NoCredit : ErrK K mg "NoCredit" c_NoCredit := ⟨PySem.W.mg_of X G aC_NoCredit, ⟨⟨_, _, _, _, _, _, _, _, _, _, _, _, _, _, _, kl_NoCredit, refs1 _⟩, sa_NoCredit, ex_NoCredit, ty_NoCredit, kc_NoCredit⟩, ⟨ga_NoCredit, gg_NoCredit, ex_NoCredit, hd_NoCredit⟩, ⟨ga_NoCredit, gg_NoCredit, ex_NoCredit, hd_NoCredit, ha_NoCredit, hn_NoCredit, ht_NoCredit, hm_NoCredit⟩⟩
  have E_NoDeed : ErrK K mg "NoDeed" c_NoDeed := ⟨PySem.W.mg_of X G aC_NoDeed, ⟨⟨_, _, _, _, _, _, _, _, _, _, _, _, _, _, _, kl_NoDeed, refs1 _⟩, sa_NoDeed, ex_NoDeed, ty_NoDeed, kc_NoDeed⟩, ⟨ga_NoDeed, gg_NoDeed, ex_NoDeed, hd_NoDeed⟩, ⟨ga_NoDeed, gg_NoDeed, ex_NoDeed, hd_NoDeed, ha_NoDeed, hn_NoDeed, ht_NoDeed, hm_NoDeed⟩⟩
  have E_NoEntry : ErrK K mg "NoEntry" c_NoEntry := ⟨PySem.W.mg_of X G aC_NoEntry, ⟨⟨_, _, _, _, _, _, _, _, _, _, _, _, _, _, _, kl_NoEntry, refs1 _⟩, sa_NoEntry, ex_NoEntry, ty_NoEntry, kc_NoEntry⟩, ⟨ga_NoEntry, gg_NoEntry, ex_NoEntry, hd_NoEntry⟩, ⟨ga_NoEntry, gg_NoEntry, ex_NoEntry, hd_NoEntry, ha_NoEntry, hn_NoEntry, ht_NoEntry, hm_NoEntry⟩⟩
  have E_NoStep : ErrK K mg "NoStep" c_NoStep := ⟨PySem.W.mg_of X G aC_NoStep, ⟨⟨_, _, _, _, _, _, _, _, _, _, _, _, _, _, _, kl_NoStep, refs1 _⟩, sa_NoStep, ex_NoStep, ty_NoStep, kc_NoStep⟩, ⟨ga_NoStep, gg_NoStep, ex_NoStep, hd_NoStep⟩, ⟨ga_NoStep, gg_NoStep, ex_NoStep, hd_NoStep, ha_NoStep, hn_NoStep, ht_NoStep, hm_NoStep⟩⟩
  have E_NoText : ErrK K mg "NoText" c_NoText := ⟨PySem.W.mg_of X G aC_NoText, ⟨⟨_, _, _, _, _, _, _, _, _, _, _, _, _, _, _, kl_NoText, refs1 _⟩, sa_NoText, ex_NoText, ty_NoText, kc_NoText⟩, ⟨ga_NoText, gg_NoText, ex_NoText, hd_NoText⟩, ⟨ga_NoText, gg_NoText, ex_NoText, hd_NoText, ha_NoText, hn_NoText, ht_NoText, hm_NoText⟩⟩
  have E_NotPassed : ErrK K mg "NotPassed" c_NotPassed := ⟨PySem.W.mg_of X G aC_NotPassed, ⟨⟨_, _, _, _, _, _, _, _, _, _, _, _, _, _, _, kl_NotPassed, refs1 _⟩, sa_NotPassed, ex_NotPassed, ty_NotPassed, kc_NotPassed⟩, ⟨ga_NotPassed, gg_NotPassed, ex_NotPassed, hd_NotPassed⟩, ⟨ga_NotPassed, gg_NotPassed, ex_NotPassed, hd_NotPassed, ha_NotPassed, hn_NotPassed, ht_NotPassed, hm_NotPassed⟩⟩
  have E_Nothing : ErrK K mg "Nothing" c_Nothing := ⟨PySem.W.mg_of X G aC_Nothing, ⟨⟨_, _, _, _, _, _, _, _, _, _, _, _, _, _, _, kl_Nothing, refs1 _⟩, sa_Nothing, ex_Nothing, ty_Nothing, kc_Nothing⟩, ⟨ga_Nothing, gg_Nothing, ex_Nothing, hd_Nothing⟩, ⟨ga_Nothing, gg_Nothing, ex_Nothing, hd_Nothing, ha_Nothing, hn_Nothing, ht_Nothing, hm_Nothing⟩⟩
  have E_Overdrawn : ErrK K mg "Overdrawn" c_Overdrawn := ⟨PySem.W.mg_of X G aC_Overdrawn, ⟨⟨_, _, _, _, _, _, _, _, _, _, _, _, _, _, _, kl_Overdrawn, refs1 _⟩, sa_Overdrawn, ex_Overdrawn, ty_Overdrawn, kc_Overdrawn⟩, ⟨ga_Overdrawn, gg_Overdrawn, ex_Overdrawn, hd_Overdrawn⟩, ⟨ga_Overdrawn, gg_Overdrawn, ex_Overdrawn, hd_Overdrawn, ha_Overdrawn, hn_Overdrawn, ht_Overdrawn, hm_Overdrawn⟩⟩
  have E_PipeError : ErrK K mg "PipeError" c_PipeError := ⟨PySem.W.mg_of X G aC_PipeError, ⟨⟨_, _, _, _, _, _, _, _, _, _, _, _, _, _, _, kl_PipeError, refs0⟩, sa_PipeError, ex_PipeError, ty_PipeError, kc_PipeError⟩, ⟨ga_PipeError, gg_PipeError, ex_PipeError, hd_PipeError⟩, ⟨ga_PipeError, gg_PipeError, ex_PipeError, hd_PipeError, ha_PipeError, hn_PipeError, ht_PipeError, hm_PipeError⟩⟩
  have E_Refused : ErrK K mg "Refused" c_Refused := ⟨PySem.W.mg_of X G aC_Refused, ⟨⟨_, _, _, _, _, _, _, _, _, _, _, _, _, _, _, kl_Refused, refs1 _⟩, sa_Refused, ex_Refused, ty_Refused, kc_Refused⟩, ⟨ga_Refused, gg_Refused, ex_Refused, hd_Refused⟩, ⟨ga_Refused, gg_Refused, ex_Refused, hd_Refused, ha_Refused, hn_Refused, ht_Refused, hm_Refused⟩⟩
  have E_Ring : ErrK K mg "Ring" c_Ring := ⟨PySem.W.mg_of X G aC_Ring, ⟨⟨_, _, _, _, _, _, _, _, _, _, _, _, _, _, _, kl_Ring, refs1 _⟩, sa_Ring, ex_Ring, ty_Ring, kc_Ring⟩, ⟨ga_Ring, gg_Ring, ex_Ring, hd_Ring⟩, ⟨ga_Ring, gg_Ring, ex_Ring, hd_Ring, ha_Ring, hn_Ring, ht_Ring, hm_Ring⟩⟩
  have E_TooMany : ErrK K mg "TooMany" c_TooMany := ⟨PySem.W.mg_of X G aC_TooMany, ⟨⟨_, _, _, _, _, _, _, _, _, _, _, _, _, _, _, kl_TooMany, refs1 _⟩, sa_TooMany, ex_TooMany, ty_TooMany, kc_TooMany⟩, ⟨ga_TooMany, gg_TooMany, ex_TooMany, hd_TooMany⟩, ⟨ga_TooMany, gg_TooMany, ex_TooMany, hd_TooMany, ha_TooMany, hn_TooMany, ht_TooMany, hm_TooMany⟩⟩
  have E_Twice : ErrK K mg "Twice" c_Twice := ⟨PySem.W.mg_of X G aC_Twice, ⟨⟨_, _, _, _, _, _, _, _, _, _, _, _, _, _, _, kl_Twice, refs1 _⟩, sa_Twice, ex_Twice, ty_Twice, kc_Twice⟩, ⟨ga_Twice, gg_Twice, ex_Twice, hd_Twice⟩, ⟨ga_Twice, gg_Twice, ex_Twice, hd_Twice, ha_Twice, hn_Twice, ht_Twice, hm_Twice⟩⟩
  have E_Unknown : ErrK K mg "Unknown" c_Unknown := ⟨PySem.W.mg_of X G aC_Unknown, ⟨⟨_, _, _, _, _, _, _, _, _, _, _, _, _, _, _, kl_Unknown, refs1 _⟩, sa_Unknown, ex_Unknown, ty_Unknown, kc_Unknown⟩, ⟨ga_Unknown, gg_Unknown, ex_Unknown, hd_Unknown⟩, ⟨ga_Unknown, gg_Unknown, ex_Unknown, hd_Unknown, ha_Unknown, hn_Unknown, ht_Unknown, hm_Unknown⟩⟩
  have E_Unlike : ErrK K mg "Unlike" c_Unlike := ⟨PySem.W.mg_of X G aC_Unlike, ⟨⟨_, _, _, _, _, _, _, _, _, _, _, _, _, _, _, kl_Unlike, refs1 _⟩, sa_Unlike, ex_Unlike, ty_Unlike, kc_Unlike⟩, ⟨ga_Unlike, gg_Unlike, ex_Unlike, hd_Unlike⟩, ⟨ga_Unlike, gg_Unlike, ex_Unlike, hd_Unlike, ha_Unlike, hn_Unlike, ht_Unlike, hm_Unlike⟩⟩
  have E_Unready : ErrK K mg "Unready" c_Unready := ⟨PySem.W.mg_of X G aC_Unready, ⟨⟨_, _, _, _, _, _, _, _, _, _, _, _, _, _, _, kl_Unready, refs1 _⟩, sa_Unready, ex_Unready, ty_Unready, kc_Unready⟩, ⟨ga_Unready, gg_Unready, ex_Unready, hd_Unready⟩, ⟨ga_Unready, gg_Unready, ex_Unready, hd_Unready, ha_Unready, hn_Unready, ht_Unready, hm_Unready⟩⟩
  have E_Wrong : ErrK K mg "Wrong" c_Wrong := ⟨PySem.W.mg_of X G aC_Wrong, ⟨⟨_, _, _, _, _, _, _, _, _, _, _, _, _, _, _, kl_Wrong, refs1 _⟩, sa_Wrong, ex_Wrong, ty_Wrong, kc_Wrong⟩, ⟨ga_Wrong, gg_Wrong, ex_Wrong, hd_Wrong⟩, ⟨ga_Wrong, gg_Wrong, ex_Wrong, hd_Wrong, ha_Wrong, hn_Wrong, ht_Wrong, hm_Wrong⟩⟩
  have fx_Fx10 : Fx10 K ({ PipeError := c_PipeError, Wrong := c_Wrong, TooMany := c_TooMany, Overdrawn := c_Overdrawn, NotPassed := c_NotPassed, Rule := 0, Account := 0, Twice := c_Twice, Unknown := c_Unknown, Ring := c_Ring, BadGuide := c_BadGuide, Narrow := c_Narrow, NoStep := c_NoStep, Unready := c_Unready, NoCredit := c_NoCredit, Nothing := c_Nothing, Broken := c_Broken, BadSlow := c_BadSlow, BadFrame := c_BadFrame, IsSlow := c_IsSlow, Unlike := c_Unlike, NoDeed := c_NoDeed, Full := c_Full, Refused := c_Refused, NoEntry := c_NoEntry, NoText := c_NoText, NoCommand := c_NoCommand } : Cs) := Fx10.of tab10 (fun i hi => match i, hi with | 0, _ => E_Wrong.oex | 1, _ => E_TooMany.oex | 2, _ => E_Overdrawn.oex | 3, _ => E_NotPassed.oex | 4, _ => E_Twice.oex | 5, _ => E_Unknown.oex | 6, _ => E_Ring.oex | 7, _ => E_BadGuide.oex | 8, _ => E_Narrow.oex | 9, _ => E_Unready.oex | 10, _ => E_NoCredit.oex | 11, _ => E_Broken.oex | 12, _ => E_IsSlow.oex | 13, _ => E_Full.oex | 14, _ => E_Refused.oex | 15, _ => E_NoEntry.oex | 16, _ => E_NoStep.oex | 17, _ => E_Nothing.oex | 18, _ => E_BadSlow.oex | 19, _ => E_BadFrame.oex | 20, _ => E_Unlike.oex | 21, _ => E_NoDeed.oex | 22, _ => E_NoText.oex | 23, _ => E_NoCommand.oex | 24, _ => E_PipeError.oex | n + 25, z => absurd z (by omega)) (fun i hi => match i, hi with | 0, _ => E_Wrong.ex | 1, _ => E_TooMany.ex | 2, _ => E_Overdrawn.ex | 3, _ => E_NotPassed.ex | 4, _ => E_Twice.ex | 5, _ => E_Unknown.ex | 6, _ => E_Ring.ex | 7, _ => E_BadGuide.ex | 8, _ => E_Narrow.ex | 9, _ => E_Unready.ex | 10, _ => E_NoCredit.ex | 11, _ => E_Broken.ex | 12, _ => E_IsSlow.ex | 13, _ => E_Full.ex | 14, _ => E_Refused.ex | 15, _ => E_NoEntry.ex | 16, _ => E_NoStep.ex | 17, _ => E_Nothing.ex | 18, _ => E_BadSlow.ex | 19, _ => E_BadFrame.ex | 20, _ => E_Unlike.ex | 21, _ => E_NoDeed.ex | 22, _ => E_NoText.ex | 23, _ => E_NoCommand.ex | 24, _ => E_PipeError.ex | n + 25, z => absurd z (by omega)) (fun i hi => match i, hi with | 0, _ => E_Wrong.xf | 1, _ => E_TooMany.xf | 2, _ => E_Overdrawn.xf | 3, _ => E_NotPassed.xf | 4, _ => E_Twice.xf | 5, _ => E_Unknown.xf | 6, _ => E_Ring.xf | 7, _ => E_BadGuide.xf | 8, _ => E_Narrow.xf | 9, _ => E_Unready.xf | 10, _ => E_NoCredit.xf | 11, _ => E_Broken.xf | 12, _ => E_IsSlow.xf | 13, _ => E_Full.xf | 14, _ => E_Refused.xf | 15, _ => E_NoEntry.xf | 16, _ => E_NoStep.xf | 17, _ => E_Nothing.xf | 18, _ => E_BadSlow.xf | 19, _ => E_BadFrame.xf | 20, _ => E_Unlike.xf | 21, _ => E_NoDeed.xf | 22, _ => E_NoText.xf | 23, _ => E_NoCommand.xf | 24, _ => E_PipeError.xf | n + 25, z => absurd z (by omega)) (fun i hi => match i, hi with | 0, _ => nf_Wrong | 1, _ => nf_TooMany | 2, _ => nf_Overdrawn | 3, _ => nf_NotPassed | 4, _ => nf_Twice | 5, _ => nf_Unknown | 6, _ => nf_Ring | 7, _ => nf_BadGuide | 8, _ => nf_Narrow | 9, _ => nf_Unready | 10, _ => nf_NoCredit | 11, _ => nf_Broken | 12, _ => nf_IsSlow | 13, _ => nf_Full | 14, _ => nf_Refused | 15, _ => nf_NoEntry | n + 16, z => absurd z (by omega))
  have f__law_bag : Cal l.prog w K mg base CX0 1 "_law_bag" P__law_bag [] (sp_law_bag K) := ⟨_, _, ok__law_bag  (P := l.prog) (w := w) (base := base) F0 T  , PySem.W.mg_of X G a0, k0, b0⟩
  have i_NoStep : ErrI l.prog w K mg base 1 c_NoStep P_NoStep___init__ (rSup K c_NoStep) := ⟨_, _, sup_mk (st := s_NoStep___init__) l1 c1 S1 rfl rfl rfl rfl rfl (by decide +kernel) rfl rfl rfl rfl fun _ => ⟨_, rfl⟩, a1, i1, Binds.all fun us hl => match us, hl with | [_], _ => rfl⟩
  have i_Unready : ErrI l.prog w K mg base 1 c_Unready P_Unready___init__ (rOneI K c_Unready "stream") := ⟨_, _, ok_Unready___init__ (C := ({ PipeError := c_PipeError, Wrong := c_Wrong, TooMany := c_TooMany, Overdrawn := c_Overdrawn, NotPassed := c_NotPassed, Rule := 0, Account := 0, Twice := c_Twice, Unknown := c_Unknown, Ring := c_Ring, BadGuide := c_BadGuide, Narrow := c_Narrow, NoStep := c_NoStep, Unready := c_Unready, NoCredit := c_NoCredit, Nothing := c_Nothing, Broken := c_Broken, BadSlow := c_BadSlow, BadFrame := c_BadFrame, IsSlow := c_IsSlow, Unlike := c_Unlike, NoDeed := c_NoDeed, Full := c_Full, Refused := c_Refused, NoEntry := c_NoEntry, NoText := c_NoText, NoCommand := c_NoCommand } : Cs)) (P := l.prog) (w := w) (base := base) F2 T  , a2, i2, b2⟩
  have f__law_caught : Cal l.prog w K mg base CX0 3 "_law_caught" P__law_caught [] (sp_law_caught K ({ PipeError := c_PipeError, Wrong := c_Wrong, TooMany := c_TooMany, Overdrawn := c_Overdrawn, NotPassed := c_NotPassed, Rule := 0, Account := 0, Twice := c_Twice, Unknown := c_Unknown, Ring := c_Ring, BadGuide := c_BadGuide, Narrow := c_Narrow, NoStep := c_NoStep, Unready := c_Unready, NoCredit := c_NoCredit, Nothing := c_Nothing, Broken := c_Broken, BadSlow := c_BadSlow, BadFrame := c_BadFrame, IsSlow := c_IsSlow, Unlike := c_Unlike, NoDeed := c_NoDeed, Full := c_Full, Refused := c_Refused, NoEntry := c_NoEntry, NoText := c_NoText, NoCommand := c_NoCommand } : Cs)) := ⟨_, _, ok__law_caught (C := ({ PipeError := c_PipeError, Wrong := c_Wrong, TooMany := c_TooMany, Overdrawn := c_Overdrawn, NotPassed := c_NotPassed, Rule := 0, Account := 0, Twice := c_Twice, Unknown := c_Unknown, Ring := c_Ring, BadGuide := c_BadGuide, Narrow := c_Narrow, NoStep := c_NoStep, Unready := c_Unready, NoCredit := c_NoCredit, Nothing := c_Nothing, Broken := c_Broken, BadSlow := c_BadSlow, BadFrame := c_BadFrame, IsSlow := c_IsSlow, Unlike := c_Unlike, NoDeed := c_NoDeed, Full := c_Full, Refused := c_Refused, NoEntry := c_NoEntry, NoText := c_NoText, NoCommand := c_NoCommand } : Cs)) (P := l.prog) (w := w) (base := base) F3 T  E_PipeError q_PipeError E_NoStep i_NoStep E_Unready i_Unready, PySem.W.mg_of X G a3, k3, b3⟩
  have f__law_flags : Cal l.prog w K mg base CX0 1 "_law_flags" P__law_flags [] (sp_law_flags K ({ PipeError := c_PipeError, Wrong := c_Wrong, TooMany := c_TooMany, Overdrawn := c_Overdrawn, NotPassed := c_NotPassed, Rule := 0, Account := 0, Twice := c_Twice, Unknown := c_Unknown, Ring := c_Ring, BadGuide := c_BadGuide, Narrow := c_Narrow, NoStep := c_NoStep, Unready := c_Unready, NoCredit := c_NoCredit, Nothing := c_Nothing, Broken := c_Broken, BadSlow := c_BadSlow, BadFrame := c_BadFrame, IsSlow := c_IsSlow, Unlike := c_Unlike, NoDeed := c_NoDeed, Full := c_Full, Refused := c_Refused, NoEntry := c_NoEntry, NoText := c_NoText, NoCommand := c_NoCommand } : Cs)) := ⟨_, _, ok__law_flags (C := ({ PipeError := c_PipeError, Wrong := c_Wrong, TooMany := c_TooMany, Overdrawn := c_Overdrawn, NotPassed := c_NotPassed, Rule := 0, Account := 0, Twice := c_Twice, Unknown := c_Unknown, Ring := c_Ring, BadGuide := c_BadGuide, Narrow := c_Narrow, NoStep := c_NoStep, Unready := c_Unready, NoCredit := c_NoCredit, Nothing := c_Nothing, Broken := c_Broken, BadSlow := c_BadSlow, BadFrame := c_BadFrame, IsSlow := c_IsSlow, Unlike := c_Unlike, NoDeed := c_NoDeed, Full := c_Full, Refused := c_Refused, NoEntry := c_NoEntry, NoText := c_NoText, NoCommand := c_NoCommand } : Cs)) (P := l.prog) (w := w) (base := base) F4 T  E_NoCommand E_NoText E_NoDeed E_Unlike E_BadFrame E_BadSlow E_Nothing E_NoStep E_NoEntry E_Refused E_Full E_IsSlow E_Broken E_NoCredit E_Unready E_Narrow E_BadGuide E_Ring E_Unknown E_Twice E_NotPassed E_Overdrawn E_TooMany E_Wrong, PySem.W.mg_of X G a4, k4, b4⟩
  have f__law_kept : Cal l.prog w K mg base CX0 1 "_law_kept" P__law_kept [] (sp_law_kept K ({ PipeError := c_PipeError, Wrong := c_Wrong, TooMany := c_TooMany, Overdrawn := c_Overdrawn, NotPassed := c_NotPassed, Rule := 0, Account := 0, Twice := c_Twice, Unknown := c_Unknown, Ring := c_Ring, BadGuide := c_BadGuide, Narrow := c_Narrow, NoStep := c_NoStep, Unready := c_Unready, NoCredit := c_NoCredit, Nothing := c_Nothing, Broken := c_Broken, BadSlow := c_BadSlow, BadFrame := c_BadFrame, IsSlow := c_IsSlow, Unlike := c_Unlike, NoDeed := c_NoDeed, Full := c_Full, Refused := c_Refused, NoEntry := c_NoEntry, NoText := c_NoText, NoCommand := c_NoCommand } : Cs)) := ⟨_, _, ok__law_kept (C := ({ PipeError := c_PipeError, Wrong := c_Wrong, TooMany := c_TooMany, Overdrawn := c_Overdrawn, NotPassed := c_NotPassed, Rule := 0, Account := 0, Twice := c_Twice, Unknown := c_Unknown, Ring := c_Ring, BadGuide := c_BadGuide, Narrow := c_Narrow, NoStep := c_NoStep, Unready := c_Unready, NoCredit := c_NoCredit, Nothing := c_Nothing, Broken := c_Broken, BadSlow := c_BadSlow, BadFrame := c_BadFrame, IsSlow := c_IsSlow, Unlike := c_Unlike, NoDeed := c_NoDeed, Full := c_Full, Refused := c_Refused, NoEntry := c_NoEntry, NoText := c_NoText, NoCommand := c_NoCommand } : Cs)) (P := l.prog) (w := w) (base := base) F5 T  , PySem.W.mg_of X G a5, k5, b5⟩
  have i_BadFrame : ErrI l.prog w K mg base 1 c_BadFrame P_BadFrame___init__ (rSup K c_BadFrame) := ⟨_, _, sup_mk (st := s_BadFrame___init__) l6 c6 S6 rfl rfl rfl rfl rfl (by decide +kernel) rfl rfl rfl rfl fun _ => ⟨_, rfl⟩, a6, i6, Binds.all fun us hl => match us, hl with | [_], _ => rfl⟩
  have i_BadGuide : ErrI l.prog w K mg base 1 c_BadGuide P_BadGuide___init__ (rOneI K c_BadGuide "name") := ⟨_, _, ok_BadGuide___init__ (C := ({ PipeError := c_PipeError, Wrong := c_Wrong, TooMany := c_TooMany, Overdrawn := c_Overdrawn, NotPassed := c_NotPassed, Rule := 0, Account := 0, Twice := c_Twice, Unknown := c_Unknown, Ring := c_Ring, BadGuide := c_BadGuide, Narrow := c_Narrow, NoStep := c_NoStep, Unready := c_Unready, NoCredit := c_NoCredit, Nothing := c_Nothing, Broken := c_Broken, BadSlow := c_BadSlow, BadFrame := c_BadFrame, IsSlow := c_IsSlow, Unlike := c_Unlike, NoDeed := c_NoDeed, Full := c_Full, Refused := c_Refused, NoEntry := c_NoEntry, NoText := c_NoText, NoCommand := c_NoCommand } : Cs)) (P := l.prog) (w := w) (base := base) F7 T  , a7, i7, b7⟩
  have i_BadSlow : ErrI l.prog w K mg base 1 c_BadSlow P_BadSlow___init__ (rSup K c_BadSlow) := ⟨_, _, sup_mk (st := s_BadSlow___init__) l8 c8 S8 rfl rfl rfl rfl rfl (by decide +kernel) rfl rfl rfl rfl fun _ => ⟨_, rfl⟩, a8, i8, Binds.all fun us hl => match us, hl with | [_], _ => rfl⟩
  have i_Broken : ErrI l.prog w K mg base 1 c_Broken P_Broken___init__ (rOneI K c_Broken "at") := ⟨_, _, ok_Broken___init__ (C := ({ PipeError := c_PipeError, Wrong := c_Wrong, TooMany := c_TooMany, Overdrawn := c_Overdrawn, NotPassed := c_NotPassed, Rule := 0, Account := 0, Twice := c_Twice, Unknown := c_Unknown, Ring := c_Ring, BadGuide := c_BadGuide, Narrow := c_Narrow, NoStep := c_NoStep, Unready := c_Unready, NoCredit := c_NoCredit, Nothing := c_Nothing, Broken := c_Broken, BadSlow := c_BadSlow, BadFrame := c_BadFrame, IsSlow := c_IsSlow, Unlike := c_Unlike, NoDeed := c_NoDeed, Full := c_Full, Refused := c_Refused, NoEntry := c_NoEntry, NoText := c_NoText, NoCommand := c_NoCommand } : Cs)) (P := l.prog) (w := w) (base := base) F9 T  , a9, i9, b9⟩
  have i_Full : ErrI l.prog w K mg base 1 c_Full P_Full___init__ (rOneI K c_Full "limit") := ⟨_, _, ok_Full___init__ (C := ({ PipeError := c_PipeError, Wrong := c_Wrong, TooMany := c_TooMany, Overdrawn := c_Overdrawn, NotPassed := c_NotPassed, Rule := 0, Account := 0, Twice := c_Twice, Unknown := c_Unknown, Ring := c_Ring, BadGuide := c_BadGuide, Narrow := c_Narrow, NoStep := c_NoStep, Unready := c_Unready, NoCredit := c_NoCredit, Nothing := c_Nothing, Broken := c_Broken, BadSlow := c_BadSlow, BadFrame := c_BadFrame, IsSlow := c_IsSlow, Unlike := c_Unlike, NoDeed := c_NoDeed, Full := c_Full, Refused := c_Refused, NoEntry := c_NoEntry, NoText := c_NoText, NoCommand := c_NoCommand } : Cs)) (P := l.prog) (w := w) (base := base) F10 T  , a10, i10, b10⟩
  have i_IsSlow : ErrI l.prog w K mg base 1 c_IsSlow P_IsSlow___init__ (rOneI K c_IsSlow "stream") := ⟨_, _, ok_IsSlow___init__ (C := ({ PipeError := c_PipeError, Wrong := c_Wrong, TooMany := c_TooMany, Overdrawn := c_Overdrawn, NotPassed := c_NotPassed, Rule := 0, Account := 0, Twice := c_Twice, Unknown := c_Unknown, Ring := c_Ring, BadGuide := c_BadGuide, Narrow := c_Narrow, NoStep := c_NoStep, Unready := c_Unready, NoCredit := c_NoCredit, Nothing := c_Nothing, Broken := c_Broken, BadSlow := c_BadSlow, BadFrame := c_BadFrame, IsSlow := c_IsSlow, Unlike := c_Unlike, NoDeed := c_NoDeed, Full := c_Full, Refused := c_Refused, NoEntry := c_NoEntry, NoText := c_NoText, NoCommand := c_NoCommand } : Cs)) (P := l.prog) (w := w) (base := base) F11 T  , a11, i11, b11⟩
  have i_Narrow : ErrI l.prog w K mg base 1 c_Narrow P_Narrow___init__ (rOneI K c_Narrow "name") := ⟨_, _, ok_Narrow___init__ (C := ({ PipeError := c_PipeError, Wrong := c_Wrong, TooMany := c_TooMany, Overdrawn := c_Overdrawn, NotPassed := c_NotPassed, Rule := 0, Account := 0, Twice := c_Twice, Unknown := c_Unknown, Ring := c_Ring, BadGuide := c_BadGuide, Narrow := c_Narrow, NoStep := c_NoStep, Unready := c_Unready, NoCredit := c_NoCredit, Nothing := c_Nothing, Broken := c_Broken, BadSlow := c_BadSlow, BadFrame := c_BadFrame, IsSlow := c_IsSlow, Unlike := c_Unlike, NoDeed := c_NoDeed, Full := c_Full, Refused := c_Refused, NoEntry := c_NoEntry, NoText := c_NoText, NoCommand := c_NoCommand } : Cs)) (P := l.prog) (w := w) (base := base) F12 T  , a12, i12, b12⟩
  have i_NoCommand : ErrI l.prog w K mg base 1 c_NoCommand P_NoCommand___init__ (rSup K c_NoCommand) := ⟨_, _, sup_mk (st := s_NoCommand___init__) l13 c13 S13 rfl rfl rfl rfl rfl (by decide +kernel) rfl rfl rfl rfl fun _ => ⟨_, rfl⟩, a13, i13, Binds.all fun us hl => match us, hl with | [_], _ => rfl⟩
  have i_NoCredit : ErrI l.prog w K mg base 1 c_NoCredit P_NoCredit___init__ (rOneI K c_NoCredit "name") := ⟨_, _, ok_NoCredit___init__ (C := ({ PipeError := c_PipeError, Wrong := c_Wrong, TooMany := c_TooMany, Overdrawn := c_Overdrawn, NotPassed := c_NotPassed, Rule := 0, Account := 0, Twice := c_Twice, Unknown := c_Unknown, Ring := c_Ring, BadGuide := c_BadGuide, Narrow := c_Narrow, NoStep := c_NoStep, Unready := c_Unready, NoCredit := c_NoCredit, Nothing := c_Nothing, Broken := c_Broken, BadSlow := c_BadSlow, BadFrame := c_BadFrame, IsSlow := c_IsSlow, Unlike := c_Unlike, NoDeed := c_NoDeed, Full := c_Full, Refused := c_Refused, NoEntry := c_NoEntry, NoText := c_NoText, NoCommand := c_NoCommand } : Cs)) (P := l.prog) (w := w) (base := base) F14 T  , a14, i14, b14⟩
  have i_NoDeed : ErrI l.prog w K mg base 1 c_NoDeed P_NoDeed___init__ (rSup K c_NoDeed) := ⟨_, _, sup_mk (st := s_NoDeed___init__) l15 c15 S15 rfl rfl rfl rfl rfl (by decide +kernel) rfl rfl rfl rfl fun _ => ⟨_, rfl⟩, a15, i15, Binds.all fun us hl => match us, hl with | [_], _ => rfl⟩
  have i_NoEntry : ErrI l.prog w K mg base 1 c_NoEntry P_NoEntry___init__ (rOneI K c_NoEntry "many") := ⟨_, _, ok_NoEntry___init__ (C := ({ PipeError := c_PipeError, Wrong := c_Wrong, TooMany := c_TooMany, Overdrawn := c_Overdrawn, NotPassed := c_NotPassed, Rule := 0, Account := 0, Twice := c_Twice, Unknown := c_Unknown, Ring := c_Ring, BadGuide := c_BadGuide, Narrow := c_Narrow, NoStep := c_NoStep, Unready := c_Unready, NoCredit := c_NoCredit, Nothing := c_Nothing, Broken := c_Broken, BadSlow := c_BadSlow, BadFrame := c_BadFrame, IsSlow := c_IsSlow, Unlike := c_Unlike, NoDeed := c_NoDeed, Full := c_Full, Refused := c_Refused, NoEntry := c_NoEntry, NoText := c_NoText, NoCommand := c_NoCommand } : Cs)) (P := l.prog) (w := w) (base := base) F16 T  , a16, i16, b16⟩
  have i_NoText : ErrI l.prog w K mg base 1 c_NoText P_NoText___init__ (rSup K c_NoText) := ⟨_, _, sup_mk (st := s_NoText___init__) l17 c17 S17 rfl rfl rfl rfl rfl (by decide +kernel) rfl rfl rfl rfl fun _ => ⟨_, rfl⟩, a17, i17, Binds.all fun us hl => match us, hl with | [_], _ => rfl⟩
  have i_NotPassed : ErrI l.prog w K mg base 1 c_NotPassed P_NotPassed___init__ (rOneI K c_NotPassed "many") := ⟨_, _, ok_NotPassed___init__ (C := ({ PipeError := c_PipeError, Wrong := c_Wrong, TooMany := c_TooMany, Overdrawn := c_Overdrawn, NotPassed := c_NotPassed, Rule := 0, Account := 0, Twice := c_Twice, Unknown := c_Unknown, Ring := c_Ring, BadGuide := c_BadGuide, Narrow := c_Narrow, NoStep := c_NoStep, Unready := c_Unready, NoCredit := c_NoCredit, Nothing := c_Nothing, Broken := c_Broken, BadSlow := c_BadSlow, BadFrame := c_BadFrame, IsSlow := c_IsSlow, Unlike := c_Unlike, NoDeed := c_NoDeed, Full := c_Full, Refused := c_Refused, NoEntry := c_NoEntry, NoText := c_NoText, NoCommand := c_NoCommand } : Cs)) (P := l.prog) (w := w) (base := base) F18 T  , a18, i18, b18⟩
  have i_Nothing : ErrI l.prog w K mg base 1 c_Nothing P_Nothing___init__ (rSup K c_Nothing) := ⟨_, _, sup_mk (st := s_Nothing___init__) l19 c19 S19 rfl rfl rfl rfl rfl (by decide +kernel) rfl rfl rfl rfl fun _ => ⟨_, rfl⟩, a19, i19, Binds.all fun us hl => match us, hl with | [_], _ => rfl⟩
  have i_Overdrawn : ErrI l.prog w K mg base 1 c_Overdrawn P_Overdrawn___init__ (rOneI K c_Overdrawn "many") := ⟨_, _, ok_Overdrawn___init__ (C := ({ PipeError := c_PipeError, Wrong := c_Wrong, TooMany := c_TooMany, Overdrawn := c_Overdrawn, NotPassed := c_NotPassed, Rule := 0, Account := 0, Twice := c_Twice, Unknown := c_Unknown, Ring := c_Ring, BadGuide := c_BadGuide, Narrow := c_Narrow, NoStep := c_NoStep, Unready := c_Unready, NoCredit := c_NoCredit, Nothing := c_Nothing, Broken := c_Broken, BadSlow := c_BadSlow, BadFrame := c_BadFrame, IsSlow := c_IsSlow, Unlike := c_Unlike, NoDeed := c_NoDeed, Full := c_Full, Refused := c_Refused, NoEntry := c_NoEntry, NoText := c_NoText, NoCommand := c_NoCommand } : Cs)) (P := l.prog) (w := w) (base := base) F20 T  , a20, i20, b20⟩
  have i_Refused : ErrI l.prog w K mg base 1 c_Refused P_Refused___init__ (rOneI K c_Refused "deed") := ⟨_, _, ok_Refused___init__ (C := ({ PipeError := c_PipeError, Wrong := c_Wrong, TooMany := c_TooMany, Overdrawn := c_Overdrawn, NotPassed := c_NotPassed, Rule := 0, Account := 0, Twice := c_Twice, Unknown := c_Unknown, Ring := c_Ring, BadGuide := c_BadGuide, Narrow := c_Narrow, NoStep := c_NoStep, Unready := c_Unready, NoCredit := c_NoCredit, Nothing := c_Nothing, Broken := c_Broken, BadSlow := c_BadSlow, BadFrame := c_BadFrame, IsSlow := c_IsSlow, Unlike := c_Unlike, NoDeed := c_NoDeed, Full := c_Full, Refused := c_Refused, NoEntry := c_NoEntry, NoText := c_NoText, NoCommand := c_NoCommand } : Cs)) (P := l.prog) (w := w) (base := base) F21 T  , a21, i21, b21⟩
  have i_Ring : ErrI l.prog w K mg base 1 c_Ring P_Ring___init__ (rOneI K c_Ring "name") := ⟨_, _, ok_Ring___init__ (C := ({ PipeError := c_PipeError, Wrong := c_Wrong, TooMany := c_TooMany, Overdrawn := c_Overdrawn, NotPassed := c_NotPassed, Rule := 0, Account := 0, Twice := c_Twice, Unknown := c_Unknown, Ring := c_Ring, BadGuide := c_BadGuide, Narrow := c_Narrow, NoStep := c_NoStep, Unready := c_Unready, NoCredit := c_NoCredit, Nothing := c_Nothing, Broken := c_Broken, BadSlow := c_BadSlow, BadFrame := c_BadFrame, IsSlow := c_IsSlow, Unlike := c_Unlike, NoDeed := c_NoDeed, Full := c_Full, Refused := c_Refused, NoEntry := c_NoEntry, NoText := c_NoText, NoCommand := c_NoCommand } : Cs)) (P := l.prog) (w := w) (base := base) F22 T  , a22, i22, b22⟩
  have i_TooMany : ErrI l.prog w K mg base 1 c_TooMany P_TooMany___init__ (rOneI K c_TooMany "limit") := ⟨_, _, ok_TooMany___init__ (C := ({ PipeError := c_PipeError, Wrong := c_Wrong, TooMany := c_TooMany, Overdrawn := c_Overdrawn, NotPassed := c_NotPassed, Rule := 0, Account := 0, Twice := c_Twice, Unknown := c_Unknown, Ring := c_Ring, BadGuide := c_BadGuide, Narrow := c_Narrow, NoStep := c_NoStep, Unready := c_Unready, NoCredit := c_NoCredit, Nothing := c_Nothing, Broken := c_Broken, BadSlow := c_BadSlow, BadFrame := c_BadFrame, IsSlow := c_IsSlow, Unlike := c_Unlike, NoDeed := c_NoDeed, Full := c_Full, Refused := c_Refused, NoEntry := c_NoEntry, NoText := c_NoText, NoCommand := c_NoCommand } : Cs)) (P := l.prog) (w := w) (base := base) F23 T  , a23, i23, b23⟩
  have i_Twice : ErrI l.prog w K mg base 1 c_Twice P_Twice___init__ (rOneI K c_Twice "name") := ⟨_, _, ok_Twice___init__ (C := ({ PipeError := c_PipeError, Wrong := c_Wrong, TooMany := c_TooMany, Overdrawn := c_Overdrawn, NotPassed := c_NotPassed, Rule := 0, Account := 0, Twice := c_Twice, Unknown := c_Unknown, Ring := c_Ring, BadGuide := c_BadGuide, Narrow := c_Narrow, NoStep := c_NoStep, Unready := c_Unready, NoCredit := c_NoCredit, Nothing := c_Nothing, Broken := c_Broken, BadSlow := c_BadSlow, BadFrame := c_BadFrame, IsSlow := c_IsSlow, Unlike := c_Unlike, NoDeed := c_NoDeed, Full := c_Full, Refused := c_Refused, NoEntry := c_NoEntry, NoText := c_NoText, NoCommand := c_NoCommand } : Cs)) (P := l.prog) (w := w) (base := base) F24 T  , a24, i24, b24⟩
  have i_Unknown : ErrI l.prog w K mg base 1 c_Unknown P_Unknown___init__ (rOneI K c_Unknown "name") := ⟨_, _, ok_Unknown___init__ (C := ({ PipeError := c_PipeError, Wrong := c_Wrong, TooMany := c_TooMany, Overdrawn := c_Overdrawn, NotPassed := c_NotPassed, Rule := 0, Account := 0, Twice := c_Twice, Unknown := c_Unknown, Ring := c_Ring, BadGuide := c_BadGuide, Narrow := c_Narrow, NoStep := c_NoStep, Unready := c_Unready, NoCredit := c_NoCredit, Nothing := c_Nothing, Broken := c_Broken, BadSlow := c_BadSlow, BadFrame := c_BadFrame, IsSlow := c_IsSlow, Unlike := c_Unlike, NoDeed := c_NoDeed, Full := c_Full, Refused := c_Refused, NoEntry := c_NoEntry, NoText := c_NoText, NoCommand := c_NoCommand } : Cs)) (P := l.prog) (w := w) (base := base) F25 T  , a25, i25, b25⟩
  have i_Unlike : ErrI l.prog w K mg base 1 c_Unlike P_Unlike___init__ (rSup K c_Unlike) := ⟨_, _, sup_mk (st := s_Unlike___init__) l26 c26 S26 rfl rfl rfl rfl rfl (by decide +kernel) rfl rfl rfl rfl fun _ => ⟨_, rfl⟩, a26, i26, Binds.all fun us hl => match us, hl with | [_], _ => rfl⟩
  have i_Wrong : ErrI l.prog w K mg base 1 c_Wrong P_Wrong___init__ (rOneI K c_Wrong "place") := ⟨_, _, ok_Wrong___init__ (C := ({ PipeError := c_PipeError, Wrong := c_Wrong, TooMany := c_TooMany, Overdrawn := c_Overdrawn, NotPassed := c_NotPassed, Rule := 0, Account := 0, Twice := c_Twice, Unknown := c_Unknown, Ring := c_Ring, BadGuide := c_BadGuide, Narrow := c_Narrow, NoStep := c_NoStep, Unready := c_Unready, NoCredit := c_NoCredit, Nothing := c_Nothing, Broken := c_Broken, BadSlow := c_BadSlow, BadFrame := c_BadFrame, IsSlow := c_IsSlow, Unlike := c_Unlike, NoDeed := c_NoDeed, Full := c_Full, Refused := c_Refused, NoEntry := c_NoEntry, NoText := c_NoText, NoCommand := c_NoCommand } : Cs)) (P := l.prog) (w := w) (base := base) F27 T  , a27, i27, b27⟩
  have f__law_made : Cal l.prog w K mg base CX0 3 "_law_made" P__law_made [] (sp_law_made10 K ({ PipeError := c_PipeError, Wrong := c_Wrong, TooMany := c_TooMany, Overdrawn := c_Overdrawn, NotPassed := c_NotPassed, Rule := 0, Account := 0, Twice := c_Twice, Unknown := c_Unknown, Ring := c_Ring, BadGuide := c_BadGuide, Narrow := c_Narrow, NoStep := c_NoStep, Unready := c_Unready, NoCredit := c_NoCredit, Nothing := c_Nothing, Broken := c_Broken, BadSlow := c_BadSlow, BadFrame := c_BadFrame, IsSlow := c_IsSlow, Unlike := c_Unlike, NoDeed := c_NoDeed, Full := c_Full, Refused := c_Refused, NoEntry := c_NoEntry, NoText := c_NoText, NoCommand := c_NoCommand } : Cs)) := ⟨_, _, ok__law_made (C := ({ PipeError := c_PipeError, Wrong := c_Wrong, TooMany := c_TooMany, Overdrawn := c_Overdrawn, NotPassed := c_NotPassed, Rule := 0, Account := 0, Twice := c_Twice, Unknown := c_Unknown, Ring := c_Ring, BadGuide := c_BadGuide, Narrow := c_Narrow, NoStep := c_NoStep, Unready := c_Unready, NoCredit := c_NoCredit, Nothing := c_Nothing, Broken := c_Broken, BadSlow := c_BadSlow, BadFrame := c_BadFrame, IsSlow := c_IsSlow, Unlike := c_Unlike, NoDeed := c_NoDeed, Full := c_Full, Refused := c_Refused, NoEntry := c_NoEntry, NoText := c_NoText, NoCommand := c_NoCommand } : Cs)) (P := l.prog) (w := w) (base := base) F28 T  E_NoCommand i_NoCommand E_NoText i_NoText E_NoDeed i_NoDeed E_Unlike i_Unlike E_BadFrame i_BadFrame E_BadSlow i_BadSlow E_Nothing i_Nothing E_NoStep i_NoStep E_NoEntry i_NoEntry E_Refused i_Refused E_Full i_Full E_IsSlow i_IsSlow E_Broken i_Broken E_NoCredit i_NoCredit E_Unready i_Unready E_Narrow i_Narrow E_BadGuide i_BadGuide E_Ring i_Ring E_Unknown i_Unknown E_Twice i_Twice E_NotPassed i_NotPassed E_Overdrawn i_Overdrawn E_TooMany i_TooMany E_Wrong i_Wrong, PySem.W.mg_of X G a28, k28, b28⟩
  have f__law_take : Cal l.prog w K mg base CX0 1 "_law_take" P__law_take [] (sp_law_take K) := ⟨_, _, ok__law_take  (P := l.prog) (w := w) (base := base) F29 T  , PySem.W.mg_of X G a29, k29, b29⟩
  exact FnG.of (ok_law (C := ({ PipeError := c_PipeError, Wrong := c_Wrong, TooMany := c_TooMany, Overdrawn := c_Overdrawn, NotPassed := c_NotPassed, Rule := 0, Account := 0, Twice := c_Twice, Unknown := c_Unknown, Ring := c_Ring, BadGuide := c_BadGuide, Narrow := c_Narrow, NoStep := c_NoStep, Unready := c_Unready, NoCredit := c_NoCredit, Nothing := c_Nothing, Broken := c_Broken, BadSlow := c_BadSlow, BadFrame := c_BadFrame, IsSlow := c_IsSlow, Unlike := c_Unlike, NoDeed := c_NoDeed, Full := c_Full, Refused := c_Refused, NoEntry := c_NoEntry, NoText := c_NoText, NoCommand := c_NoCommand } : Cs)) (P := l.prog) (w := w) (base := base) F30 T fx_Fx10 E_PipeError q_PipeError f__law_flags f__law_caught f__law_kept f__law_made f__law_take f__law_bag)
end Lw
open PySem PySem.W PyProof.Rows
set_option maxRecDepth 100000 in
set_option maxHeartbeats 0 in
theorem PySem.Challenge.cw_sharedpipe_k10_errors_told_holds : PySem.Challenge.rw_sharedpipe_k10_errors_told.Holds := by
  w_on; o_law; k_head; (case hw => w_witness2)
  k_fill
  refine Pk.walkG (l := PySem.Challenge.rw_sharedpipe_k10_errors_told) (n := 63) (k := 4) (x := "_law_script") (sp := Pk.sp_law) rfl (by decide) rfl ⟨rfl, by decide, by decide⟩ (fun w h Y => PySem.W.kIn_of Y) ?F (fun K H a ns hl hS => ⟨a, ns, rfl, hS, hl, fun _ => rfl⟩)
  case F =>
    intro w mg fa h KX G hmg
    refine' Lw.all_mk KX G hmg ?aC_BadFrame ?kl_BadFrame ?sa_BadFrame ?ex_BadFrame ?ty_BadFrame ?kc_BadFrame ?hd_BadFrame ?ga_BadFrame ?gg_BadFrame ?ha_BadFrame ?hn_BadFrame ?ht_BadFrame ?hm_BadFrame ?su_BadFrame ?aC_BadGuide ?kl_BadGuide ?sa_BadGuide ?ex_BadGuide ?ty_BadGuide ?kc_BadGuide ?hd_BadGuide ?ga_BadGuide ?gg_BadGuide ?ha_BadGuide ?hn_BadGuide ?ht_BadGuide ?hm_BadGuide ?nf_BadGuide ?su_BadGuide ?aC_BadSlow ?kl_BadSlow ?sa_BadSlow ?ex_BadSlow ?ty_BadSlow ?kc_BadSlow ?hd_BadSlow ?ga_BadSlow ?gg_BadSlow ?ha_BadSlow ?hn_BadSlow ?ht_BadSlow ?hm_BadSlow ?su_BadSlow ?aC_Broken ?kl_Broken ?sa_Broken ?ex_Broken ?ty_Broken ?kc_Broken ?hd_Broken ?ga_Broken ?gg_Broken ?ha_Broken ?hn_Broken ?ht_Broken ?hm_Broken ?nf_Broken ?su_Broken ?aC_Full ?kl_Full ?sa_Full ?ex_Full ?ty_Full ?kc_Full ?hd_Full ?ga_Full ?gg_Full ?ha_Full ?hn_Full ?ht_Full ?hm_Full ?nf_Full ?su_Full ?aC_IsSlow ?kl_IsSlow ?sa_IsSlow ?ex_IsSlow ?ty_IsSlow ?kc_IsSlow ?hd_IsSlow ?ga_IsSlow ?gg_IsSlow ?ha_IsSlow ?hn_IsSlow ?ht_IsSlow ?hm_IsSlow ?nf_IsSlow ?su_IsSlow ?aC_Narrow ?kl_Narrow ?sa_Narrow ?ex_Narrow ?ty_Narrow ?kc_Narrow ?hd_Narrow ?ga_Narrow ?gg_Narrow ?ha_Narrow ?hn_Narrow ?ht_Narrow ?hm_Narrow ?nf_Narrow ?su_Narrow ?aC_NoCommand ?kl_NoCommand ?sa_NoCommand ?ex_NoCommand ?ty_NoCommand ?kc_NoCommand ?hd_NoCommand ?ga_NoCommand ?gg_NoCommand ?ha_NoCommand ?hn_NoCommand ?ht_NoCommand ?hm_NoCommand ?su_NoCommand ?aC_NoCredit ?kl_NoCredit ?sa_NoCredit ?ex_NoCredit ?ty_NoCredit ?kc_NoCredit ?hd_NoCredit ?ga_NoCredit ?gg_NoCredit ?ha_NoCredit ?hn_NoCredit ?ht_NoCredit ?hm_NoCredit ?nf_NoCredit ?su_NoCredit ?aC_NoDeed ?kl_NoDeed ?sa_NoDeed ?ex_NoDeed ?ty_NoDeed ?kc_NoDeed ?hd_NoDeed ?ga_NoDeed ?gg_NoDeed ?ha_NoDeed ?hn_NoDeed ?ht_NoDeed ?hm_NoDeed ?su_NoDeed ?aC_NoEntry ?kl_NoEntry ?sa_NoEntry ?ex_NoEntry ?ty_NoEntry ?kc_NoEntry ?hd_NoEntry ?ga_NoEntry ?gg_NoEntry ?ha_NoEntry ?hn_NoEntry ?ht_NoEntry ?hm_NoEntry ?nf_NoEntry ?su_NoEntry ?aC_NoStep ?kl_NoStep ?sa_NoStep ?ex_NoStep ?ty_NoStep ?kc_NoStep ?hd_NoStep ?ga_NoStep ?gg_NoStep ?ha_NoStep ?hn_NoStep ?ht_NoStep ?hm_NoStep ?su_NoStep ?aC_NoText ?kl_NoText ?sa_NoText ?ex_NoText ?ty_NoText ?kc_NoText ?hd_NoText ?ga_NoText ?gg_NoText ?ha_NoText ?hn_NoText ?ht_NoText ?hm_NoText ?su_NoText ?aC_NotPassed ?kl_NotPassed ?sa_NotPassed ?ex_NotPassed ?ty_NotPassed ?kc_NotPassed ?hd_NotPassed ?ga_NotPassed ?gg_NotPassed ?ha_NotPassed ?hn_NotPassed ?ht_NotPassed ?hm_NotPassed ?nf_NotPassed ?su_NotPassed ?aC_Nothing ?kl_Nothing ?sa_Nothing ?ex_Nothing ?ty_Nothing ?kc_Nothing ?hd_Nothing ?ga_Nothing ?gg_Nothing ?ha_Nothing ?hn_Nothing ?ht_Nothing ?hm_Nothing ?su_Nothing ?aC_Overdrawn ?kl_Overdrawn ?sa_Overdrawn ?ex_Overdrawn ?ty_Overdrawn ?kc_Overdrawn ?hd_Overdrawn ?ga_Overdrawn ?gg_Overdrawn ?ha_Overdrawn ?hn_Overdrawn ?ht_Overdrawn ?hm_Overdrawn ?nf_Overdrawn ?su_Overdrawn ?aC_PipeError ?kl_PipeError ?sa_PipeError ?ex_PipeError ?ty_PipeError ?kc_PipeError ?hd_PipeError ?ga_PipeError ?gg_PipeError ?ha_PipeError ?hn_PipeError ?ht_PipeError ?hm_PipeError ?q_PipeError ?aC_Refused ?kl_Refused ?sa_Refused ?ex_Refused ?ty_Refused ?kc_Refused ?hd_Refused ?ga_Refused ?gg_Refused ?ha_Refused ?hn_Refused ?ht_Refused ?hm_Refused ?nf_Refused ?su_Refused ?aC_Ring ?kl_Ring ?sa_Ring ?ex_Ring ?ty_Ring ?kc_Ring ?hd_Ring ?ga_Ring ?gg_Ring ?ha_Ring ?hn_Ring ?ht_Ring ?hm_Ring ?nf_Ring ?su_Ring ?aC_TooMany ?kl_TooMany ?sa_TooMany ?ex_TooMany ?ty_TooMany ?kc_TooMany ?hd_TooMany ?ga_TooMany ?gg_TooMany ?ha_TooMany ?hn_TooMany ?ht_TooMany ?hm_TooMany ?nf_TooMany ?su_TooMany ?aC_Twice ?kl_Twice ?sa_Twice ?ex_Twice ?ty_Twice ?kc_Twice ?hd_Twice ?ga_Twice ?gg_Twice ?ha_Twice ?hn_Twice ?ht_Twice ?hm_Twice ?nf_Twice ?su_Twice ?aC_Unknown ?kl_Unknown ?sa_Unknown ?ex_Unknown ?ty_Unknown ?kc_Unknown ?hd_Unknown ?ga_Unknown ?gg_Unknown ?ha_Unknown ?hn_Unknown ?ht_Unknown ?hm_Unknown ?nf_Unknown ?su_Unknown ?aC_Unlike ?kl_Unlike ?sa_Unlike ?ex_Unlike ?ty_Unlike ?kc_Unlike ?hd_Unlike ?ga_Unlike ?gg_Unlike ?ha_Unlike ?hn_Unlike ?ht_Unlike ?hm_Unlike ?su_Unlike ?aC_Unready ?kl_Unready ?sa_Unready ?ex_Unready ?ty_Unready ?kc_Unready ?hd_Unready ?ga_Unready ?gg_Unready ?ha_Unready ?hn_Unready ?ht_Unready ?hm_Unready ?nf_Unready ?su_Unready ?aC_Wrong ?kl_Wrong ?sa_Wrong ?ex_Wrong ?ty_Wrong ?kc_Wrong ?hd_Wrong ?ga_Wrong ?gg_Wrong ?ha_Wrong ?hn_Wrong ?ht_Wrong ?hm_Wrong ?nf_Wrong ?su_Wrong ?tab10 ?sG_super ?sO_super ?sM_super ?a0 ?l0 ?c0 ?k0 ?a1 ?i1 ?l1 ?c1 ?sc1 ?sv1 ?sf1 ?se1 ?su1 ?sw1 ?sm1 ?a2 ?i2 ?l2 ?c2 ?k2 ?a3 ?l3 ?c3 ?k3 ?a4 ?l4 ?c4 ?k4 ?a5 ?l5 ?c5 ?k5 ?a6 ?i6 ?l6 ?c6 ?sc6 ?sv6 ?sf6 ?se6 ?su6 ?sw6 ?sm6 ?a7 ?i7 ?l7 ?c7 ?k7 ?a8 ?i8 ?l8 ?c8 ?sc8 ?sv8 ?sf8 ?se8 ?su8 ?sw8 ?sm8 ?a9 ?i9 ?l9 ?c9 ?k9 ?a10 ?i10 ?l10 ?c10 ?k10 ?a11 ?i11 ?l11 ?c11 ?k11 ?a12 ?i12 ?l12 ?c12 ?k12 ?a13 ?i13 ?l13 ?c13 ?sc13 ?sv13 ?sf13 ?se13 ?su13 ?sw13 ?sm13 ?a14 ?i14 ?l14 ?c14 ?k14 ?a15 ?i15 ?l15 ?c15 ?sc15 ?sv15 ?sf15 ?se15 ?su15 ?sw15 ?sm15 ?a16 ?i16 ?l16 ?c16 ?k16 ?a17 ?i17 ?l17 ?c17 ?sc17 ?sv17 ?sf17 ?se17 ?su17 ?sw17 ?sm17 ?a18 ?i18 ?l18 ?c18 ?k18 ?a19 ?i19 ?l19 ?c19 ?sc19 ?sv19 ?sf19 ?se19 ?su19 ?sw19 ?sm19 ?a20 ?i20 ?l20 ?c20 ?k20 ?a21 ?i21 ?l21 ?c21 ?k21 ?a22 ?i22 ?l22 ?c22 ?k22 ?a23 ?i23 ?l23 ?c23 ?k23 ?a24 ?i24 ?l24 ?c24 ?k24 ?a25 ?i25 ?l25 ?c25 ?k25 ?a26 ?i26 ?l26 ?c26 ?sc26 ?sv26 ?sf26 ?se26 ?su26 ?sw26 ?sm26 ?a27 ?i27 ?l27 ?c27 ?k27 ?a28 ?l28 ?c28 ?k28 ?a29 ?l29 ?c29 ?k29 ?a30 ?l30 ?c30 ?k30 ?zb_ValueError ?zb_abs ?zb_int ?zb_isinstance ?zb_len ?zb_list ?zb_range
    (case aC_BadFrame => k_is)
    (case kl_BadFrame => k_is)
    (case sa_BadFrame => k_is)
    (case ex_BadFrame => k_is)
    (case ty_BadFrame => k_is)
    (case kc_BadFrame => k_is)
    (case hd_BadFrame => k_is)
    (case ga_BadFrame => k_is)
    (case gg_BadFrame => k_is)
    (case ha_BadFrame => k_is)
    (case hn_BadFrame => k_is)
    (case ht_BadFrame => k_is)
    (case hm_BadFrame => k_is)
    (case su_BadFrame => k_is)
    (case aC_BadGuide => k_is)
    (case kl_BadGuide => k_is)
    (case sa_BadGuide => k_is)
    (case ex_BadGuide => k_is)
    (case ty_BadGuide => k_is)
    (case kc_BadGuide => k_is)
    (case hd_BadGuide => k_is)
    (case ga_BadGuide => k_is)
    (case gg_BadGuide => k_is)
    (case ha_BadGuide => k_is)
    (case hn_BadGuide => k_is)
    (case ht_BadGuide => k_is)
    (case hm_BadGuide => k_is)
    (case nf_BadGuide => k_is)
    (case su_BadGuide => k_is)
    (case aC_BadSlow => k_is)
    (case kl_BadSlow => k_is)
    (case sa_BadSlow => k_is)
    (case ex_BadSlow => k_is)
    (case ty_BadSlow => k_is)
    (case kc_BadSlow => k_is)
    (case hd_BadSlow => k_is)
    (case ga_BadSlow => k_is)
    (case gg_BadSlow => k_is)
    (case ha_BadSlow => k_is)
    (case hn_BadSlow => k_is)
    (case ht_BadSlow => k_is)
    (case hm_BadSlow => k_is)
    (case su_BadSlow => k_is)
    (case aC_Broken => k_is)
    (case kl_Broken => k_is)
    (case sa_Broken => k_is)
    (case ex_Broken => k_is)
    (case ty_Broken => k_is)
    (case kc_Broken => k_is)
    (case hd_Broken => k_is)
    (case ga_Broken => k_is)
    (case gg_Broken => k_is)
    (case ha_Broken => k_is)
    (case hn_Broken => k_is)
    (case ht_Broken => k_is)
    (case hm_Broken => k_is)
    (case nf_Broken => k_is)
    (case su_Broken => k_is)
    (case aC_Full => k_is)
    (case kl_Full => k_is)
    (case sa_Full => k_is)
    (case ex_Full => k_is)
    (case ty_Full => k_is)
    (case kc_Full => k_is)
    (case hd_Full => k_is)
    (case ga_Full => k_is)
    (case gg_Full => k_is)
    (case ha_Full => k_is)
    (case hn_Full => k_is)
    (case ht_Full => k_is)
    (case hm_Full => k_is)
    (case nf_Full => k_is)
    (case su_Full => k_is)
    (case aC_IsSlow => k_is)
    (case kl_IsSlow => k_is)
    (case sa_IsSlow => k_is)
    (case ex_IsSlow => k_is)
    (case ty_IsSlow => k_is)
    (case kc_IsSlow => k_is)
    (case hd_IsSlow => k_is)
    (case ga_IsSlow => k_is)
    (case gg_IsSlow => k_is)
    (case ha_IsSlow => k_is)
    (case hn_IsSlow => k_is)
    (case ht_IsSlow => k_is)
    (case hm_IsSlow => k_is)
    (case nf_IsSlow => k_is)
    (case su_IsSlow => k_is)
    (case aC_Narrow => k_is)
    (case kl_Narrow => k_is)
    (case sa_Narrow => k_is)
    (case ex_Narrow => k_is)
    (case ty_Narrow => k_is)
    (case kc_Narrow => k_is)
    (case hd_Narrow => k_is)
    (case ga_Narrow => k_is)
    (case gg_Narrow => k_is)
    (case ha_Narrow => k_is)
    (case hn_Narrow => k_is)
    (case ht_Narrow => k_is)
    (case hm_Narrow => k_is)
    (case nf_Narrow => k_is)
    (case su_Narrow => k_is)
    (case aC_NoCommand => k_is)
    (case kl_NoCommand => k_is)
    (case sa_NoCommand => k_is)
    (case ex_NoCommand => k_is)
    (case ty_NoCommand => k_is)
    (case kc_NoCommand => k_is)
    (case hd_NoCommand => k_is)
    (case ga_NoCommand => k_is)
    (case gg_NoCommand => k_is)
    (case ha_NoCommand => k_is)
    (case hn_NoCommand => k_is)
    (case ht_NoCommand => k_is)
    (case hm_NoCommand => k_is)
    (case su_NoCommand => k_is)
    (case aC_NoCredit => k_is)
    (case kl_NoCredit => k_is)
    (case sa_NoCredit => k_is)
    (case ex_NoCredit => k_is)
    (case ty_NoCredit => k_is)
    (case kc_NoCredit => k_is)
    (case hd_NoCredit => k_is)
    (case ga_NoCredit => k_is)
    (case gg_NoCredit => k_is)
    (case ha_NoCredit => k_is)
    (case hn_NoCredit => k_is)
    (case ht_NoCredit => k_is)
    (case hm_NoCredit => k_is)
    (case nf_NoCredit => k_is)
    (case su_NoCredit => k_is)
    (case aC_NoDeed => k_is)
    (case kl_NoDeed => k_is)
    (case sa_NoDeed => k_is)
    (case ex_NoDeed => k_is)
    (case ty_NoDeed => k_is)
    (case kc_NoDeed => k_is)
    (case hd_NoDeed => k_is)
    (case ga_NoDeed => k_is)
    (case gg_NoDeed => k_is)
    (case ha_NoDeed => k_is)
    (case hn_NoDeed => k_is)
    (case ht_NoDeed => k_is)
    (case hm_NoDeed => k_is)
    (case su_NoDeed => k_is)
    (case aC_NoEntry => k_is)
    (case kl_NoEntry => k_is)
    (case sa_NoEntry => k_is)
    (case ex_NoEntry => k_is)
    (case ty_NoEntry => k_is)
    (case kc_NoEntry => k_is)
    (case hd_NoEntry => k_is)
    (case ga_NoEntry => k_is)
    (case gg_NoEntry => k_is)
    (case ha_NoEntry => k_is)
    (case hn_NoEntry => k_is)
    (case ht_NoEntry => k_is)
    (case hm_NoEntry => k_is)
    (case nf_NoEntry => k_is)
    (case su_NoEntry => k_is)
    (case aC_NoStep => k_is)
    (case kl_NoStep => k_is)
    (case sa_NoStep => k_is)
    (case ex_NoStep => k_is)
    (case ty_NoStep => k_is)
    (case kc_NoStep => k_is)
    (case hd_NoStep => k_is)
    (case ga_NoStep => k_is)
    (case gg_NoStep => k_is)
    (case ha_NoStep => k_is)
    (case hn_NoStep => k_is)
    (case ht_NoStep => k_is)
    (case hm_NoStep => k_is)
    (case su_NoStep => k_is)
    (case aC_NoText => k_is)
    (case kl_NoText => k_is)
    (case sa_NoText => k_is)
    (case ex_NoText => k_is)
    (case ty_NoText => k_is)
    (case kc_NoText => k_is)
    (case hd_NoText => k_is)
    (case ga_NoText => k_is)
    (case gg_NoText => k_is)
    (case ha_NoText => k_is)
    (case hn_NoText => k_is)
    (case ht_NoText => k_is)
    (case hm_NoText => k_is)
    (case su_NoText => k_is)
    (case aC_NotPassed => k_is)
    (case kl_NotPassed => k_is)
    (case sa_NotPassed => k_is)
    (case ex_NotPassed => k_is)
    (case ty_NotPassed => k_is)
    (case kc_NotPassed => k_is)
    (case hd_NotPassed => k_is)
    (case ga_NotPassed => k_is)
    (case gg_NotPassed => k_is)
    (case ha_NotPassed => k_is)
    (case hn_NotPassed => k_is)
    (case ht_NotPassed => k_is)
    (case hm_NotPassed => k_is)
    (case nf_NotPassed => k_is)
    (case su_NotPassed => k_is)
    (case aC_Nothing => k_is)
    (case kl_Nothing => k_is)
    (case sa_Nothing => k_is)
    (case ex_Nothing => k_is)
    (case ty_Nothing => k_is)
    (case kc_Nothing => k_is)
    (case hd_Nothing => k_is)
    (case ga_Nothing => k_is)
    (case gg_Nothing => k_is)
    (case ha_Nothing => k_is)
    (case hn_Nothing => k_is)
    (case ht_Nothing => k_is)
    (case hm_Nothing => k_is)
    (case su_Nothing => k_is)
    (case aC_Overdrawn => k_is)
    (case kl_Overdrawn => k_is)
    (case sa_Overdrawn => k_is)
    (case ex_Overdrawn => k_is)
    (case ty_Overdrawn => k_is)
    (case kc_Overdrawn => k_is)
    (case hd_Overdrawn => k_is)
    (case ga_Overdrawn => k_is)
    (case gg_Overdrawn => k_is)
    (case ha_Overdrawn => k_is)
    (case hn_Overdrawn => k_is)
    (case ht_Overdrawn => k_is)
    (case hm_Overdrawn => k_is)
    (case nf_Overdrawn => k_is)
    (case su_Overdrawn => k_is)
    (case aC_PipeError => k_is)
    (case kl_PipeError => k_is)
    (case sa_PipeError => k_is)
    (case ex_PipeError => k_is)
    (case ty_PipeError => k_is)
    (case kc_PipeError => k_is)
    (case hd_PipeError => k_is)
    (case ga_PipeError => k_is)
    (case gg_PipeError => k_is)
    (case ha_PipeError => k_is)
    (case hn_PipeError => k_is)
    (case ht_PipeError => k_is)
    (case hm_PipeError => k_is)
    (case q_PipeError => first | k_exc | kernel_rfl)
    (case aC_Refused => k_is)
    (case kl_Refused => k_is)
    (case sa_Refused => k_is)
    (case ex_Refused => k_is)
    (case ty_Refused => k_is)
    (case kc_Refused => k_is)
    (case hd_Refused => k_is)
    (case ga_Refused => k_is)
    (case gg_Refused => k_is)
    (case ha_Refused => k_is)
    (case hn_Refused => k_is)
    (case ht_Refused => k_is)
    (case hm_Refused => k_is)
    (case nf_Refused => k_is)
    (case su_Refused => k_is)
    (case aC_Ring => k_is)
    (case kl_Ring => k_is)
    (case sa_Ring => k_is)
    (case ex_Ring => k_is)
    (case ty_Ring => k_is)
    (case kc_Ring => k_is)
    (case hd_Ring => k_is)
    (case ga_Ring => k_is)
    (case gg_Ring => k_is)
    (case ha_Ring => k_is)
    (case hn_Ring => k_is)
    (case ht_Ring => k_is)
    (case hm_Ring => k_is)
    (case nf_Ring => k_is)
    (case su_Ring => k_is)
    (case aC_TooMany => k_is)
    (case kl_TooMany => k_is)
    (case sa_TooMany => k_is)
    (case ex_TooMany => k_is)
    (case ty_TooMany => k_is)
    (case kc_TooMany => k_is)
    (case hd_TooMany => k_is)
    (case ga_TooMany => k_is)
    (case gg_TooMany => k_is)
    (case ha_TooMany => k_is)
    (case hn_TooMany => k_is)
    (case ht_TooMany => k_is)
    (case hm_TooMany => k_is)
    (case nf_TooMany => k_is)
    (case su_TooMany => k_is)
    (case aC_Twice => k_is)
    (case kl_Twice => k_is)
    (case sa_Twice => k_is)
    (case ex_Twice => k_is)
    (case ty_Twice => k_is)
    (case kc_Twice => k_is)
    (case hd_Twice => k_is)
    (case ga_Twice => k_is)
    (case gg_Twice => k_is)
    (case ha_Twice => k_is)
    (case hn_Twice => k_is)
    (case ht_Twice => k_is)
    (case hm_Twice => k_is)
    (case nf_Twice => k_is)
    (case su_Twice => k_is)
    (case aC_Unknown => k_is)
    (case kl_Unknown => k_is)
    (case sa_Unknown => k_is)
    (case ex_Unknown => k_is)
    (case ty_Unknown => k_is)
    (case kc_Unknown => k_is)
    (case hd_Unknown => k_is)
    (case ga_Unknown => k_is)
    (case gg_Unknown => k_is)
    (case ha_Unknown => k_is)
    (case hn_Unknown => k_is)
    (case ht_Unknown => k_is)
    (case hm_Unknown => k_is)
    (case nf_Unknown => k_is)
    (case su_Unknown => k_is)
    (case aC_Unlike => k_is)
    (case kl_Unlike => k_is)
    (case sa_Unlike => k_is)
    (case ex_Unlike => k_is)
    (case ty_Unlike => k_is)
    (case kc_Unlike => k_is)
    (case hd_Unlike => k_is)
    (case ga_Unlike => k_is)
    (case gg_Unlike => k_is)
    (case ha_Unlike => k_is)
    (case hn_Unlike => k_is)
    (case ht_Unlike => k_is)
    (case hm_Unlike => k_is)
    (case su_Unlike => k_is)
    (case aC_Unready => k_is)
    (case kl_Unready => k_is)
    (case sa_Unready => k_is)
    (case ex_Unready => k_is)
    (case ty_Unready => k_is)
    (case kc_Unready => k_is)
    (case hd_Unready => k_is)
    (case ga_Unready => k_is)
    (case gg_Unready => k_is)
    (case ha_Unready => k_is)
    (case hn_Unready => k_is)
    (case ht_Unready => k_is)
    (case hm_Unready => k_is)
    (case nf_Unready => k_is)
    (case su_Unready => k_is)
    (case aC_Wrong => k_is)
    (case kl_Wrong => k_is)
    (case sa_Wrong => k_is)
    (case ex_Wrong => k_is)
    (case ty_Wrong => k_is)
    (case kc_Wrong => k_is)
    (case hd_Wrong => k_is)
    (case ga_Wrong => k_is)
    (case gg_Wrong => k_is)
    (case ha_Wrong => k_is)
    (case hn_Wrong => k_is)
    (case ht_Wrong => k_is)
    (case hm_Wrong => k_is)
    (case nf_Wrong => k_is)
    (case su_Wrong => k_is)
    (case tab10 => kernel_rfl)
    (case sG_super => k_is)
    (case sO_super => k_is)
    (case sM_super => first | rfl | decide +kernel)
    (case a0 => k_is)
    (case l0 => k_is)
    (case c0 => k_is)
    (case k0 => k_is)
    (case a1 => k_is)
    (case i1 => k_is)
    (case l1 => k_is)
    (case c1 => k_is)
    (case sc1 => k_is)
    (case sv1 => first | rfl | k_is | ks_is | decide +kernel)
    (case sf1 => first | rfl | k_is | ks_is | decide +kernel)
    (case se1 => k_is)
    (case su1 => first | rfl | k_is | ks_is | decide +kernel)
    (case sw1 => k_is)
    (case sm1 => first | rfl | k_is | ks_is | decide +kernel)
    (case a2 => k_is)
    (case i2 => k_is)
    (case l2 => k_is)
    (case c2 => k_is)
    (case k2 => k_is)
    (case a3 => k_is)
    (case l3 => k_is)
    (case c3 => k_is)
    (case k3 => k_is)
    (case a4 => k_is)
    (case l4 => k_is)
    (case c4 => k_is)
    (case k4 => k_is)
    (case a5 => k_is)
    (case l5 => k_is)
    (case c5 => k_is)
    (case k5 => k_is)
    (case a6 => k_is)
    (case i6 => k_is)
    (case l6 => k_is)
    (case c6 => k_is)
    (case sc6 => k_is)
    (case sv6 => first | rfl | k_is | ks_is | decide +kernel)
    (case sf6 => first | rfl | k_is | ks_is | decide +kernel)
    (case se6 => k_is)
    (case su6 => first | rfl | k_is | ks_is | decide +kernel)
    (case sw6 => k_is)
    (case sm6 => first | rfl | k_is | ks_is | decide +kernel)
    (case a7 => k_is)
    (case i7 => k_is)
    (case l7 => k_is)
    (case c7 => k_is)
    (case k7 => k_is)
    (case a8 => k_is)
    (case i8 => k_is)
    (case l8 => k_is)
    (case c8 => k_is)
    (case sc8 => k_is)
    (case sv8 => first | rfl | k_is | ks_is | decide +kernel)
    (case sf8 => first | rfl | k_is | ks_is | decide +kernel)
    (case se8 => k_is)
    (case su8 => first | rfl | k_is | ks_is | decide +kernel)
    (case sw8 => k_is)
    (case sm8 => first | rfl | k_is | ks_is | decide +kernel)
    (case a9 => k_is)
    (case i9 => k_is)
    (case l9 => k_is)
    (case c9 => k_is)
    (case k9 => k_is)
    (case a10 => k_is)
    (case i10 => k_is)
    (case l10 => k_is)
    (case c10 => k_is)
    (case k10 => k_is)
    (case a11 => k_is)
    (case i11 => k_is)
    (case l11 => k_is)
    (case c11 => k_is)
    (case k11 => k_is)
    (case a12 => k_is)
    (case i12 => k_is)
    (case l12 => k_is)
    (case c12 => k_is)
    (case k12 => k_is)
    (case a13 => k_is)
    (case i13 => k_is)
    (case l13 => k_is)
    (case c13 => k_is)
    (case sc13 => k_is)
    (case sv13 => first | rfl | k_is | ks_is | decide +kernel)
    (case sf13 => first | rfl | k_is | ks_is | decide +kernel)
    (case se13 => k_is)
    (case su13 => first | rfl | k_is | ks_is | decide +kernel)
    (case sw13 => k_is)
    (case sm13 => first | rfl | k_is | ks_is | decide +kernel)
    (case a14 => k_is)
    (case i14 => k_is)
    (case l14 => k_is)
    (case c14 => k_is)
    (case k14 => k_is)
    (case a15 => k_is)
    (case i15 => k_is)
    (case l15 => k_is)
    (case c15 => k_is)
    (case sc15 => k_is)
    (case sv15 => first | rfl | k_is | ks_is | decide +kernel)
    (case sf15 => first | rfl | k_is | ks_is | decide +kernel)
    (case se15 => k_is)
    (case su15 => first | rfl | k_is | ks_is | decide +kernel)
    (case sw15 => k_is)
    (case sm15 => first | rfl | k_is | ks_is | decide +kernel)
    (case a16 => k_is)
    (case i16 => k_is)
    (case l16 => k_is)
    (case c16 => k_is)
    (case k16 => k_is)
    (case a17 => k_is)
    (case i17 => k_is)
    (case l17 => k_is)
    (case c17 => k_is)
    (case sc17 => k_is)
    (case sv17 => first | rfl | k_is | ks_is | decide +kernel)
    (case sf17 => first | rfl | k_is | ks_is | decide +kernel)
    (case se17 => k_is)
    (case su17 => first | rfl | k_is | ks_is | decide +kernel)
    (case sw17 => k_is)
    (case sm17 => first | rfl | k_is | ks_is | decide +kernel)
    (case a18 => k_is)
    (case i18 => k_is)
    (case l18 => k_is)
    (case c18 => k_is)
    (case k18 => k_is)
    (case a19 => k_is)
    (case i19 => k_is)
    (case l19 => k_is)
    (case c19 => k_is)
    (case sc19 => k_is)
    (case sv19 => first | rfl | k_is | ks_is | decide +kernel)
    (case sf19 => first | rfl | k_is | ks_is | decide +kernel)
    (case se19 => k_is)
    (case su19 => first | rfl | k_is | ks_is | decide +kernel)
    (case sw19 => k_is)
    (case sm19 => first | rfl | k_is | ks_is | decide +kernel)
    (case a20 => k_is)
    (case i20 => k_is)
    (case l20 => k_is)
    (case c20 => k_is)
    (case k20 => k_is)
    (case a21 => k_is)
    (case i21 => k_is)
    (case l21 => k_is)
    (case c21 => k_is)
    (case k21 => k_is)
    (case a22 => k_is)
    (case i22 => k_is)
    (case l22 => k_is)
    (case c22 => k_is)
    (case k22 => k_is)
    (case a23 => k_is)
    (case i23 => k_is)
    (case l23 => k_is)
    (case c23 => k_is)
    (case k23 => k_is)
    (case a24 => k_is)
    (case i24 => k_is)
    (case l24 => k_is)
    (case c24 => k_is)
    (case k24 => k_is)
    (case a25 => k_is)
    (case i25 => k_is)
    (case l25 => k_is)
    (case c25 => k_is)
    (case k25 => k_is)
    (case a26 => k_is)
    (case i26 => k_is)
    (case l26 => k_is)
    (case c26 => k_is)
    (case sc26 => k_is)
    (case sv26 => first | rfl | k_is | ks_is | decide +kernel)
    (case sf26 => first | rfl | k_is | ks_is | decide +kernel)
    (case se26 => k_is)
    (case su26 => first | rfl | k_is | ks_is | decide +kernel)
    (case sw26 => k_is)
    (case sm26 => first | rfl | k_is | ks_is | decide +kernel)
    (case a27 => k_is)
    (case i27 => k_is)
    (case l27 => k_is)
    (case c27 => k_is)
    (case k27 => k_is)
    (case a28 => k_is)
    (case l28 => k_is)
    (case c28 => k_is)
    (case k28 => k_is)
    (case a29 => k_is)
    (case l29 => k_is)
    (case c29 => k_is)
    (case k29 => k_is)
    (case a30 => k_is)
    (case l30 => k_is)
    (case c30 => k_is)
    (case k30 => k_is)
    (case zb_ValueError => k_is)
    (case zb_abs => k_is)
    (case zb_int => k_is)
    (case zb_isinstance => k_is)
    (case zb_len => k_is)
    (case zb_list => k_is)
    (case zb_range => k_is)
