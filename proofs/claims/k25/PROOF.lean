import PyProof.Rows.All
import Wide.All
import OpenK.AllK
import Wide.FinOn
import HandS.ForExc
import HandS.Wide
import HandS.Evl
import HandS.Deep
import HandS.TupAny
import HandS.TupMul
import HandS.Star
import HandS.Property
import HandS.Flow
import HandS.Style
import HandS.IsInst
import HandS.OwnEq
import HandS.ForMost
import HandS.SlotsOwn
import HandS.Codes
import HandS.Defaults
import KE.KOpsOwn
import HandS.Small
import KE.KExcIs
import HandS.WordsExc
import HandS.ExcInit
import HandS.ExcField
import HandS.ExcIs
import HandS.TryOnly
import HandS.Text
import HandS.Dict
import PyProof.EqKinds
import HandS.FStr
import HandS.StrMore
import HandS.RaiseMore
import HandS.DictComp
import HandS.Iter
import HandS.Walk
import HandS.More
import HandS.Zip
import HandS.Finally
import PySem.Challenge.RW_sharedpipe_k25_pools_over_and_under
set_option Elab.async false
set_option linter.all false
set_option maxRecDepth 100000
set_option maxHeartbeats 2000000
namespace Pk
open PySem PySem.Spec L2 PyProof.Rows

/-! ### texts of data: a bound of their length -/
mutual
def siz : PyData → Nat
  | .none => 8
  | .bool _ => 8
  | .int _ => 2000
  | .str x => 10 * x.length + 8
  | .list xs => 8 + sizL xs
  | .tuple xs => 8 + sizL xs
  | .dict _ => 0
def sizL : List PyData → Nat
  | [] => 0
  | x :: xs => siz x + 4 + sizL xs
end
theorem textFrom_size : ∀ (ts : List Str) (k : Nat) (acc : Str), (textFrom k acc ts).length ≤ acc.length + piled ts
  | [], k, acc => by show acc.length ≤ _; omega
  | t :: r, k, acc => by
    have ih := textFrom_size r (k + 1) (acc ++ (if k > 0 then ", " else "" : String) ++ t)
    have e : (acc ++ (if k > 0 then ", " else "" : String) ++ t).length = acc.length + (if k > 0 then 2 else 0) + t.length := by
      rw [strLen_append, strLen_append]
      split <;> rfl
    have d1 : (if k > 0 then 2 else 0 : Nat) ≤ 2 := by split <;> decide
    rw [piled_cons]
    show (textFrom (k + 1) _ r).length ≤ _
    omega
theorem listText_size (ts : List Str) : (listText ts).length ≤ piled ts + 2 := by
  have q := textFrom_size ts 0 "["
  unfold listText
  rw [strLen_append]
  have e1 : ((("[" : String) : Str)).length = 1 := rfl
  have e2 : ((("]" : String) : Str)).length = 1 := rfl
  rw [e1] at q
  rw [e2]
  omega
theorem tupleText_size (ts : List Str) : (tupleText ts).length ≤ piled ts + 3 := by
  unfold tupleText
  rw [strLen_append, strLen_append]
  have e1 : ((("(" : String) : Str)).length = 1 := rfl
  have e3 : (((if ts.length == 1 then ",)" else ")" : String) : Str)).length ≤ 2 := by split <;> decide
  rw [e1]
  cases ts with
  | nil =>
    have e4 : (Str.join ", " ([] : List Str)).length = 0 := rfl
    rw [e4]
    omega
  | cons t r =>
    have q := join_length_add (t :: r) (by simp)
    omega
mutual
theorem shown_le : ∀ d : PyData, d.showable = true → d.canLay0 = true → d.shown.length ≤ siz d
  | .none, _, _ => by decide
  | .bool b, _, _ => by cases b <;> decide
  | .int i, h, _ => by
    have h' : i.natAbs.log2 < 1920 := of_decide_eq_true h
    have e := int_text_length_le (k := 1920) (by decide) h'
    show (Str.ofString (toString i)).length ≤ 2000
    rw [PySem.ofString_length]
    omega
  | .str x, _, h => by
    have h' : x.cps.all (· < 0x110000) = true := h
    have q := StrLaws.reprText_len x fun c hc => by
      have := Array.all_eq_true_iff_forall_mem.mp h' c (by simpa using hc)
      have z : c < 0x110000 := of_decide_eq_true this
      have z2 : (0x110000 : Nat) < 16 ^ 8 := by decide
      omega
    show (reprText x).length ≤ 10 * x.length + 8
    omega
  | .list xs, h, h2 => by
    have q := shownAll_le xs h h2
    have q2 := listText_size (PyData.shownAll xs)
    show (listText (PyData.shownAll xs)).length ≤ 8 + sizL xs
    omega
  | .tuple xs, h, h2 => by
    have q := shownAll_le xs h h2
    have q2 := tupleText_size (PyData.shownAll xs)
    show (tupleText (PyData.shownAll xs)).length ≤ 8 + sizL xs
    omega
  | .dict _, _, h => by cases h
theorem shownAll_le : ∀ ds : List PyData, PyData.showableAll ds = true → PyData.canLayAll0 ds = true → piled (PyData.shownAll ds) ≤ sizL ds
  | [], _, _ => by show piled [] ≤ 0; simp [piled]
  | d :: ds, h, h2 => by
    have h' : d.showable = true ∧ PyData.showableAll ds = true := by simpa [PyData.showableAll] using h
    have h2' : d.canLay0 = true ∧ PyData.canLayAll0 ds = true := by simpa [PyData.canLayAll0] using h2
    have q1 := shown_le d h'.1 h2'.1
    have q2 := shownAll_le ds h'.2 h2'.2
    show piled (d.shown :: PyData.shownAll ds) ≤ siz d + 4 + sizL ds
    rw [piled_cons]
    omega
end
/-- data that may be compared and shown -/
structure Good (d : PyData) : Prop where
  sh : SeqAt.shaped d = true
  wr : d.showable = true
  sz : siz d ≤ 16000000
theorem Good.lay {d : PyData} (g : Good d) : d.canLay0 = true := SeqAt.canLay_of_shaped g.sh
theorem Good.fits {d : PyData} (g : Good d) : d.shown.length ≤ sizeLine := by
  have q := shown_le d g.wr g.lay
  have z := g.sz
  rw [sizeLine_eq]
  omega
theorem Good.same {d : PyData} (g : Good d) : PyData.eqv d d = true := SeqAt.eqv_refl d g.lay

/-! ### defs that are called where nothing is being shown -/
/-- as FnOk, where nothing is being shown around -/
structure FnG (P : Program) (w : World) (K : PySem.W.Frag) (mg : Str → Option Value) (base : Heap) (CX : CXT) (k : Nat) (f : Addr) (fd : FuncData) (ps : List Str) (sp : Sp) : Prop where
  few : ∀ vs H Q E, sp vs H Q E → vs.length = ps.length
  goes : ∀ (A : Around), A.guards = some [] → Room k A → ∀ (outer : List Env) (s : Shared) (H : Hp) (args : Args) (us : List Value) (vs : List V) (Q : VK) (E : XK),
    Env0 P w K mg base A outer s H → BindsTo s fd args (ps.zip us) → Vals vs us → sp vs H Q E → codeAny (model P w) A (.call (.ref f) args) (CR CX outer P w H s Q E) s
theorem FnG.of {P : Program} {w : World} {K : PySem.W.Frag} {mg : Str → Option Value} {base : Heap} {CX : CXT} {k : Nat} {f : Addr} {fd : FuncData} {ps : List Str} {sp : Sp}
    (F : FnOk P w K mg base CX k f fd ps sp) : FnG P w K mg base CX k f fd ps sp :=
  ⟨F.len, fun A _ hr outer s H args us vs Q E e0 hb r h => F.run A outer s H args us vs Q E hr e0 hb r h⟩
theorem FnG.mono {P : Program} {w : World} {K : PySem.W.Frag} {mg : Str → Option Value} {base : Heap} {CX : CXT} {j k : Nat} {f : Addr} {fd : FuncData} {ps : List Str} {sp : Sp}
    (F : FnG P w K mg base CX j f fd ps sp) (h : j ≤ k) : FnG P w K mg base CX k f fd ps sp :=
  ⟨F.few, fun A hg hr => F.goes A hg (hr.mono h)⟩
section
variable {X : Cx} {CX : CXT} {k : Nat} {f : Addr} {fd : FuncData} {ps : List Str} {sp : Sp} {E : XK} {x : Str} {p pos : Pos} {e : Expr} {es : List Expr} {t : TA}
theorem go_g {pins : List (Addr × Obj)} {σ : L2.St} {H : Hp} {s : Shared} {Q : VK} {us : List Value} {vs : List V} (F : FnG X.prog X.w X.K X.mg X.base CX k f fd ps sp) (hg : X.A.guards = some []) (hr : Room k X.A)
    (hb : Binds X.K fd ps []) (hx : Passes CX X E) (I : Inv X pins σ H s) (r : Vals vs us) (h : sp vs H Q E) : wpAny (model X.prog X.w) X.A (call (.ref f) us) (EP X pins σ Q) X.xe s := by
  have n : (us ++ ([] : List Value)).length = ps.length := by
    rw [List.append_nil, ← r.length]
    exact F.few _ _ _ _ h
  have b := hb s us I.kIn n
  rw [List.append_nil] at b
  apply wpAny_call
  apply codeAny_mono (F.goes X.A hg hr X.stack s H ⟨us, []⟩ us vs Q E I.env0 b r h)
  intro res s2 q
  match res, q with
  | .error er, q => exact hx pins σ H s er s2 I q
  | .ok (.ret u), q => exact I.after q
theorem pe_callG (F : FnG X.prog X.w X.K X.mg X.base CX k f fd ps sp) (gd : X.A.guards = some []) (hr : Room k X.A) (hg : Gl X x) (hm : X.mg x = some (.ref f)) (hk : PySem.W.keepIn X.K (.ref f) = true) (hb : Binds X.K fd ps []) (hx : Passes CX X E)
    (ha : PA X (e :: es) t) (h1 : (x == ("__debug__" : Str)) = false := by decide) (h2 : starEach (e :: es) X.env = (false, eval e X.env) :: starEach es X.env := by rfl) (h3 : (backTo pos (starEach es X.env)).any (·.1) = false := by rfl) :
    PE X (.Call (.Name x p) (e :: es) [] pos) (tCall sp [] E t) := by
  constructor
  intro pins s σ H Q I h
  apply wpAny_Call_Name_kw (ld_glob I hg hm ?_ h1)
  apply PySem.W.callWith_K (h₀ := X.base) I.ok.mod.kin hk _ h2 h3
  apply thn (ha.run pos pins s σ H _ I h)
  rintro us s1 ⟨vs, H1, I1, r, q⟩
  rw [List.append_nil] at q
  exact ⟨I1.kIn, go_g F gd hr hb hx I1 r q⟩
end
/-- a def by its body, where nothing is being shown around -/
theorem fnG_of {CX : CXT} {P : Program} {w : World} {K : PySem.W.Frag} {mg : Str → Option Value} {base : Heap} {k : Nat} {f : Addr} {name qual : Str} {params : Arguments} {body : List Stmt} {scope : Scope} {dV kV doc pm cdv ct oc : Value}
    {an od : Option Addr} {osl : Array (Option Value)} {N ps : List Str} {sp : Sp}
    (lk : K.lookup f = some ⟨oc, od, .func (PySem.W.fnOf name qual params body scope dV kV doc pm an cdv ct), osl⟩) (cd : PySem.W.codeIn K cdv qual = true) (S : FnScope N ps scope) (few : ∀ vs H Q E, sp vs H Q E → vs.length = ps.length)
    (goes : ∀ (A : Around) (outer : List Env) (s : Shared) (H : Hp) (vs : List V) (Q : VK) (E : XK), (A.deeper (envOfC qual scope s.heap.objs.size f cdv)).guards = some [] → Room k (A.deeper (envOfC qual scope s.heap.objs.size f cdv)) → sp vs H Q E →
      ∃ t, PSs (cxOf CX P w K mg base N qual scope f cdv A outer s H E) body t ∧ t { nx := fun _ H' => Q .non H', rt := Q } (start N vs) H) :
    FnG P w K mg base CX (k + 1) f (PySem.W.fnOf name qual params body scope dV kV doc pm an cdv ct) ps sp := by
  constructor
  · exact few
  intro A gd hr outer s H args us vs Q E e0 hb r hsp
  have n := few _ _ _ _ hsp
  have old : ∀ b o, base.get? b = some o → s.heap.get? b = some o := fun b o q => (e0.bs b o q).1
  have KX := e0.mod.kin.keeps old
  have kinds : ∀ y ∈ ps.zip us, scope.names.lookup y.1 = some .local ∨ (scope.names.lookup y.1 = some .cell ∧ ((cellsFrom (s.heap.objs.size + 1) scope.names []).lookup y.1).isSome = true) := by
    rintro ⟨a, v⟩ hy
    rcases S.par a (List.of_mem_zip hy).1 with q | q
    · left; exact q
    · right; exact ⟨q, PySem.W.cellsFrom_some _ _ _ (.inl q)⟩
  apply codeAny_call_function hr.depth (KX _ _ lk) rfl S.co S.gen rfl (PySem.W.codeRec_of KX cd)
  apply hb
  apply wpAny_newFunctionEnv_cells S.kind kinds
  rintro env rfl s1 x
  refine ⟨(e0.mod.nolimit.keeps old).keeps x.toInCall.keep, codeAny_func ?_⟩
  obtain ⟨t, ht, hq⟩ := goes A outer s H vs Q E gd (hr.deeper _) hsp
  have I : Inv (cxOf CX P w K mg base N qual scope f cdv A outer s H E) [] (start N vs) H s1 := inv_start S hr.hd e0 n r x
  apply wpAny_mono (ht.run [] s1 (start N vs) H _ I hq) _ (fun _ _ z => z)
  intro fl s2 z
  have done : ∀ {σ' : L2.St} {H' : Hp} {v : V} {u : Value}, Inv (cxOf CX P w K mg base N qual scope f cdv A outer s H E) [] σ' H' s2 → RelV v u → Q v H' → CE outer P w H s Q u s2 := by
    intro σ' H' v u J rv q
    exact ⟨v, H', J.os, J.bare, J.base, J.hok, rv, q⟩
  match fl, z with
  | .ret u, ⟨v, σ', H', J, rv, q⟩ => exact done J rv q
  | .next, ⟨σ', H', J, q⟩ => exact done (v := V.non) (u := Value.none) J rfl q
  | .brk, ⟨_, _, _, q⟩ => exact q.elim
  | .cont, ⟨_, _, _, q⟩ => exact q.elim
section
variable {P : Program} {w : World} {K : PySem.W.Frag} {mg : Str → Option Value} {base : Heap}
/-- a def of the text -/
theorem okG {x qual : Str} {st : Stmt} {f : Addr} {fd : FuncData} {N ps : List Str} {k : Nat} {sp : Sp} (F : Fun K x qual st f fd) (S : FnScope N ps (defScope st)) (few : ∀ vs H Q E, sp vs H Q E → vs.length = ps.length)
    (goes : ∀ (cdv : Value) (A : Around) (outer : List Env) (s : Shared) (H : Hp) (vs : List V) (Q : VK) (E : XK), (A.deeper (envOfC qual (defScope st) s.heap.objs.size f cdv)).guards = some [] →
      Room k (A.deeper (envOfC qual (defScope st) s.heap.objs.size f cdv)) → sp vs H Q E →
      ∃ t, PSs (cxOf CX0 P w K mg base N qual (defScope st) f cdv A outer s H E).nox (defBody st) t ∧ t { nx := fun _ H' => Q .non H', rt := Q } (start N vs) H) : FnG P w K mg base CX0 (k + 1) f fd ps sp := by
  obtain ⟨oc, od, kV, doc, pm, an, cdv, ct, osl, rfl, lk, cd⟩ := F.ex
  apply fnG_of lk cd S few
  intro A outer s H vs Q E gd hr h
  obtain ⟨t, q1, q2⟩ := goes cdv A outer s H vs Q E gd hr h
  exact ⟨t, q1.nox, q2⟩
end

/-! ### repr of data -/
theorem pyd_nodict : ∀ d : PyData, d.canLay0 = true → d.hasDict = false := PyData.hasDict_of_canLay
def rRepr (K : PySem.W.Frag) : List V → Hp → VK → Prop := fun xs H Q => ∃ x d, xs = [x] ∧ Dp K H x d ∧ Good d ∧ Q (.str d.shown) H
section
variable {X : Cx}
theorem call_repr (gd : X.A.guards = some []) (hu : X.A.units + 68 < cLine) : CallR X (.builtin "repr") (rRepr X.K) := by
  intro pins s σ H xs us Q I r h
  obtain ⟨x, d, rfl, hd, g, q⟩ := h
  obtain ⟨u, rfl, rx⟩ : ∃ u, us = [u] ∧ RelV x u := by
    cases r with
    | cons a b =>
      cases b
      exact ⟨_, rfl, a⟩
  obtain ⟨as, rd⟩ := Dp.reads I d x u hd rx
  have dep : d.depth ≤ 64 := SeqAt.depth_of_shaped g.sh
  have big := g.fits
  have last : ∀ (h' : Heap) (tk : Nat) (t : Tok), (∀ b o, s.heap.get? b = some o → h'.get? b = some o) → EP X pins σ Q (.str d.shown t) { s with heap := h', toks := tk } :=
    fun h' tk t k => ⟨.str d.shown, H, I.kept k, ⟨_, rfl⟩, q⟩
  have deep : ∀ a, u = .ref a → wpAny (model X.prog X.w) X.A (call (.builtin "repr") [u]) (EP X pins σ Q) X.xe s := by
    intro a e
    subst e
    exact repr_of_reads' rd g.wr (PyData.noDict_hsm (pyd_nodict d g.lay)) gd (by omega) (fun _ _ z => z) (fun h' t tk k => last h' tk t k) big
  match d, hd, rd with
  | .list _, _, .list _ _ _ _ => exact deep _ rfl
  | .tuple _, _, .tuple _ _ _ _ => exact deep _ rfl
  | .none, _, .none => exact P.repr_of_none (last s.heap _ _ fun _ _ z => z)
  | .bool b, _, .bool _ =>
    refine P.repr_of_bool ?_
    have z := last s.heap (s.toks + 1) s.toks fun _ _ z => z
    cases b <;> exact z
  | .int i, _, .int _ _ => exact P.repr_of_int (of_decide_eq_true g.wr) (last s.heap _ _ fun _ _ z => z)
  | .str z, _, .str _ _ => exact P.repr_of_str (last s.heap _ _ fun _ _ z => z) big
end

/-! ### the law's own call -/
/-- the script's abstract heap: the script alone, locked, where it is none of the module's own lists -/
def H0 (K : PySem.W.Frag) (a : Addr) (ob : Obj) (xs : List V) : Hp := fun b => if b = a ∧ K.lookup a = none then some (.frz ob (.lst xs)) else none
theorem H0_cases {K : PySem.W.Frag} {a b : Addr} {ob : Obj} {xs : List V} {u : HO} (h : H0 K a ob xs b = some u) : b = a ∧ K.lookup a = none ∧ u = .frz ob (.lst xs) := by
  unfold H0 at h
  split at h
  · rename_i c
    cases h
    exact ⟨c.1, c.2, rfl⟩
  · cases h
theorem law_callG {P : Program} {w : World} {K : PySem.W.Frag} {mg mb : Str → Option Value} {k : Nat} {fa a : Addr} {fd : FuncData} {x : Str} {sp : Sp} {s₁ : Shared} {vs : List Value} {ns : List Int}
    (F : ∀ base : Heap, K.In base → base.Ns mainGlobals mg → FnG P w K mg base CX0 k fa fd [x] sp) (kin : K.In s₁.heap) (gl : s₁.heap.Ns mainGlobals mg) (bl : s₁.heap.Ns builtinsNs mb)
    (blt : ∀ x : Str, x ≠ "__name__" → mb x = bootBuiltins x) (nol : s₁.heap.NoLimit) (gens : s₁.gens = #[]) (at_a : s₁.heap.get? a = some { cls := .type "list", data := .seq vs.toArray })
    (are : IntsAre vs ns) (few : ns.length ≤ sizeLine) (hr : Room k callerA) (bnd : ∀ (s : Shared) (u : Value), BindsTo s fd ⟨[u], []⟩ [(x, u)])
    (hsp : ∀ H : Hp, SqL K H a (ns.map V.int) → sp [.ref a] H (fun v _ => v = .bl true) E0) :
    codeAny (model P w) callerA (.call (.ref fa) ⟨[.ref a], []⟩) (fun r s' => r = .ok (.ret (.bool true)) ∧ OldK s₁.heap s'.heap ∧ s'.os = s₁.os ∧ AllBare s'.gens) s₁ := by
  have rv := vals_ints are
  have z : vs.length ≤ sizeLine := by rw [are.length]; exact few
  generalize eo : ({ cls := .type "list", data := .seq vs.toArray } : Obj) = ob at at_a
  let H := H0 K a ob (ns.map V.int)
  have one : ∀ b u, H b = some u → b = a ∧ K.lookup a = none ∧ u = .frz ob (.lst (ns.map V.int)) := fun b u h => H0_cases h
  have ok : HOk P w H s₁.heap := by
    intro b u h
    obtain ⟨rfl, _, rfl⟩ := one b u h
    refine ⟨at_a, by rw [List.length_map]; exact few, vs, 0, rv, ?_⟩
    rw [at_a, ← eo]
  have sq : SqL K H a (ns.map V.int) := by
    cases hk : K.lookup a with
    | none =>
      left
      right
      exact ⟨ob, if_pos ⟨rfl, hk⟩⟩
    | some o =>
      right
      have e := (kin a o hk).symm.trans at_a
      cases e
      subst eo
      exact ⟨_, vs.toArray, _, hk, rfl, rfl, rfl, by simpa using z, by simpa using rv⟩
  have dropped : ∀ {b : Addr} {o : Obj}, s₁.heap.get? b = some o → (b ≠ a ∨ K.lookup a ≠ none) → H b = none := by
    intro b o _ c
    cases h : H b with
    | none => rfl
    | some u =>
      obtain ⟨e1, e2, _⟩ := one b u h
      rcases c with c | c
      · exact absurd e1 c
      · exact absurd e2 c
  have nsA : ∀ {b : Addr} {m : Str → Option Value}, s₁.heap.Ns b m → (hidT s₁.heap H).Ns b m := by
    rintro b m ⟨o, es, ep, e, d, r⟩
    refine ⟨o, es, ep, hidT_get e (dropped e (.inl ?_)), d, r⟩
    rintro rfl
    rw [at_a] at e
    cases e
    rw [← eo] at d
    cases d
  have kinB : K.In (hidT s₁.heap H) := by
    intro b o e
    refine hidT_get (kin b o e) (dropped (kin b o e) ?_)
    by_cases h : b = a
    · right
      intro q
      rw [h, q] at e
      cases e
    · left; exact h
  have e0 : Env0 P w K mg (hidT s₁.heap H) callerA [] s₁ H := by
    constructor
    · rfl
    · obtain ⟨mc, q1, q2⟩ := nol
      exact ⟨kinB, nsA gl, ⟨mb, nsA bl, blt⟩, mc, nsA q1, q2⟩
    · exact fun b o e => of_hidT e
    · exact Nat.le_of_eq (hidT_size _ _)
    · trivial
    · intro b hb
      cases hb
    · exact ok
    · exact .of_eq gens
  apply codeAny_mono ((F _ kinB (nsA gl)).goes callerA rfl hr [] s₁ H ⟨[.ref a], []⟩ [.ref a] [.ref a] _ _ e0 (bnd s₁ (.ref a)) (.cons rfl .nil) (hsp H sq))
  intro res s2 h
  match res, h with
  | .error _, h => exact h.elim
  | .ok (.ret u), ⟨v, H', os, bare, un, ok2, rr, q⟩ =>
    have e : v = .bl true := q
    subst e
    obtain rfl : u = Value.bool true := rr
    refine ⟨rfl, OldK.of_keep ?_, os, bare⟩
    intro b o e
    cases hb : H b with
    | none => exact un.keep b o e hb (fun z => nomatch z) fun z => nomatch z
    | some u =>
      obtain ⟨_, _, rfl⟩ := one b u hb
      obtain ⟨e1, _⟩ := ok b _ hb
      obtain ⟨e2, _⟩ := ok2 b _ (un.frzs b ob _ hb)
      rw [e] at e1
      cases e1
      exact e2
/-- the walk, from the law's def -/
theorem walkG {l : PySem.W.OpenLaw} {n k : Nat} {q : Program} {loose : List Str} {XP : (Str → Option Value) → Heap → Prop} {YP : World → Heap → Prop} {d : DefRec} {K : Params → PySem.W.Frag} {sp : PySem.W.Frag → Sp} {x : Str}
    (most : l.most = some n) (small : n ≤ sizeLine) (nodef : d.params.defaults = []) (hr : Room k callerA) (hY : ∀ (w : World) (h : Heap), YP w h → (K w.params).In h)
    (F : ∀ (w : World) (mg : Str → Option Value) (fa : Addr) (h : Heap), (K w.params).In h → h.Ns mainGlobals mg → mg d.name = some (.ref fa) →
      ∃ fd : FuncData, (∀ (s : Shared) (u : Value), BindsTo s fd ⟨[u], []⟩ [(x, u)]) ∧ ∀ base : Heap, (K w.params).In base → base.Ns mainGlobals mg → FnG l.prog w (K w.params) mg base CX0 k fa fd [x] (sp (K w.params)))
    (hsp : ∀ (K : PySem.W.Frag) (H : Hp) (a : Addr) (ns : List Int), ns.length ≤ n → SqL K H a (ns.map V.int) → sp K [.ref a] H (fun v _ => v = .bl true) E0) :
    PySem.W.WalkO q loose XP YP l.row.toRowW d [] (fun f vs => PySem.call f vs) := by
  apply Att.attach_call most nodef
  intro w s₀ s₁ mg mb fa o pm cd doc a vs ns G Y _ _ _ hm at_a are few gens
  obtain ⟨fd, b, hF⟩ := F w mg fa _ (hY w _ Y) G.T.g hm
  exact law_callG hF (hY w _ Y) G.T.g G.T.b G.T.builtins G.T.nolimit gens at_a are (Nat.le_trans few small) hr b fun H h => hsp _ H a ns few h
end Pk
set_option Elab.async false
set_option linter.all false
set_option maxRecDepth 100000
set_option maxHeartbeats 2000000
namespace Pk
open PySem PySem.Spec L2 PyProof.Rows
/-! ### operators over several kinds of values -/
section
variable {X : Cx}
theorem or2 {f : Value → Value → Sem Value} {r r' : R2} (h : OpR X f r) (h' : OpR X f r') : OpR X f (fun x y H Q => r x y H Q ∨ r' x y H Q) := by
  intro pins s σ H x y v u Q I rx ry q
  rcases q with q | q
  · exact h pins s σ H x y v u Q I rx ry q
  · exact h' pins s σ H x y v u Q I rx ry q
theorem orC {f : Value} {r r' : List V → Hp → VK → Prop} (h : CallR X f r) (h' : CallR X f r') : CallR X f (fun x H Q => r x H Q ∨ r' x H Q) := by
  intro pins s σ H xs us Q I rx q
  rcases q with q | q
  · exact h pins s σ H xs us Q I rx q
  · exact h' pins s σ H xs us Q I rx q
def rAddI : R2 := rI0 fun i j => .int (i + j)
def rAddT : R2 := fun x y H Q => ∃ i j, x = .str i ∧ y = .str j ∧ i.length + j.length ≤ sizeLine ∧ Q (.str (i ++ j)) H
def rAddU (K : PySem.W.Frag) : R2 := fun x y H Q => rAddI x y H Q ∨ rAddT x y H Q ∨ rCat x y H Q ∨ rCatA K x y H Q
theorem opAdd : OpR X (binaryOp .Add) (rAddU X.K) := or2 op_add (or2 op_add_str (or2 op_cat op_catA))
def rSubI : R2 := rI0 fun i j => .int (i - j)
theorem opSub : OpR X (binaryOp .Sub) rSubI := op_sub
def rMulI : R2 := rI (fun i j => CMul i j ∨ CMulW i j) fun i j => .int (i * j)
theorem op_mulI : OpR X (binaryOp .Mult) rMulI := opI fun _ _ _ _ _ _ _ hc q => mul_int q (hc.elim CMul.ok CMulW.ok)
def rRepS : R2 := fun x y H Q => ∃ z n, x = .str z ∧ y = .int n ∧ z.length ≤ 1000 ∧ 0 ≤ n ∧ n ≤ 1000 ∧ Q (.str (Txt.mul z n)) H
theorem op_repS : OpR X (binaryOp .Mult) rRepS := by
  intro pins s σ H x y v u Q I rx ry h
  obtain ⟨z, n, rfl, rfl, hz, h0, h1, q⟩ := h
  obtain ⟨t, rfl⟩ := rx
  obtain ⟨t', rfl⟩ := ry
  refine SB.mul ⟨?_, fun a _ => ?_, fun a _ => ?_⟩ fun t2 k => ⟨.str _, H, I.tok k, ⟨_, rfl⟩, q⟩
  · rw [decide_eq_false (show ¬ n < -(2 ^ 63 : Int) by omega), decide_eq_false (show ¬ n ≥ 2 ^ 63 by omega)]
    rfl
  · have h2 : (1000 : Int) ≤ (2 ^ 63 - 1) / n := by
      apply Int.le_ediv_of_mul_le (by omega)
      omega
    omega
  · have h2 : z.length * n.toNat ≤ 1000 * 1000 := Nat.mul_le_mul hz (by omega)
    unfold Builtin.Str.tooLong
    rw [decide_eq_false]
    rw [sizeLine_eq]
    omega
def rMulU (K : PySem.W.Frag) : R2 := fun x y H Q => rMulI x y H Q ∨ rRepS x y H Q ∨ rRep x y H Q ∨ rRepT K x y H Q
theorem opMul : OpR X (binaryOp .Mult) (rMulU X.K) := or2 op_mulI (or2 op_repS (or2 op_rep op_repT))
def rDivI : R2 := rI CDivW fun i j => .int (i / j)
theorem opDiv : OpR X (binaryOp .FloorDiv) rDivI := op_fdivW
def rModI : R2 := rI (fun _ j => 0 < j) fun i j => .int (i % j)
theorem opMod : OpR X (binaryOp .Mod) rModI := op_mod
/-! comparisons; hu: room -/
def rEqU (K : PySem.W.Frag) : R2 := fun x y H Q => rEq x y H Q ∨ rEqD K x y H Q
def rNeU (K : PySem.W.Frag) : R2 := fun x y H Q => rNe x y H Q ∨ rNeD K x y H Q
theorem opEq (hu : X.A.units + 64 < cLine) : OpR X (compareOp .Eq) (rEqU X.K) := or2 op_eq (op_eqD hu)
theorem opNe (hu : X.A.units + 64 < cLine) : OpR X (compareOp .NotEq) (rNeU X.K) := or2 op_ne (op_neD hu)
def rLtI : R2 := rI0 fun i j => .bl (decide (i < j))
def rGtI : R2 := rI0 fun i j => .bl (decide (j < i))
def rLeI : R2 := rI0 fun i j => .bl (decide (i ≤ j))
def rGeI : R2 := rI0 fun i j => .bl (decide (j ≤ i))
def rLeT : R2 := fun x y H Q => ∃ i j, x = .str i ∧ y = .str j ∧ Q (.bl (!decide (j.cps.toList < i.cps.toList))) H
def rLeU : R2 := fun x y H Q => rLeI x y H Q ∨ rLeT x y H Q
theorem opLt : OpR X (compareOp .Lt) rLtI := op_lt
theorem opGt : OpR X (compareOp .Gt) rGtI := op_gt
theorem opLe : OpR X (compareOp .LtE) rLeU := or2 op_le op_le_str
theorem opGe : OpR X (compareOp .GtE) rGeI := op_ge
def rIsNn : R2 := fun x y H Q => y = .non ∧ Q (.bl (decide (x = .non))) H
def rNotNn : R2 := fun x y H Q => y = .non ∧ Q (.bl (!decide (x = .non))) H
theorem opIsN : OpR X (compareOp .Is) rIsNn := op_isN
theorem opNotN : OpR X (compareOp .IsNot) rNotNn := op_notN
/-- x in (a, b, ..), x in [..], a sign in a text -/
def rSignIn : R2 := fun x y H Q => ∃ (c : Nat) (z : Str), x = .str ⟨#[c]⟩ ∧ y = .str z ∧ Q (.bl (decide (c ∈ z.cps.toList))) H
def rSignNotIn : R2 := fun x y H Q => ∃ (c : Nat) (z : Str), x = .str ⟨#[c]⟩ ∧ y = .str z ∧ Q (.bl (!decide (c ∈ z.cps.toList))) H
def rInU (K : PySem.W.Frag) : R2 := fun x y H Q => rIn K false x y H Q ∨ rSignIn x y H Q
def rNotInU (K : PySem.W.Frag) : R2 := fun x y H Q => rIn K true x y H Q ∨ rSignNotIn x y H Q
theorem opIn : OpR X (compareOp .In) (rInU X.K) := or2 op_in_seq op_in_sign
theorem opNotIn : OpR X (compareOp .NotIn) (rNotInU X.K) := or2 op_notIn_seq op_notIn_sign
/-! slices, items stored by an operator -/
def rSlS : V → Option Int → Option Int → Hp → VK → Prop := fun x lo hi H Q => ∃ z, x = .str z ∧ z.length ≤ sizeLine ∧ Q (.str (cutS z lo hi)) H
def rSlU (K : PySem.W.Frag) : V → Option Int → Option Int → Hp → VK → Prop := fun x lo hi H Q => rSlL K x lo hi H Q ∨ rSlT K x lo hi H Q
theorem slU : SlR X (rSlU X.K) := SlR.or sl_list sl_tup
def rGetL (K : PySem.W.Frag) : R2 := fun x y H Q => ∃ p xs k v, x = .ref p ∧ y = .int k ∧ 0 ≤ k ∧ SqL K H p xs ∧ xs[k.toNat]? = some v ∧ Q v H
theorem get_list : PGet X (rGetL X.K) := by
  intro pins s σ H o i ov iv Q I ro ri h
  obtain ⟨p, xs, k, v, rfl, rfl, h0, hp, hat, q⟩ := h
  cases ro
  obtain ⟨t, rfl⟩ := ri
  obtain ⟨its, r, pl, hz⟩ := I.list hp
  obtain ⟨u, hu, ru⟩ := r.get hat
  have hl := r.length
  have hn := line63
  have hj := (List.getElem?_eq_some_iff.mp hat).1
  exact wpAny_getItem_list pl.isList h0 (by omega) (by simpa using hu) ⟨v, H, I, ru, q⟩
end
end Pk
set_option Elab.async false
set_option linter.all false
set_option maxRecDepth 100000
set_option maxHeartbeats 2000000
namespace Pk
open PySem PySem.Spec L2 PyProof.Rows
/-! ### built-ins by name -/
theorem boot_len : bootBuiltins "len" = some (.builtin "len") := PySem.boot_len
theorem boot_isinstance : bootBuiltins "isinstance" = some (.builtin "isinstance") := by decide +kernel
theorem boot_abs : bootBuiltins "abs" = some (.builtin "abs") := by decide +kernel
theorem boot_ord : bootBuiltins "ord" = some (.builtin "ord") := by decide +kernel
theorem boot_all : bootBuiltins "all" = some (.builtin "all") := by decide +kernel
theorem boot_any : bootBuiltins "any" = some (.builtin "any") := by decide +kernel
theorem boot_sum : bootBuiltins "sum" = some (.builtin "sum") := by decide +kernel
theorem boot_max : bootBuiltins "max" = some (.builtin "max") := by decide +kernel
theorem boot_min : bootBuiltins "min" = some (.builtin "min") := by decide +kernel
theorem boot_repr : bootBuiltins "repr" = some (.builtin "repr") := by decide +kernel
theorem boot_sorted : bootBuiltins "sorted" = some (.builtin "sorted") := by decide +kernel
theorem boot_t_int : bootBuiltins "int" = some (.type "int") := by decide +kernel
theorem boot_t_bool : bootBuiltins "bool" = some (.type "bool") := by decide +kernel
theorem boot_t_str : bootBuiltins "str" = some (.type "str") := by decide +kernel
theorem boot_t_list : bootBuiltins "list" = some (.type "list") := by decide +kernel
theorem boot_t_tuple : bootBuiltins "tuple" = some (.type "tuple") := by decide +kernel
theorem boot_t_dict : bootBuiltins "dict" = some (.type "dict") := by decide +kernel
section
variable {X : Cx}
def rLenU (K : PySem.W.Frag) : List V → Hp → VK → Prop := fun xs H Q => (∃ x n, xs = [x] ∧ LenV K x H n ∧ Q (.int n) H) ∨ ∃ a kvs, xs = [V.ref a] ∧ H a = some (.dK kvs) ∧ Q (.int kvs.length) H
theorem callLen : CallR X (.builtin "len") (rLenU X.K) := orC call_len call_lenD
def rAbs : List V → Hp → VK → Prop := fun xs H Q => ∃ i, xs = [.int i] ∧ Q (.int (if i < 0 then -i else i)) H
def rOrd : List V → Hp → VK → Prop := fun xs H Q => ∃ x, xs = [.str x] ∧ x.length = 1 ∧ Q (.int (x.cps.getD 0 0 : Nat)) H
def rMax2 : List V → Hp → VK → Prop := fun xs H Q => ∃ i j, xs = [.int i, .int j] ∧ Q (.int (if j > i then j else i)) H
def rMin2 : List V → Hp → VK → Prop := fun xs H Q => ∃ i j, xs = [.int i, .int j] ∧ Q (.int (if j < i then j else i)) H
def rInt1 : List V → Hp → VK → Prop := fun xs H Q => (∃ i, xs = [.int i] ∧ Q (.int i) H) ∨ ∃ k, xs = [.bl k] ∧ Q (.int (if k then 1 else 0)) H
def rIntS : List V → Hp → VK → Prop := fun xs H Q => ∃ a n, xs = [.str a] ∧ PySem.intText? a = some n ∧ a.length ≤ 640 ∧ Q (.int n) H
def rIntU : List V → Hp → VK → Prop := fun xs H Q => rInt1 xs H Q ∨ rIntS xs H Q
theorem callInt : CallR X (.type "int") rIntU := orC call_int1 call_int_str
def rBool1 : List V → Hp → VK → Prop := fun xs H Q => (∃ i, xs = [.int i] ∧ Q (.bl (i != 0)) H) ∨ ∃ k, xs = [.bl k] ∧ Q (.bl k) H
def rListOf (K : PySem.W.Frag) : List V → Hp → VK → Prop := fun xs H Q => ∃ p ys, xs = [.ref p] ∧ (SqL K H p ys ∨ SqT K H p ys) ∧ ∀ l, H l = none → Q (.ref l) (upd H l (.lst ys))
def rTupleOf (K : PySem.W.Frag) : List V → Hp → VK → Prop := fun xs H Q => ∃ p ys, xs = [.ref p] ∧ ((SqL K H p ys ∧ ∀ l, H l = none → Q (.ref l) (upd H l (.tup ys))) ∨ (SqT K H p ys ∧ Q (.ref p) H))
def rPowI : R2 := rI CPow fun i j => .int (i ^ j.toNat)
theorem opPow : OpR X (binaryOp .Pow) rPowI := op_pow
def tTru (K : PySem.W.Frag) (ta : TE) : TT := fun σ H Q => ta σ H fun x H' => ∃ k, TruV K x H' k ∧ Q k H'
def tJoin (K : PySem.W.Frag) (to ta : TE) : TE := tBM K "str" (fun x xs H Q => ∃ a p, ∃ ys : List Str, x = .str a ∧ xs = [.ref p] ∧ (SqL K H p (ys.map V.str) ∨ SqT K H p (ys.map V.str)) ∧ JoinOk a ys = true ∧ Q (.str (Txt.join a ys)) H) to (tCons ta tNil)
end
/-! ### a def that is called: where it stands, what it promises -/
structure Cal (P : Program) (w : World) (K : PySem.W.Frag) (mg : Str → Option Value) (base : Heap) (CX : CXT) (k : Nat) (x : Str) (ps : List Str) (ds : List Value) (sp : Sp) : Prop where
  ex : ∃ f fd, FnOk P w K mg base CX k f fd ps sp ∧ mg x = some (.ref f) ∧ PySem.W.keepIn K (.ref f) = true ∧ Binds K fd ps ds
structure CalG (P : Program) (w : World) (K : PySem.W.Frag) (mg : Str → Option Value) (base : Heap) (CX : CXT) (k : Nat) (x : Str) (ps : List Str) (sp : Sp) : Prop where
  ex : ∃ f fd, FnG P w K mg base CX k f fd ps sp ∧ mg x = some (.ref f) ∧ PySem.W.keepIn K (.ref f) = true ∧ Binds K fd ps []
section
variable {X : Cx} {CX : CXT} {k j : Nat} {ps : List Str} {ds : List Value} {dvs : List V} {sp : Sp} {E : XK} {x : Str} {p pos : Pos} {e : Expr} {es : List Expr} {t : TA}
theorem pe_cal (F : Cal X.prog X.w X.K X.mg X.base CX k x ps [] sp) (hr : Room j X.A) (hx : Passes CX X E) (ha : PA X (e :: es) t) (hj : k ≤ j := by first | decide | omega) (hg : Gl X x := by rfl)
    (h1 : (x == ("__debug__" : Str)) = false := by decide) (h2 : starEach (e :: es) X.env = (false, eval e X.env) :: starEach es X.env := by rfl) (h3 : (backTo pos (starEach es X.env)).any (·.1) = false := by rfl) :
    PE X (.Call (.Name x p) (e :: es) [] pos) (tCall sp [] E t) := by
  obtain ⟨f, fd, F, hm, hk, hb⟩ := F.ex
  exact pe_call F (hr.mono hj) hg hm hk hb .nil hx ha h1 h2 h3
theorem pe_calD (F : Cal X.prog X.w X.K X.mg X.base CX k x ps ds sp) (hd : Vals dvs ds) (hr : Room j X.A) (hx : Passes CX X E) (ha : PA X (e :: es) t) (hj : k ≤ j := by first | decide | omega) (hg : Gl X x := by rfl)
    (h1 : (x == ("__debug__" : Str)) = false := by decide) (h2 : starEach (e :: es) X.env = (false, eval e X.env) :: starEach es X.env := by rfl) (h3 : (backTo pos (starEach es X.env)).any (·.1) = false := by rfl) :
    PE X (.Call (.Name x p) (e :: es) [] pos) (tCall sp dvs E t) := by
  obtain ⟨f, fd, F, hm, hk, hb⟩ := F.ex
  exact pe_call F (hr.mono hj) hg hm hk hb hd hx ha h1 h2 h3
theorem pe_calg (F : CalG X.prog X.w X.K X.mg X.base CX k x ps sp) (gd : X.A.guards = some []) (hr : Room j X.A) (hx : Passes CX X E) (ha : PA X (e :: es) t) (hj : k ≤ j := by first | decide | omega) (hg : Gl X x := by rfl)
    (h1 : (x == ("__debug__" : Str)) = false := by decide) (h2 : starEach (e :: es) X.env = (false, eval e X.env) :: starEach es X.env := by rfl) (h3 : (backTo pos (starEach es X.env)).any (·.1) = false := by rfl) :
    PE X (.Call (.Name x p) (e :: es) [] pos) (tCall sp [] E t) := by
  obtain ⟨f, fd, F, hm, hk, hb⟩ := F.ex
  exact pe_callG F gd (hr.mono hj) hg hm hk hb hx ha h1 h2 h3
end
theorem room_repr {k : Nat} {A : Around} (hr : Room k A) : A.units + 68 < cLine := by have := hr.un; omega
/-! ### what is kept -/
/-- all that was tracked but b -/
def Kp (b : Addr) (H H' : Hp) : Prop := ∀ c o, H c = some o → c ≠ b → H' c = some o
theorem Kp.refl {b : Addr} {H : Hp} : Kp b H H := fun _ _ h _ => h
theorem Kp.trans {b : Addr} {H H1 H2 : Hp} (a : Kp b H H1) (c : Kp b H1 H2) : Kp b H H2 := fun d o h n => c d o (a d o h n) n
theorem Kp.of {b : Addr} {H H' : Hp} (s : Same H H') : Kp b H H' := fun c o h _ => s c o h
theorem same_new {H : Hp} {p : Addr} {o : HO} (h : H p = none) : Same H (upd H p o) := fun b u q => by
  rw [upd_ne (ne_of_none q h)]
  exact q
theorem kp_new {b : Addr} {H : Hp} {p : Addr} {o : HO} (h : H p = none) : Kp b H (upd H p o) := Kp.of (same_new h)
theorem Kp.laid {b : Addr} {H H1 : Hp} {p : Addr} {o : HO} (k : Kp b H H1) (h : H1 p = none) : Kp b H (upd H1 p o) := k.trans (kp_new h)
/-- the object b itself is written -/
theorem kp_put {b : Addr} {H : Hp} {o : HO} : Kp b H (upd H b o) := fun c u h n => by
  rw [upd_ne n]
  exact h
theorem Kp.put {b : Addr} {H H1 : Hp} {o : HO} (k : Kp b H H1) : Kp b H (upd H1 b o) := k.trans kp_put
/-- an object that was not tracked at the beginning is written -/
theorem Kp.other {b p : Addr} {H H1 : Hp} {o : HO} (k : Kp b H H1) (h : H p = none) : Kp b H (upd H1 p o) := fun c u q n => by
  rw [upd_ne (ne_of_none q h)]
  exact k c u q n
theorem Kp.tup {K : PySem.W.Frag} {b a : Addr} {H H' : Hp} {xs ys : List V} (k : Kp b H H') (hb : H b = some (.lst ys)) (h : SqT K H a xs) : SqT K H' a xs := by
  rcases h with (h | ⟨o, h⟩) | h
  · exact .inl (.inl (k _ _ h (ne_of h hb (by intro z; cases z))))
  · exact .inl (.inr ⟨o, k _ _ h (ne_of h hb (by intro z; cases z))⟩)
  · exact .inr h
/-! ### the bag of draws -/
structure Bag (H : Hp) (b l : Addr) : Prop where
  ex : ∃ (x m p : Int) (xs : List Int), H b = some (.lst [.int x, .int m, .int p, .ref l]) ∧ H l = some (.lst (xs.map V.int)) ∧ 0 ≤ x ∧ 0 ≤ m ∧ m < 2147483647 ∧ 0 ≤ p ∧ xs.length ≤ 63 ∧ ∀ c ∈ xs, 0 ≤ c
theorem Bag.ne {H : Hp} {b l : Addr} (B : Bag H b l) : l ≠ b := by
  obtain ⟨x, m, p, xs, h1, h2, _⟩ := B.ex
  intro e
  rw [e, h1] at h2
  cases xs with
  | nil => cases h2
  | cons _ r => cases r with
    | nil => cases h2
    | cons _ r => cases r with
      | nil => cases h2
      | cons _ r => cases r with
        | nil => cases h2
        | cons _ r => simp at h2
/-- what is new does not touch the bag -/
theorem Bag.same {H H' : Hp} {b l : Addr} (B : Bag H b l) (s : Same H H') : Bag H' b l := by
  obtain ⟨x, m, p, xs, h1, h2, r⟩ := B.ex
  exact ⟨x, m, p, xs, s _ _ h1, s _ _ h2, r⟩
theorem Bag.at {H : Hp} {b l : Addr} (B : Bag H b l) : ∃ xs, H b = some (.lst xs) := by
  obtain ⟨x, m, p, xs, h1, h2, r⟩ := B.ex
  exact ⟨_, h1⟩
theorem Bag.at2 {H : Hp} {b l : Addr} (B : Bag H b l) : ∃ xs, H l = some (.lst xs) := by
  obtain ⟨x, m, p, xs, h1, h2, r⟩ := B.ex
  exact ⟨_, h2⟩
theorem Bag.put {H : Hp} {b l c : Addr} {o : HO} (B : Bag H b l) (h1 : b ≠ c) (h2 : l ≠ c) : Bag (upd H c o) b l := by
  obtain ⟨x, m, p, xs, e1, e2, r⟩ := B.ex
  exact ⟨x, m, p, xs, by rw [upd_ne h1]; exact e1, by rw [upd_ne h2]; exact e2, r⟩
/-- a number drawn below n -/
def sp_law_take (K : PySem.W.Frag) : Sp := fun vs H Q _ => ∃ b l n, vs = [.ref b, .int n] ∧ Bag H b l ∧ 0 < n ∧ n ≤ 10 ^ 100 ∧ ∀ v H', 0 ≤ v → v < n → Bag H' b l → Kp b H H' → Q (.int v) H'
/-- a new bag of a script -/
def sp_law_bag (K : PySem.W.Frag) : Sp := fun vs H Q _ => ∃ (a : Addr) (ns : List Int), vs = [.ref a] ∧ SqL K H a (ns.map V.int) ∧ ∀ b l H', H b = none → H l = none → Bag H' b l → Same H H' → Q (.ref b) H'
end Pk
set_option Elab.async false
set_option linter.all false
set_option maxRecDepth 100000
set_option maxHeartbeats 2000000
namespace Pk
open PySem PySem.Spec L2 PyProof.Rows
def t_law_bag (K : PySem.W.Frag) : TS :=
  (tRet (tLst (tCons (tC (.int 0)) (tCons (tC (.int 1234567891)) (tCons (tC (.int 0)) (tCons (tLc (iList K (tSl (rSlU K) (tVar 0) tNoPart (tPart (tC (.int 63))))) (gName 1) tYes (tCB (rAbs) (tCons (tVar 1) tNil)) [1]) tNil))))))
def t_law_take (K : PySem.W.Frag) : TS :=
  (Evl.tCut (tIfS (tTest (tOp (rEqU K) (tOp (rIx K) (tVar 0) (tC (.int 0))) (tC (.int 0)))) (tSeq (tAsg (tC (.int 0)) (gName 2))
    (Evl.tCut (tIfS (tTest (tOp (rLtI) (tOp (rIx K) (tVar 0) (tC (.int 2))) (tCB (rLenU K) (tCons (tOp (rIx K) (tVar 0) (tC (.int 3))) tNil)))) (tAsg (tOp (rIx K) (tOp (rIx K) (tVar 0) (tC (.int 3))) (tOp (rIx K) (tVar 0) (tC (.int 2)))) (gName 2)) tNext)
    (tSeq (tAugS (tVar 0) (tC (.int 2)) (tC (.int 1)) (rGetL K) (ipI fun i j => i + j) rSetL)
    (Evl.tCut (tIfS (tTest (tOp (rGeI) (tVar 2) (tC (.int 1000000000000000000)))) (tAsg (tVar 2) (gSub (tVar 0) (tC (.int 0)) rSetL)) tNext)
    (tSeq (tAsg (tOp (rAddU K) (tOp (rAddU K) (tOp (rMulU K) (tOp (rIx K) (tVar 0) (tC (.int 1))) (tC (.int 48271))) (tOp (rModI) (tCB (rIntU) (tCons (tVar 2) tNil)) (tC (.int 2147483647)))) (tOp (rMulU K) (tC (.int 7919)) (tOp (rIx K) (tVar 0) (tC (.int 2))))) (gName 3))
    (tAsg (tOp (rModI) (tCB (rIntU) (tCons (tVar 3) tNil)) (tC (.int 2147483647))) (gSub (tVar 0) (tC (.int 1)) rSetL))))))) tNext)
    (tSeq (tIfS (tTest (tOp (rGtI) (tOp (rIx K) (tVar 0) (tC (.int 0))) (tC (.int 0)))) (tSeq (tAsg (tOp (rModI) (tCB (rIntU) (tCons (tOp (rIx K) (tVar 0) (tC (.int 0))) tNil)) (tVar 1)) (gName 4))
    (tSeq (tAsg (tOp (rDivI) (tOp (rIx K) (tVar 0) (tC (.int 0))) (tVar 1)) (gSub (tVar 0) (tC (.int 0)) rSetL))
    (tRet (tVar 4)))) tNext)
    (tSeq (tAsg (tOp (rModI) (tCB (rIntU) (tCons (tOp (rMulU K) (tOp (rAddU K) (tOp (rIx K) (tVar 0) (tC (.int 1))) (tC (.int 1))) (tC (.int 39373))) tNil)) (tC (.int 1000000007))) (gName 5))
    (tSeq (tAsg (tOp (rModI) (tCB (rIntU) (tCons (tOp (rMulU K) (tOp (rModI) (tCB (rIntU) (tCons (tOp (rMulU K) (tVar 5) (tVar 5)) tNil)) (tC (.int 998244353))) (tC (.int 30011))) tNil)) (tC (.int 998244353))) (gName 6))
    (tSeq (tIfS (tTest (tOp (rGtI) (tVar 1) (tC (.int 1000000)))) (tRet (tOp (rModI) (tCB (rIntU) (tCons (tOp (rAddU K) (tOp (rMulU K) (tVar 6) (tC (.int 1000000007))) (tVar 5)) tNil)) (tVar 1))) tNext)
    (tRet (tOp (rModI) (tCB (rIntU) (tCons (tOp (rDivI) (tVar 6) (tC (.int 7))) tNil)) (tVar 1))))))))
abbrev EndsOf (Q : VK) : Ends := { nx := fun _ H' => Q .non H', rt := Q }
theorem ln_law_take {K : PySem.W.Frag} {vs : List V} {H : Hp} {Q : VK} {E : XK} (h : sp_law_take K vs H Q E) : vs.length = 2 := by obtain ⟨_, _, _, rfl, _⟩ := h; rfl
theorem ln_law_bag {K : PySem.W.Frag} {vs : List V} {H : Hp} {Q : VK} {E : XK} (h : sp_law_bag K vs H Q E) : vs.length = 1 := by obtain ⟨_, _, rfl, _⟩ := h; rfl
/-! ### slices by natural numbers -/
theorem cutV_to (xs : List V) (k : Nat) : cutV xs none (some (k : Int)) = xs.take k := by
  unfold cutV
  rw [HT.sIx_none, HT.sIx_nat]
  show (xs.drop 0).take (min k xs.length - 0) = xs.take k
  rw [List.drop_zero, Nat.sub_zero]
  exact (List.take_eq_take_min).symm
theorem cutV_from (xs : List V) (k : Nat) : cutV xs (some (k : Int)) none = xs.drop k := by
  unfold cutV
  rw [HT.sIx_none, HT.sIx_nat]
  by_cases h : k ≤ xs.length
  · rw [Nat.min_eq_left h, List.take_of_length_le]
    rw [List.length_drop]
    exact Nat.le_refl _
  · rw [Nat.min_eq_right (by omega), List.drop_length, List.drop_eq_nil_of_le (by omega), List.take_nil]
theorem take_map_get {α β : Type} {f : α → β} {l : List α} {i : Nat} {x : α} (h : l[i]? = some x) : (l.take (i + 1)).map f = (l.take i).map f ++ [f x] := by
  rw [List.take_add_one, h]
  simp
def iabs (i : Int) : Int := if i < 0 then -i else i
theorem rd_law_bag {K : PySem.W.Frag} {vs : List V} {H : Hp} {Q : VK} {E : XK} (h : sp_law_bag K vs H Q E) : t_law_bag K (EndsOf Q) (start ["", ""] vs) H := by
  obtain ⟨a, ns, rfl, hS, k⟩ := h
  refine ⟨_, rfl, 63, rfl, .inl ⟨a, _, rfl, hS, fun p hp => ?_⟩⟩
  have e1 : cutV (ns.map V.int) none (some 63) = (ns.take 63).map V.int := by
    rw [show (63 : Int) = ((63 : Nat) : Int) from rfl, cutV_to, List.map_take]
  rw [e1]
  refine ⟨p, rfl, ⟨_, SqL.of upd_same⟩, fun D hD => ?_⟩
  refine lc_list (xs := (ns.take 63).map V.int) (fun i H' => Same (upd H p (.lst ((ns.take 63).map V.int))) H' ∧ H' D = some (.lst (((ns.take 63).take i).map fun z => V.int (iabs z)))) ⟨same_new hD, upd_same⟩ (fun i H' _ s => s.1.seq (SqL.of upd_same)) ?_ ?_
  · rintro i x H' hx ⟨s, e⟩
    rw [List.getElem?_map] at hx
    cases hz : (ns.take 63)[i]? with
    | none => rw [hz] at hx; cases hx
    | some z =>
      rw [hz] at hx
      cases hx
      have hi := (List.getElem?_eq_some_iff.mp hz).1
      have hl : (ns.take 63).length ≤ 63 := by rw [List.length_take]; omega
      refine ⟨rfl, ?_⟩
      refine ⟨_, rfl, z, rfl, _, e, ?_, fun b o q => ?_, ?_⟩
      · rw [List.length_map, List.length_take]
        exact small1000 (by omega)
      · rw [upd_ne (ne_of_none q hD)]
        exact s b o q
      · rw [upd_same, take_map_get hz]
        rfl
  · rintro H' ⟨s, e⟩
    refine ⟨by show 4 ≤ sizeLine; decide, fun b hb => ?_⟩
    rw [List.length_map, List.take_length] at e
    refine k b D _ ?_ ?_ ⟨0, 1234567891, 0, ((ns.take 63).map iabs), upd_same, ?_, by omega, by omega, by omega, by omega, ?_, ?_⟩ ?_
    · exact (same_new hp).free (s.free hb)
    · exact (same_new hp).free hD
    · rw [upd_ne (ne_of_none e hb), e, List.map_map]
      rfl
    · rw [List.length_map, List.length_take]
      omega
    · intro c hc
      obtain ⟨z, _, rfl⟩ := List.mem_map.mp hc
      unfold iabs
      split <;> omega
    · exact (same_new hp).trans (s.trans (same_new hb))

theorem ifI {x y : Int} {A B : Prop} (h1 : x = y → A) (h2 : x ≠ y → B) : if decide (V.int x = V.int y) = true then A else B := by
  by_cases h : x = y
  · rw [if_pos (decide_eq_true (congrArg V.int h))]
    exact h1 h
  · rw [if_neg]
    · exact h2 h
    · intro z
      exact h (V.int.inj (of_decide_eq_true z))
theorem ifD {p : Prop} [Decidable p] {A B : Prop} (h1 : p → A) (h2 : ¬ p → B) : if decide p = true then A else B := by
  by_cases h : p
  · rw [if_pos (decide_eq_true h)]
    exact h1 h
  · rw [if_neg (fun z => h (of_decide_eq_true z))]
    exact h2 h
theorem div_ok {n : Int} (h0 : 0 < n) (h1 : n ≤ 10 ^ 100) : CDivW 0 n := by
  refine ⟨h0, ?_⟩
  have h2 : n.natAbs < 2 ^ 9000 := by
    have z : n.natAbs ≤ 10 ^ 100 := by omega
    have z2 : (10 : Nat) ^ 100 < 2 ^ 9000 := by decide +kernel
    omega
  by_cases e : n.natAbs = 0
  · rw [e]; decide
  · exact (Nat.log2_lt e).mpr h2
theorem rd_law_take {K : PySem.W.Frag} {vs : List V} {H : Hp} {Q : VK} {E : XK} (h : sp_law_take K vs H Q E) : t_law_take K (EndsOf Q) (start ["", "", "", "", "", "", ""] vs) H := by
  obtain ⟨b, l, n, rfl, B, h0, h1, k⟩ := h
  have nlb := B.ne
  obtain ⟨x, m, p, xs, hb, hl, x0, m0, m1, p0, l63, c0⟩ := B.ex
  refine ⟨fun σ' H' => ∃ (s2 s3 : Option V) (x m p : Int), σ' = [some (.ref b), some (.int n), s2, s3, none, none, none] ∧ H' b = some (.lst [.int x, .int m, .int p, .ref l]) ∧ H' l = some (.lst (xs.map V.int)) ∧ 0 ≤ x ∧ 0 ≤ m ∧ m < 2147483647 ∧ 0 ≤ p ∧ Kp b H H', ?_, ?_⟩
  · refine ⟨_, rfl, .inl ⟨b, _, _, _, rfl, rfl, SqL.of hb, rfl, .inl ⟨rfl, _, rfl, ?_⟩⟩⟩
    refine ifI (fun e => ?_) (fun _ => ⟨_, _, x, m, p, rfl, hb, hl, x0, m0, m1, p0, Kp.refl⟩)
    subst e
    -- the next cell, 0 behind the script
    refine ⟨fun σ' H' => H' = H ∧ ∃ c, 0 ≤ c ∧ σ' = [some (.ref b), some (.int n), some (.int c), none, none, none, none], ?_, ?_⟩
    · refine ⟨_, rfl, .inl ⟨b, _, _, _, rfl, rfl, SqL.of hb, rfl, _, rfl, .inl ⟨b, _, _, _, rfl, rfl, SqL.of hb, rfl, .inl ⟨_, _, rfl, .inl ⟨_, SqL.of hl, rfl⟩, _, _, rfl, rfl, _, rfl, ?_⟩⟩⟩⟩
      refine ifD (fun q => ?_) (fun _ => ⟨rfl, 0, by decide, rfl⟩)
      rw [List.length_map] at q
      have hp : p.toNat < xs.length := by omega
      have ep : p = ((p.toNat : Nat) : Int) := by omega
      have g : (xs.map V.int)[p.toNat]? = some (.int (xs[p.toNat])) := by rw [List.getElem?_map, List.getElem?_eq_getElem hp]; rfl
      refine ⟨_, rfl, .inl ⟨b, _, _, _, rfl, rfl, SqL.of hb, rfl, _, rfl, .inl ⟨b, _, _, _, rfl, rfl, SqL.of hb, rfl, .inl ⟨l, _, p, _, rfl, rfl, SqL.of hl, by rw [ep]; exact atI_nat g, ?_⟩⟩⟩⟩
      exact ⟨rfl, _, c0 _ (List.getElem_mem hp), rfl⟩
    rintro σ' H' ⟨rfl, c, cc, rfl⟩
    -- the place
    refine ⟨_, rfl, b, _, 2, _, rfl, rfl, by decide, SqL.of hb, rfl, _, _, rfl, rfl, b, _, 2, 2, rfl, rfl, hb, rfl, ?_⟩
    have hb' : (upd H' b (.lst [.int 0, .int m, .int (p + 1), .ref l])) b = some (.lst [.int 0, .int m, .int (p + 1), .ref l]) := upd_same
    have hl' : (upd H' b (.lst [.int 0, .int m, .int (p + 1), .ref l])) l = some (.lst (xs.map V.int)) := by rw [upd_ne nlb]; exact hl
    have kp' : Kp b H' (upd H' b (.lst [.int 0, .int m, .int (p + 1), .ref l])) := kp_put
    show Evl.tCut _ _ _ _ (upd H' b (.lst [.int 0, .int m, .int (p + 1), .ref l]))
    generalize upd H' b (.lst [.int 0, .int m, .int (p + 1), .ref l]) = H2 at hb' hl' kp' ⊢
    -- a great cell fills the bag
    refine ⟨fun σ' H3 => σ' = [some (.ref b), some (.int n), some (.int c), none, none, none, none] ∧ ∃ x, 0 ≤ x ∧ H3 b = some (.lst [.int x, .int m, .int (p + 1), .ref l]) ∧ H3 l = some (.lst (xs.map V.int)) ∧ Kp b H' H3, ?_, ?_⟩
    · refine ⟨_, rfl, _, _, rfl, rfl, _, rfl, ?_⟩
      refine ifD (fun q => ?_) (fun _ => ⟨rfl, 0, by decide, hb', hl', kp'⟩)
      refine ⟨_, rfl, _, rfl, b, _, 0, 0, rfl, rfl, hb', rfl, rfl, c, cc, upd_same, by rw [upd_ne nlb]; exact hl', kp'.put⟩
    rintro σ' H3 ⟨rfl, x, x0', hb3, hl3, kp3⟩
    refine ⟨_, rfl, .inl ⟨b, _, _, _, rfl, rfl, SqL.of hb3, rfl, .inl ⟨_, _, rfl, rfl, .inl (.inl (by omega)), ?_⟩⟩⟩
    refine ⟨_, rfl, .inl (.inl ⟨_, rfl, _, _, rfl, rfl, (by show (0 : Int) < _; decide), .inl ⟨_, _, rfl, rfl, ?_⟩⟩)⟩
    refine ⟨_, rfl, .inl ⟨b, _, _, _, rfl, rfl, SqL.of hb3, rfl, .inl ⟨_, _, rfl, rfl, .inl (.inl (by omega)), .inl ⟨_, _, rfl, rfl, ?_⟩⟩⟩⟩
    refine ⟨_, rfl, .inl (.inl ⟨_, rfl, _, _, rfl, rfl, (by show (0 : Int) < _; decide), ?_⟩)⟩
    refine ⟨_, rfl, b, _, 1, 1, rfl, rfl, hb3, rfl, ?_⟩
    exact ⟨_, _, x, _, p + 1, rfl, upd_same, by rw [upd_ne nlb]; exact hl3, x0', Int.emod_nonneg _ (by decide), Int.emod_lt_of_pos _ (by decide), by omega, kp3.put⟩
  · rintro σ' H' ⟨s2, s3, x, m, p, rfl, hb, hl, x0, m0, m1, p0, kp⟩
    refine ⟨_, rfl, .inl ⟨b, _, _, _, rfl, rfl, SqL.of hb, rfl, _, _, rfl, rfl, _, rfl, ?_⟩⟩
    refine ifD (fun hx => ?_) (fun hx => ?_)
    · refine ⟨_, rfl, .inl ⟨b, _, _, _, rfl, rfl, SqL.of hb, rfl, .inl (.inl ⟨_, rfl, _, rfl, _, _, rfl, rfl, h0, ?_⟩)⟩⟩
      refine ⟨_, rfl, .inl ⟨b, _, _, _, rfl, rfl, SqL.of hb, rfl, _, rfl, _, _, rfl, rfl, div_ok h0 h1, ?_⟩⟩
      refine ⟨_, rfl, b, _, _, 0, rfl, rfl, hb, rfl, ?_⟩
      refine ⟨_, rfl, k _ _ (Int.emod_nonneg _ (by omega)) (Int.emod_lt_of_pos _ h0) ⟨x / n, m, p, xs, upd_same, by rw [upd_ne nlb]; exact hl, Int.ediv_nonneg x0 (by omega), m0, m1, p0, l63, c0⟩ kp.put⟩
    · refine ⟨_, rfl, .inl ⟨b, _, _, _, rfl, rfl, SqL.of hb, rfl, .inl ⟨_, _, rfl, rfl, .inl ⟨_, _, rfl, rfl, .inl (.inl (by omega)), ?_⟩⟩⟩⟩
      refine .inl (.inl ⟨_, rfl, _, _, rfl, rfl, (by show (0 : Int) < _; decide), ?_⟩)
      generalize hw : (m + 1) * 39373 % 1000000007 = w
      have w0 : 0 ≤ w := by rw [← hw]; exact Int.emod_nonneg _ (by decide)
      have w1 : w < 1000000007 := by rw [← hw]; exact Int.emod_lt_of_pos _ (by decide)
      refine ⟨_, rfl, _, rfl, .inl ⟨_, _, rfl, rfl, .inl (.inl (by omega)), ?_⟩⟩
      refine .inl (.inl ⟨_, rfl, _, _, rfl, rfl, (by show (0 : Int) < _; decide), .inl ⟨_, _, rfl, rfl, .inl (.inr (by decide)), .inl (.inl ⟨_, rfl, _, _, rfl, rfl, (by show (0 : Int) < _; decide), ?_⟩)⟩⟩)
      generalize hz : w * w % 998244353 * 30011 % 998244353 = z
      have z0 : 0 ≤ z := by rw [← hz]; exact Int.emod_nonneg _ (by decide)
      have z1 : z < 998244353 := by rw [← hz]; exact Int.emod_lt_of_pos _ (by decide)
      refine ⟨_, rfl, _, _, rfl, rfl, _, rfl, ?_⟩
      have B' : Bag H' b l := ⟨x, m, p, xs, hb, hl, x0, m0, m1, p0, l63, c0⟩
      refine ifD (fun _ => ?_) (fun _ => ?_)
      · refine ⟨_, rfl, .inl ⟨_, _, rfl, rfl, .inl (.inl (by omega)), _, rfl, .inl ⟨_, _, rfl, rfl, .inl (.inl ⟨_, rfl, _, rfl, _, _, rfl, rfl, h0, ?_⟩)⟩⟩⟩
        exact k _ _ (Int.emod_nonneg _ (by omega)) (Int.emod_lt_of_pos _ h0) B' kp
      · refine ⟨_, rfl, _, _, rfl, rfl, ⟨by decide, by decide⟩, .inl (.inl ⟨_, rfl, _, rfl, _, _, rfl, rfl, h0, ?_⟩)⟩
        exact k _ _ (Int.emod_nonneg _ (by omega)) (Int.emod_lt_of_pos _ h0) B' kp
end Pk
set_option Elab.async false
set_option linter.all false
set_option maxRecDepth 100000
set_option maxHeartbeats 2000000
namespace Pk
open PySem PySem.Spec L2 PyProof.Rows
theorem kit_same {K : PySem.W.Frag} {v : Value} : PySem.W.kitOne K v v = some true := by
  unfold PySem.W.kitOne
  simp
/-! ### own classes: bundles of what the top says of them -/
/-- a def that is a class's own: where it stands, what it promises -/
structure Own (P : Program) (w : World) (K : PySem.W.Frag) (mg : Str → Option Value) (base : Heap) (CX : CXT) (k : Nat) (C : Addr) (m : Str) (ps : List Str) (sp : Sp) : Prop where
  ex : ∃ f fd, FnOk P w K mg base CX k f fd ps sp ∧ PySem.W.findIn K (.ref C) m = some (some (.ref f)) ∧ PySem.W.isFn K (.ref f) = true ∧ PySem.W.keepIn K (.ref f) = true ∧ PySem.W.fnIn K f = true ∧ Binds K fd ps []
/-- a property of a class -/
structure Pro (P : Program) (w : World) (K : PySem.W.Frag) (mg : Str → Option Value) (base : Heap) (CX : CXT) (k : Nat) (C : Addr) (m : Str) (ps : List Str) (sp : Sp) : Prop where
  ex : ∃ p f fd, FnOk P w K mg base CX k f fd ps sp ∧ PropOf K C m p f ∧ Binds K fd ps []
/-- a class of the text -/
structure Kls (K : PySem.W.Frag) (mg : Str → Option Value) (x : Str) (C : Addr) : Prop where
  at_ : mg x = some (.ref C)
  cl : Cls K C
  ma : PySem.W.makesIn K C = true
  kp : PySem.W.keepIn K (.ref C) = true
  sf : PySem.W.selfFirst K C = true
  ic : C8.InsC K C
  ne : PySem.W.findIn K (.ref C) "__ne__" = some (some (.builtin "object.__ne__"))
section
variable {X : Cx} {CX : CXT} {k j : Nat} {C : Addr} {ps : List Str} {sp : Sp} {E : XK} {x m : Str} {p pos apos : Pos} {e o fe : Expr} {es : List Expr} {ta tf te : TE} {t : TA}
theorem run_code {pins : List (Addr × Obj)} {σ : L2.St} {H : Hp} {s : Shared} {f : Addr} {fd : FuncData} {Q : VK} {us : List Value} {vs : List V} (F : FnOk X.prog X.w X.K X.mg X.base CX k f fd ps sp) (hr : Room k X.A) (hb : Binds X.K fd ps [])
    (hx : Passes CX X E) (I : Inv X pins σ H s) (r : Vals vs us) (h : sp vs H Q E) :
    codeAny (model X.prog X.w) X.A (.call (.ref f) ⟨us, []⟩) (fun r s' => match r with | .ok (.ret v) => EP X pins σ Q v s' | .ok _ => False | .error e => X.xe e s') s := by
  have n : (us ++ ([] : List Value)).length = ps.length := by
    rw [List.append_nil, ← r.length]
    exact F.len _ _ _ _ h
  have b := hb s us I.kIn n
  rw [List.append_nil] at b
  apply codeAny_mono (F.run X.A X.stack s H ⟨us, []⟩ us vs Q E hr I.env0 b r h)
  intro res s2 q
  match res, q with
  | .error er, q => exact hx pins σ H s er s2 I q
  | .ok (.ret u), q => exact I.after q
/-- C(e, ..) -/
theorem pe_mk (c : Kls X.K X.mg x C) (F : Own X.prog X.w X.K X.mg X.base CX k C "__init__" ps sp) (hr : Room j X.A) (hx : Passes CX X E) (ha : PA X (e :: es) t) (hj : k + 1 ≤ j := by first | decide | omega) (hg : Gl X x := by rfl)
    (h1 : (x == ("__debug__" : Str)) = false := by decide) (h2 : starEach (e :: es) X.env = (false, eval e X.env) :: starEach es X.env := by rfl) (h3 : (backTo pos (starEach es X.env)).any (·.1) = false := by rfl) :
    PE X (.Call (.Name x p) (e :: es) [] pos) (tMake C sp [] E t) := by
  obtain ⟨f, fd, G, a1, a2, a3, _, b⟩ := F.ex
  exact pe_make ⟨c.ma, a1, a2, c.kp⟩ G (hr.mono hj) hg c.at_ b .nil hx ha h1 h2 h3
/-- o.m(e, ..), o.m() -/
theorem pe_mt (c : Kls X.K X.mg x C) (F : Own X.prog X.w X.K X.mg X.base CX k C m ps sp) (he : PE X o ta) (hr : Room j X.A) (hx : Passes CX X E) (ha : PA X (e :: es) t) (hj : k ≤ j := by first | decide | omega)
    {pl : Sem Bool} (hst : starEach (e :: es) X.env = (false, eval e X.env) :: starEach es X.env := by rfl) (hpl : (backTo pos (starEach es X.env)).any (·.1) = false := by rfl)
    (ht : eval (.Call (.Attribute o m apos) (e :: es) [] pos) X.env = (do
      let ov ← eval o X.env
      standAt apos.atName
      let (f, first) ← holding [ov] (getMethod ov m pl)
      callWith pos f first (backTo pos (starEach (e :: es) X.env)) (backToKw pos (keywordEach [] X.env))) := by rfl) :
    PE X (.Call (.Attribute o m apos) (e :: es) [] pos) (tMeth C m sp [] E ta t) := by
  obtain ⟨f, fd, G, a1, a2, a3, _, b⟩ := F.ex
  exact pe_meth he c.cl ⟨a1, a2, a3⟩ G (hr.mono hj) b .nil hx ha hst hpl ht
theorem pe_mt0 (c : Kls X.K X.mg x C) (F : Own X.prog X.w X.K X.mg X.base CX k C m ps sp) (he : PE X o ta) (hr : Room j X.A) (hx : Passes CX X E) (hj : k ≤ j := by first | decide | omega)
    {pl : Sem Bool} (ht : eval (.Call (.Attribute o m apos) [] [] pos) X.env = (do
      let ov ← eval o X.env
      standAt apos.atName
      let (f, first) ← holding [ov] (getMethod ov m pl)
      callWith pos f first (backTo pos (starEach [] X.env)) (backToKw pos (keywordEach [] X.env))) := by rfl) :
    PE X (.Call (.Attribute o m apos) [] [] pos) (tMeth C m sp [] E ta tNil) := by
  obtain ⟨f, fd, G, a1, a2, a3, _, b⟩ := F.ex
  exact pe_meth0 he c.cl ⟨a1, a2, a3⟩ G (hr.mono hj) b .nil hx ht
/-- o.f, a property -/
theorem pe_pr (c : Kls X.K X.mg x C) (F : Pro X.prog X.w X.K X.mg X.base CX k C m ps sp) (he : PE X o ta) (hr : Room j X.A) (hx : Passes CX X.nox E) (hj : k + 1 ≤ j := by first | decide | omega)
    (hab : attributeBase o m X.env (eval o X.env) = eval o X.env := by rfl) : PE X (.Attribute o m pos) (tProp C sp [] E ta) := by
  obtain ⟨q, f, fd, G, a1, b⟩ := F.ex
  exact pe_prop he c.cl a1 G (hr.mono hj) b .nil hx hab
/-- f(e, ..), f an instance of the class at C -/
def tCallI (C : Addr) (sp : Sp) (E : XK) (tf : TE) (t : TA) : TE := fun σ H Q => tf σ H fun y H1 => ∃ a, y = V.ref a ∧ t σ H1 fun vs H2 => (∃ dx fs, H2 a = some (.ins C dx fs)) ∧ sp (V.ref a :: vs) H2 Q E
theorem pe_in (F : Own X.prog X.w X.K X.mg X.base CX k C "__call__" ps sp) (hf : PE X fe tf) (hr : Room j X.A) (hx : Passes CX X E) (ha : PA X (e :: es) t) (hj : k ≤ j := by first | decide | omega)
    (ht : eval (.Call fe (e :: es) [] pos) X.env = (do callWith pos (← eval fe X.env) [] (backTo pos (starEach (e :: es) X.env)) (backToKw pos (keywordEach [] X.env))) := by rfl)
    (h2 : starEach (e :: es) X.env = (false, eval e X.env) :: starEach es X.env := by rfl) (h3 : (backTo pos (starEach es X.env)).any (·.1) = false := by rfl) : PE X (.Call fe (e :: es) [] pos) (tCallI C sp E tf t) := by
  obtain ⟨f, fd, G, a1, a2, a3, a4, b⟩ := F.ex
  constructor
  intro pins s σ H Q I h
  refine Call_ (thn (hf.run pins s σ H _ I h) ?_) ht
  rintro u s1 ⟨y, H1, I1, ry, a, rfl, q⟩
  obtain rfl : u = Value.ref a := ry
  refine StX.callO_with (thn (ha.run pos pins s1 σ H1 _ I1 q) ?_) h2 h3
  rintro us s2 ⟨vs, H2, I2, r, hi, q2⟩
  obtain ⟨ox, od, J, hd⟩ := StX.insC_at I2 (.inr hi)
  exact ⟨⟨C, ox, od, J, hd⟩, wpAny_call (PySem.W.kco_code I2.kIn J hd a1 a2 a4 (run_code (us := .ref a :: us) (vs := .ref a :: vs) G (hr.mono hj) b hx I2 (.cons rfl r) q2))⟩
/-- x op y, both instances of the class at C -/
def rOwnB (C : Addr) (sp : Sp) (E : XK) : R2 := fun x y H Q => ∃ a b dx fs dy gs, x = .ref a ∧ y = .ref b ∧ H a = some (.ins C dx fs) ∧ H b = some (.ins C dy gs) ∧ sp [x, y] H Q E
theorem op_ownB {op : Operator} (c : Kls X.K X.mg x C) (F : Own X.prog X.w X.K X.mg X.base CX k C (PySem.dunder op.info.2) ps sp) (hr : Room j X.A) (hx : Passes CX X E) (hj : k ≤ j := by first | decide | omega) : OpR X (binaryOp op) (rOwnB C sp E) := by
  obtain ⟨f, fd, G, a1, a2, a3, a4, bb⟩ := F.ex
  intro pins s σ H u v ov iv Q I ru rv h
  obtain ⟨a, b, dx, fs, dy, gs, rfl, rfl, ha, hb, q⟩ := h
  cases (show ov = Value.ref a from ru)
  cases (show iv = Value.ref b from rv)
  obtain ⟨_, O, _⟩ := ins_get I.hok ha
  obtain ⟨od, J, _⟩ := O.look
  obtain ⟨_, O', _⟩ := ins_get I.hok hb
  obtain ⟨od', J', _⟩ := O'.look
  obtain ⟨_, hF⟩ := I.fr
  refine PySem.W.binop_K (op := op) hF I.ok.mod.kin J J'.type c.sf a1 a2 ?_
  refine wpAny_mono (run_fn (us := [.ref a, .ref b]) (vs := [.ref a, .ref b]) G (hr.mono hj) bb .nil hx I (.cons rfl (.cons rfl .nil)) q) ?_ fun _ _ z => z
  rintro w s' ⟨z, H', I', rz, qz⟩
  exact SlX.cmpback rz ⟨z, H', I', rz, qz⟩
/-- o op= y, o an instance of the class at C -/
def ipOwn (C : Addr) (sp : Sp) (E : XK) : TIp := fun x y H Q => ∃ a dx fs, x = .ref a ∧ H a = some (.ins C dx fs) ∧ sp [x, y] H Q E
theorem ip_own {op : Operator} (c : Kls X.K X.mg x C) (F : Own X.prog X.w X.K X.mg X.base CX k C (dunderI op.info.2) ps sp) (hr : Room j X.A) (hx : Passes CX X E) (hj : k ≤ j := by first | decide | omega) : PIp X op (ipOwn C sp E) := by
  obtain ⟨f, fd, G, a1, a2, a3, a4, bb⟩ := F.ex
  intro pins s σ H u v ov iv Q I ru rv h
  obtain ⟨a, dx, fs, rfl, ha, q⟩ := h
  cases (show ov = Value.ref a from ru)
  obtain ⟨_, O, _⟩ := ins_get I.hok ha
  obtain ⟨od, J, _⟩ := O.look
  obtain ⟨_, hF⟩ := I.fr
  refine PySem.W.ksp_inplace (op := op) hF I.ok.mod.kin J c.sf a1 a2 ?_
  refine wpAny_mono (run_fn (us := [.ref a, iv]) (vs := [.ref a, v]) G (hr.mono hj) bb .nil hx I (.cons rfl (.cons rv .nil)) q) ?_ fun _ _ z => z
  rintro w s' ⟨z, H', I', rz, qz⟩
  exact SlX.cmpback rz ⟨z, H', I', rz, qz⟩
end
end Pk
set_option Elab.async false
set_option linter.all false
set_option maxRecDepth 100000
set_option maxHeartbeats 2000000
namespace Pk
open PySem PySem.Spec L2 PyProof.Rows
/-- where the package's classes stand -/
structure Cs where
  PipeError : Addr
  Wrong : Addr
  TooMany : Addr
  Overdrawn : Addr
  NotPassed : Addr
  Rule : Addr
  Account : Addr
  at_least : Addr := 0
  Twice : Addr := 0
  Unknown : Addr := 0
  Ring : Addr := 0
  BadGuide : Addr := 0
  Narrow : Addr := 0
  NoStep : Addr := 0
  Unready : Addr := 0
  NoCredit : Addr := 0
  Nothing : Addr := 0
  Broken : Addr := 0
  BadSlow : Addr := 0
  BadFrame : Addr := 0
  IsSlow : Addr := 0
  Unlike : Addr := 0
  NoDeed : Addr := 0
  Full : Addr := 0
  Refused : Addr := 0
  NoEntry : Addr := 0
  NoText : Addr := 0
  NoCommand : Addr := 0
  Plan : Addr := 0
  Machine : Addr := 0
  Sender : Addr := 0
  Reader : Addr := 0
  Standings : Addr := 0
  Layout : Addr := 0
  Book : Addr := 0
  Desk : Addr := 0
theorem iteT' {c : Bool} {A B : Prop} (e : c = true) (h : A) : if c = true then A else B := by
  rw [if_pos e]
  exact h
theorem iteF' {c : Bool} {A B : Prop} (e : c = false) (h : B) : if c = true then A else B := by
  rw [if_neg (by rw [e]; decide)]
  exact h
theorem vals_ints1 {i : Int} (t : Tok) : Vals [.int i] [.int i t] := .cons ⟨t, rfl⟩ .nil
/-! ### trees of rules -/
inductive Tr where
  | at (t q : Int)
  | or (a b : Tr)
  | and (a b : Tr)
namespace Tr
def lv : Tr → Nat
  | .at _ _ => 1
  | .or a b => lv a + lv b
  | .and a b => lv a + lv b
def dp : Tr → Nat
  | .at _ _ => 1
  | .or a b => max (dp a) (dp b) + 1
  | .and a b => max (dp a) (dp b) + 1
/-- nodes -/
def nd : Tr → Nat
  | .at _ _ => 1
  | .or a b => nd a + nd b + 1
  | .and a b => nd a + nd b + 1
def ok : Tr → Prop
  | .at t q => 1 ≤ t ∧ t ≤ 10 ^ 50 ∧ 1 ≤ q ∧ q ≤ 6
  | .or a b => ok a ∧ ok b
  | .and a b => ok a ∧ ok b
def give : Tr → Int → Int
  | .at t q, i => if t ≤ i then i - i % q else 0
  | .or a b, i => if give b i > give a i then give b i else give a i
  | .and a b, i => if give b i < give a i then give b i else give a i
def starts : Tr → List Int
  | .at t _ => [t]
  | .or a b => starts a ++ starts b
  | .and a b => starts a ++ starts b
def pd : Tr → PyData
  | .at t q => .tuple [.str "at", .int t, .int q]
  | .or a b => .tuple [.str "or", pd a, pd b]
  | .and a b => .tuple [.str "and", pd a, pd b]
theorem lv_pos : ∀ T : Tr, 1 ≤ lv T
  | .at _ _ => Nat.le_refl _
  | .or a b => Nat.le_trans (lv_pos a) (Nat.le_add_right _ _)
  | .and a b => Nat.le_trans (lv_pos a) (Nat.le_add_right _ _)
theorem dp_le : ∀ T : Tr, dp T ≤ lv T
  | .at _ _ => Nat.le_refl _
  | .or a b => by
    have h1 := dp_le a
    have h2 := dp_le b
    have h3 := lv_pos a
    have h4 := lv_pos b
    show max (dp a) (dp b) + 1 ≤ lv a + lv b
    omega
  | .and a b => by
    have h1 := dp_le a
    have h2 := dp_le b
    have h3 := lv_pos a
    have h4 := lv_pos b
    show max (dp a) (dp b) + 1 ≤ lv a + lv b
    omega
theorem dp_pos (T : Tr) : 1 ≤ dp T := by cases T <;> (unfold dp; omega)
theorem starts_len : ∀ T : Tr, (starts T).length = lv T
  | .at _ _ => rfl
  | .or a b => by show (starts a ++ starts b).length = _; rw [List.length_append, starts_len a, starts_len b]; rfl
  | .and a b => by show (starts a ++ starts b).length = _; rw [List.length_append, starts_len a, starts_len b]; rfl
/-- a tree as data: its depth, its text -/
theorem pd_depth : ∀ T : Tr, (pd T).depth ≤ dp T
  | .at t q => by show (PyData.tuple [.str "at", .int t, .int q]).depth ≤ 1; simp [PyData.depth, PyData.depthAll]
  | .or a b => by
    have h1 := pd_depth a
    have h2 := pd_depth b
    show (PyData.tuple [.str "or", pd a, pd b]).depth ≤ max (dp a) (dp b) + 1
    simp only [PyData.depth, PyData.depthAll]
    omega
  | .and a b => by
    have h1 := pd_depth a
    have h2 := pd_depth b
    show (PyData.tuple [.str "and", pd a, pd b]).depth ≤ max (dp a) (dp b) + 1
    simp only [PyData.depth, PyData.depthAll]
    omega
theorem pd_lay : ∀ T : Tr, (pd T).canLay0 = true
  | .at t q => by show (PyData.tuple [.str "at", .int t, .int q]).canLay0 = true; simp only [PyData.canLay0, PyData.canLayAll0]; decide +kernel
  | .or a b => by
    show (PyData.tuple [.str "or", pd a, pd b]).canLay0 = true
    simp only [PyData.canLay0, PyData.canLayAll0, pd_lay a, pd_lay b]; decide +kernel
  | .and a b => by
    show (PyData.tuple [.str "and", pd a, pd b]).canLay0 = true
    simp only [PyData.canLay0, PyData.canLayAll0, pd_lay a, pd_lay b]; decide +kernel
theorem log_ok {n : Int} (h0 : 0 ≤ n) (h1 : n ≤ 10 ^ 100) : n.natAbs.log2 < 1920 := by
  have h2 : n.natAbs < 2 ^ 1920 := by
    have z : n.natAbs ≤ 10 ^ 100 := by omega
    have z2 : (10 : Nat) ^ 100 < 2 ^ 1920 := by decide +kernel
    omega
  by_cases e : n.natAbs = 0
  · rw [e]; decide
  · exact (Nat.log2_lt e).mpr h2
theorem pd_show : ∀ T : Tr, ok T → (pd T).showable = true
  | .at t q, h => by
    obtain ⟨h1, h2, h3, h4⟩ := h
    show (PyData.tuple [.str "at", .int t, .int q]).showable = true
    have e1 : decide (t.natAbs.log2 < 1920) = true := decide_eq_true (log_ok (by omega) (by omega))
    have e2 : decide (q.natAbs.log2 < 1920) = true := decide_eq_true (log_ok (by omega) (by omega))
    simp only [PyData.showable, PyData.showableAll, e1, e2]; decide
  | .or a b, h => by
    show (PyData.tuple [.str "or", pd a, pd b]).showable = true
    simp only [PyData.showable, PyData.showableAll, pd_show a h.1, pd_show b h.2]; decide
  | .and a b, h => by
    show (PyData.tuple [.str "and", pd a, pd b]).showable = true
    simp only [PyData.showable, PyData.showableAll, pd_show a h.1, pd_show b h.2]; decide
theorem pd_siz : ∀ T : Tr, siz (pd T) + 100 ≤ 5000 * lv T
  | .at t q => by
    show siz (PyData.tuple [.str "at", .int t, .int q]) + 100 ≤ 5000 * 1
    have e : ((Str.ofString "at").length) = 2 := rfl
    simp only [siz, sizL]
    omega
  | .or a b => by
    have h1 := pd_siz a
    have h2 := pd_siz b
    have h3 := lv_pos a
    show siz (PyData.tuple [.str "or", pd a, pd b]) + 100 ≤ 5000 * (lv a + lv b)
    have e : ((Str.ofString "or").length) = 2 := rfl
    simp only [siz, sizL]
    omega
  | .and a b => by
    have h1 := pd_siz a
    have h2 := pd_siz b
    have h3 := lv_pos a
    show siz (PyData.tuple [.str "and", pd a, pd b]) + 100 ≤ 5000 * (lv a + lv b)
    have e : ((Str.ofString "and").length) = 3 := rfl
    simp only [siz, sizL]
    omega
end Tr
/-! ### trees in the heap -/
def TrAt (K : PySem.W.Frag) (H : Hp) : V → Tr → Prop
  | v, .at t q => ∃ a, v = .ref a ∧ SqT K H a [.str "at", .int t, .int q]
  | v, .or x y => ∃ a u w, v = .ref a ∧ SqT K H a [.str "or", u, w] ∧ TrAt K H u x ∧ TrAt K H w y
  | v, .and x y => ∃ a u w, v = .ref a ∧ SqT K H a [.str "and", u, w] ∧ TrAt K H u x ∧ TrAt K H w y
/-- tuples stay -/
def Tups (K : PySem.W.Frag) (H H' : Hp) : Prop := ∀ a xs, SqT K H a xs → SqT K H' a xs
section
variable {K : PySem.W.Frag} {H H' : Hp} {v : V} {T : Tr}
theorem TrAt.mono (s : Tups K H H') : ∀ {T : Tr} {v : V}, TrAt K H v T → TrAt K H' v T
  | .at t q, _, ⟨a, e, h⟩ => ⟨a, e, s _ _ h⟩
  | .or x y, _, ⟨a, u, w, e, h, h1, h2⟩ => ⟨a, u, w, e, s _ _ h, TrAt.mono s h1, TrAt.mono s h2⟩
  | .and x y, _, ⟨a, u, w, e, h, h1, h2⟩ => ⟨a, u, w, e, s _ _ h, TrAt.mono s h1, TrAt.mono s h2⟩
theorem Tups.same (s : Same H H') : Tups K H H' := fun a xs h => by
  rcases h with (h | ⟨o, h⟩) | h
  · exact .inl (.inl (s _ _ h))
  · exact .inl (.inr ⟨o, s _ _ h⟩)
  · exact .inr h
theorem Tups.kp {b : Addr} {ys : List V} (k : Kp b H H') (hb : H b = some (.lst ys)) : Tups K H H' := fun a xs h => k.tup hb h
theorem Tups.trans {H2 : Hp} (a : Tups K H H') (b : Tups K H' H2) : Tups K H H2 := fun x xs h => b x xs (a x xs h)
/-- an object that is no tuple is written -/
theorem Tups.put {p : Addr} {o u : HO} (h : H p = some u) (nt : ∀ xs, u ≠ .tup xs) (nf : ∀ ob xs, u ≠ .frz ob (.tup xs)) : Tups K H (upd H p o) := fun a xs q => by
  rcases q with (q | ⟨ob, q⟩) | q
  · exact .inl (.inl (by rw [upd_ne (ne_of q h fun e => nt _ e.symm)]; exact q))
  · exact .inl (.inr ⟨ob, by rw [upd_ne (ne_of q h fun e => nf _ _ e.symm)]; exact q⟩)
  · exact .inr q
theorem TrAt.ref (h : TrAt K H v T) : ∃ a, v = .ref a := by
  cases T with
  | «at» t q => obtain ⟨a, e, _⟩ := h; exact ⟨a, e⟩
  | or x y => obtain ⟨a, _, _, e, _⟩ := h; exact ⟨a, e⟩
  | and x y => obtain ⟨a, _, _, e, _⟩ := h; exact ⟨a, e⟩
theorem TrAt.dp : ∀ {T : Tr} {v : V}, TrAt K H v T → Dp K H v T.pd
  | .at t q, _, ⟨a, e, h⟩ => by subst e; exact .tup h (.cons (.str _) (.cons (.int _) (.cons (.int _) .nil)))
  | .or x y, _, ⟨a, u, w, e, h, h1, h2⟩ => by subst e; exact .tup h (.cons (.str _) (.cons (TrAt.dp h1) (.cons (TrAt.dp h2) .nil)))
  | .and x y, _, ⟨a, u, w, e, h, h1, h2⟩ => by subst e; exact .tup h (.cons (.str _) (.cons (TrAt.dp h1) (.cons (TrAt.dp h2) .nil)))
/-- what a tree's tuple is -/
theorem TrAt.tuple (h : TrAt K H v T) : ∃ a w x y, v = .ref a ∧ SqT K H a [.str w, x, y] ∧
    ((w = "at" ∧ ∃ t q, T = .at t q ∧ x = .int t ∧ y = .int q) ∨ (w = "or" ∧ ∃ A B, T = .or A B ∧ TrAt K H x A ∧ TrAt K H y B) ∨ (w = "and" ∧ ∃ A B, T = .and A B ∧ TrAt K H x A ∧ TrAt K H y B)) := by
  cases T with
  | «at» t q => obtain ⟨a, e, s⟩ := h; exact ⟨a, _, _, _, e, s, .inl ⟨rfl, t, q, rfl, rfl, rfl⟩⟩
  | or x y => obtain ⟨a, u, w, e, s, h1, h2⟩ := h; exact ⟨a, _, _, _, e, s, .inr (.inl ⟨rfl, x, y, rfl, h1, h2⟩)⟩
  | and x y => obtain ⟨a, u, w, e, s, h1, h2⟩ := h; exact ⟨a, _, _, _, e, s, .inr (.inr ⟨rfl, x, y, rfl, h1, h2⟩)⟩
end
end Pk
set_option Elab.async false
set_option linter.all false
set_option maxRecDepth 100000
set_option maxHeartbeats 2000000
namespace Pk
open PySem PySem.Spec L2 PyProof.Rows
section
variable {K : PySem.W.Frag} {C : Cs} {vs : List V} {H H' : Hp} {Q : VK} {E : XK} {n : Nat}
/-! ### numbers -/
def sp_is_integer (K : PySem.W.Frag) : Sp := fun vs H Q _ => ∃ i, vs = [.int i] ∧ Q (.bl true) H
def t_is_integer (K : PySem.W.Frag) : TS :=
  (tRet (tAndV (tCB (rIsi K) (tCons (tVar 0) (tCons (tC (.ty "int")) tNil))) (tNotV (tCB (rIsi K) (tCons (tVar 0) (tCons (tC (.ty "bool")) tNil))))))
theorem ln_is_integer (h : sp_is_integer K vs H Q E) : vs.length = 1 := by obtain ⟨_, rfl, _⟩ := h; rfl
theorem kit_ii {K : PySem.W.Frag} : PySem.W.kitOne K (.type "int") (.type "int") = some true := kit_ty (by decide +kernel)
theorem kit_ib {K : PySem.W.Frag} : PySem.W.kitOne K (.type "int") (.type "bool") = some false := kit_ty (by decide +kernel)
theorem kit_tt {K : PySem.W.Frag} : PySem.W.kitOne K (.type "tuple") (.type "tuple") = some true := kit_ty (by decide +kernel)
theorem kit_ss {K : PySem.W.Frag} : PySem.W.kitOne K (.type "str") (.type "str") = some true := kit_ty (by decide +kernel)
theorem rd_is_integer (h : sp_is_integer K vs H Q E) : t_is_integer K (EndsOf Q) (start [""] vs) H := by
  obtain ⟨i, rfl, k⟩ := h
  refine ⟨_, rfl, _, _, _, _, true, rfl, .ty _, .base (.int i), kit_ii, true, rfl, ?_⟩
  exact ⟨_, rfl, _, _, _, _, false, rfl, .ty _, .base (.int i), kit_ib, false, rfl, k⟩
def sp_is_number (K : PySem.W.Frag) : Sp := fun vs H Q _ => ∃ l i, vs = [.int l, .int i] ∧ Q (.bl (decide (l ≤ i))) H
def t_is_number (K : PySem.W.Frag) : TS :=
  (tRet (tAndV (tCall (sp_is_integer K) [] E0 (tCons (tVar 1) tNil)) (tOp (rGeI) (tVar 1) (tVar 0))))
theorem ln_is_number (h : sp_is_number K vs H Q E) : vs.length = 2 := by obtain ⟨_, _, rfl, _⟩ := h; rfl
theorem rd_is_number (h : sp_is_number K vs H Q E) : t_is_number K (EndsOf Q) (start ["", ""] vs) H := by
  obtain ⟨l, i, rfl, k⟩ := h
  exact ⟨_, rfl, i, rfl, true, rfl, _, rfl, _, rfl, _, _, rfl, rfl, k⟩
def sp_is_by (K : PySem.W.Frag) : Sp := fun vs H Q _ => ∃ i, vs = [.int i] ∧ Q (.bl (decide (1 ≤ i) && decide (i ≤ 6))) H
def t_is_by (K : PySem.W.Frag) : TS :=
  (tRet (tAndV (tCall (sp_is_number K) [] E0 (tCons (tC (.int 1)) (tCons (tVar 0) tNil))) (tOp (rLeU) (tVar 0) (tC (.int 6)))))
theorem ln_is_by (h : sp_is_by K vs H Q E) : vs.length = 1 := by obtain ⟨_, rfl, _⟩ := h; rfl
theorem rd_is_by (h : sp_is_by K vs H Q E) : t_is_by K (EndsOf Q) (start [""] vs) H := by
  obtain ⟨i, rfl, k⟩ := h
  refine ⟨_, rfl, 1, i, rfl, _, rfl, ?_⟩
  cases hb : decide ((1 : Int) ≤ i) with
  | false => rw [hb] at k; exact k
  | true => rw [hb] at k; exact ⟨_, rfl, .inl ⟨_, _, rfl, rfl, k⟩⟩
/-! ### trees -/
def Tr.word : Tr → Str
  | .at _ _ => "at"
  | .or _ _ => "or"
  | .and _ _ => "and"
def Tr.isAt : Tr → Bool
  | .at _ _ => true
  | _ => false
def sp_has_word (K : PySem.W.Frag) : Sp := fun vs H Q _ => ∃ (v : V) (T : Tr) (p : Addr) (ws : List Str), vs = [v, .ref p] ∧ TrAt K H v T ∧ SqT K H p (ws.map V.str) ∧ Q (.bl (inV (.str T.word) (ws.map V.str))) H
def t_has_word (K : PySem.W.Frag) : TS :=
  (tSeq (tIfS (tOr (tNot (tB (tCB (rIsi K) (tCons (tVar 0) (tCons (tC (.ty "tuple")) tNil))))) (tTest (tOp (rNeU K) (tCB (rLenU K) (tCons (tVar 0) tNil)) (tC (.int 3))))) (tRet (tC (.bl false))) tNext)
    (tRet (tAndV (tCB (rIsi K) (tCons (tOp (rIx K) (tVar 0) (tC (.int 0))) (tCons (tC (.ty "str")) tNil))) (tOp (rInU K) (tOp (rIx K) (tVar 0) (tC (.int 0))) (tVar 1)))))
theorem ln_has_word (h : sp_has_word K vs H Q E) : vs.length = 2 := by obtain ⟨_, _, _, _, rfl, _⟩ := h; rfl
theorem flat_strs (ws : List Str) : (ws.map V.str).all flatV = true := by
  induction ws with
  | nil => rfl
  | cons x r ih => exact ih
theorem sqt_ty {a : Addr} {xs : List V} (h : SqT K H a xs) : TyX K H (.ref a) (.type "tuple") := by
  rcases h with (h | ⟨o, h⟩) | ⟨o, its, n, h, c, _⟩
  · exact .base (.tup h)
  · exact .fTuple h
  · exact .kTuple h c
theorem rd_has_word (h : sp_has_word K vs H Q E) : t_has_word K (EndsOf Q) (start ["", ""] vs) H := by
  obtain ⟨v, T, p, ws, rfl, hT, hp, k⟩ := h
  obtain ⟨a, w, x, y, rfl, s, cw⟩ := hT.tuple
  have ew : w = T.word := by
    rcases cw with ⟨rfl, _, _, rfl, _⟩ | ⟨rfl, _, _, rfl, _⟩ | ⟨rfl, _, _, rfl, _⟩ <;> rfl
  subst ew
  refine ⟨_, rfl, _, _, _, _, true, rfl, .ty _, sqt_ty s, kit_tt, true, rfl, ?_⟩
  refine ⟨_, rfl, .inl ⟨_, 3, rfl, .inr ⟨_, s, rfl⟩, .inl ⟨rfl, _, rfl, ?_⟩⟩⟩
  refine ⟨_, rfl, .inr (.inl ⟨a, _, 0, _, rfl, rfl, s, rfl, ?_⟩)⟩
  refine ⟨_, _, _, _, true, rfl, .ty _, .base (.str _), kit_ss, true, rfl, ?_⟩
  refine ⟨_, rfl, .inr (.inl ⟨a, _, 0, _, rfl, rfl, s, rfl, ?_⟩)⟩
  exact ⟨_, rfl, .inl ⟨p, _, rfl, .inr hp, rfl, flat_strs ws, k⟩⟩
def sp_is_leaf (K : PySem.W.Frag) : Sp := fun vs H Q _ => ∃ v T, vs = [v] ∧ TrAt K H v T ∧ T.ok ∧ ∀ H', Same H H' → Q (.bl T.isAt) H'
def t_is_leaf (K : PySem.W.Frag) : TS :=
  (tRet (tAndV (tCall (sp_has_word K) [] E0 (tCons (tVar 0) (tCons (tTup (tCons (tC (.str "at")) tNil)) tNil))) (tAndV (tCall (sp_is_number K) [] E0 (tCons (tC (.int 1)) (tCons (tOp (rIx K) (tVar 0) (tC (.int 1))) tNil))) (tCall (sp_is_by K) [] E0 (tCons (tOp (rIx K) (tVar 0) (tC (.int 2))) tNil)))))
theorem ln_is_leaf (h : sp_is_leaf K vs H Q E) : vs.length = 1 := by obtain ⟨_, _, rfl, _⟩ := h; rfl
theorem two_fit : (1 : Nat) ≤ sizeLine ∧ (2 : Nat) ≤ sizeLine ∧ (3 : Nat) ≤ sizeLine ∧ (4 : Nat) ≤ sizeLine := by decide
theorem rd_is_leaf (h : sp_is_leaf K vs H Q E) : t_is_leaf K (EndsOf Q) (start [""] vs) H := by
  obtain ⟨v, T, rfl, hT, ok, k⟩ := h
  refine ⟨_, rfl, two_fit.1, fun p hp => ?_⟩
  have s := same_new (o := .tup [.str "at"]) hp
  have hT' := hT.mono (Tups.same s)
  refine ⟨v, T, p, ["at"], rfl, hT', SqT.of upd_same, _, rfl, ?_⟩
  obtain ⟨a, w, x, y, rfl, sq, cw⟩ := hT'.tuple
  rcases cw with ⟨rfl, t, q, rfl, rfl, rfl⟩ | ⟨rfl, A, B, rfl, _⟩ | ⟨rfl, A, B, rfl, _⟩
  · obtain ⟨o1, o2, o3, o4⟩ := ok
    refine iteT' (show inV (V.str "at") [V.str "at"] = true by decide +kernel) ?_
    refine ⟨_, rfl, .inr (.inl ⟨a, _, 1, _, rfl, rfl, sq, rfl, 1, t, rfl, _, rfl, ?_⟩)⟩
    rw [decide_eq_true o1]
    refine iteT' rfl ?_
    refine ⟨_, rfl, .inr (.inl ⟨a, _, 2, _, rfl, rfl, sq, rfl, q, rfl, ?_⟩)⟩
    rw [decide_eq_true o3, decide_eq_true o4]
    exact k _ s
  · refine iteF' (show inV (V.str "or") [V.str "at"] = false by decide +kernel) ?_
    exact k _ s
  · refine iteF' (show inV (V.str "and") [V.str "at"] = false by decide +kernel) ?_
    exact k _ s
/-! the stack of is_tree: values and trees -/
abbrev Ps := List (V × Tr)
def Ps.lvs (zs : Ps) : Nat := (zs.map fun z => z.2.lv).sum
def Ps.nds (zs : Ps) : Nat := (zs.map fun z => z.2.nd).sum
def Ps.At (K : PySem.W.Frag) (H : Hp) (zs : Ps) : Prop := ∀ z ∈ zs, TrAt K H z.1 z.2 ∧ z.2.ok
theorem Ps.At.mono {zs : Ps} (h : Ps.At K H zs) (s : Tups K H H') : Ps.At K H' zs := fun z hz => ⟨(h z hz).1.mono s, (h z hz).2⟩
theorem Ps.lvs_app (a b : Ps) : Ps.lvs (a ++ b) = Ps.lvs a + Ps.lvs b := by unfold Ps.lvs; rw [List.map_append, List.sum_append]
theorem Ps.nds_app (a b : Ps) : Ps.nds (a ++ b) = Ps.nds a + Ps.nds b := by unfold Ps.nds; rw [List.map_append, List.sum_append]
theorem Ps.len_le : ∀ zs : Ps, zs.length ≤ Ps.lvs zs
  | [] => Nat.le_refl _
  | z :: r => by
    have h1 := Ps.len_le r
    have h2 := z.2.lv_pos
    show r.length + 1 ≤ (z.2.lv :: (r.map fun z => z.2.lv)).sum
    rw [List.sum_cons]
    unfold Ps.lvs at h1
    omega
theorem nil_or_last {α : Type} (l : List α) : l = [] ∨ ∃ r x, l = r ++ [x] := by
  cases h : l.reverse with
  | nil => left; exact List.reverse_eq_nil_iff.mp h
  | cons x r => right; exact ⟨r.reverse, x, by rw [← List.reverse_cons, ← h, List.reverse_reverse]⟩
def sp_is_tree (K : PySem.W.Frag) : Sp := fun vs H Q _ => ∃ v T, vs = [v] ∧ TrAt K H v T ∧ T.ok ∧ T.lv ≤ 6 ∧ ∀ H', Same H H' → Q (.bl true) H'
def t_is_tree (K : PySem.W.Frag) : TS :=
  (tSeq (tAsg (tLst (tCons (tVar 0) tNil)) (gName 1))
    (tSeq (tAsg (tC (.int 0)) (gName 2))
    (tSeq (tWhile (tTest (tOp (rGtI) (tCB (rLenU K) (tCons (tVar 1) tNil)) (tC (.int 0)))) (tSeq (tAsg (tBM0 K "list" rPop (tVar 1)) (gName 3))
    (Evl.tCut (tIfS (tB (tCall (sp_is_leaf K) [] E0 (tCons (tVar 3) tNil))) (tAsg (tOp (rAddU K) (tVar 2) (tC (.int 1))) (gName 2)) (tIfS (tB (tCall (sp_has_word K) [] E0 (tCons (tVar 3) (tCons (tTup (tCons (tC (.str "or")) (tCons (tC (.str "and")) tNil))) tNil)))) (tSeq (tDrop (tBM K "list" rAppend (tVar 1) (tCons (tOp (rIx K) (tVar 3) (tC (.int 1))) tNil)))
    (tDrop (tBM K "list" rAppend (tVar 1) (tCons (tOp (rIx K) (tVar 3) (tC (.int 2))) tNil)))) (tRet (tC (.bl false)))))
    (tIfS (tTest (tOp (rGtI) (tOp (rAddU K) (tVar 2) (tCB (rLenU K) (tCons (tVar 1) tNil))) (tC (.int 6)))) (tRet (tC (.bl false))) tNext))))
    (tRet (tC (.bl true))))))
theorem ln_is_tree (h : sp_is_tree K vs H Q E) : vs.length = 1 := by obtain ⟨_, _, rfl, _⟩ := h; rfl
theorem rd_is_tree (h : sp_is_tree K vs H Q E) : t_is_tree K (EndsOf Q) (start ["", "", "", ""] vs) H := by
  obtain ⟨v, T, rfl, hT, ok, l6, k⟩ := h
  refine ⟨_, rfl, two_fit.1, fun w hw => ?_⟩
  have s0 := same_new (o := .lst [v]) hw
  refine ⟨fun m σ' H' => ∃ (zs : Ps) (lf : Nat) (pt : Option V), σ' = [some v, some (.ref w), some (.int lf), pt] ∧ H' w = some (.lst (zs.map (·.1))) ∧ Ps.At K H' zs ∧ lf + zs.lvs = T.lv ∧ Same H H' ∧ m = zs.nds,
    ⟨_, [(v, T)], 0, none, rfl, upd_same, fun z hz => ?_, ?_, s0, rfl⟩, ?_⟩
  · rw [List.mem_singleton.mp hz]
    exact ⟨hT.mono (Tups.same s0), ok⟩
  · show 0 + (T.lv + 0) = T.lv
    omega
  rintro m σ' H' ⟨zs, lf, pt, rfl, hwl, hz, hl, s, rfl⟩
  refine ⟨_, rfl, .inl ⟨_, _, rfl, .inl ⟨_, SqL.of hwl, rfl⟩, _, _, rfl, rfl, _, rfl, ?_⟩⟩
  rw [List.length_map]
  rcases nil_or_last zs with rfl | ⟨rs, ⟨u, S⟩, rfl⟩
  · refine iteF' (by decide) ?_
    exact k H' s
  refine iteT' (decide_eq_true (by rw [List.length_append, List.length_singleton]; omega)) ?_
  obtain ⟨hu, hok⟩ := hz (u, S) (List.mem_append_right _ (List.mem_singleton.mpr rfl))
  have hu : TrAt K H' u S := hu
  have hok : S.ok := hok
  have e1 : (rs ++ [(u, S)]).map (·.1) = rs.map (·.1) ++ [u] := by rw [List.map_append]; rfl
  rw [e1] at hwl
  refine ⟨fun σ2 H2 => ∃ (zs : Ps) (lf : Nat) (pt : Option V), σ2 = [some v, some (.ref w), some (.int lf), pt] ∧ H2 w = some (.lst (zs.map (·.1))) ∧ Ps.At K H2 zs ∧ lf + zs.lvs = T.lv ∧ Same H H2 ∧ zs.nds < Ps.nds (rs ++ [(u, S)]), fun σ2 H2 ⟨zs, lf, pt, a1, a2, a3, a4, a5, a6⟩ => ⟨_, a6, zs, lf, pt, a1, a2, a3, a4, a5, rfl⟩, ?_⟩
  -- part = waiting.pop()
  refine ⟨_, rfl, .inl ⟨rfl, _, SqL.of hwl⟩, w, _, u, rfl, rfl, hwl, ?_, ?_⟩
  · rw [List.length_append, List.length_singleton, Nat.add_sub_cancel, List.getElem?_append_right (Nat.le_refl _), Nat.sub_self]
    rfl
  rw [List.dropLast_concat]
  have tp : Tups K H' (upd H' w (.lst (rs.map (·.1)))) := Tups.put hwl (fun _ z => nomatch z) fun _ _ z => nomatch z
  have s1 : Same H (upd H' w (.lst (rs.map (·.1)))) := fun b o e => by rw [upd_ne (ne_of_none e hw)]; exact s b o e
  have hrs : Ps.At K (upd H' w (.lst (rs.map (·.1)))) rs := fun z q => ⟨(hz z (List.mem_append_left _ q)).1.mono tp, (hz z (List.mem_append_left _ q)).2⟩
  have hu1 := hu.mono tp
  have hw1 : (upd H' w (.lst (rs.map (·.1)))) w = some (.lst (rs.map (·.1))) := upd_same
  rw [Ps.lvs_app] at hl
  have hS : Ps.lvs [(u, S)] = S.lv := by show S.lv + 0 = S.lv; omega
  have hN : Ps.nds [(u, S)] = S.nd := by show S.nd + 0 = S.nd; omega
  rw [hS] at hl
  rw [Ps.nds_app, hN]
  generalize upd H' w (.lst (rs.map (·.1))) = G at s1 hrs hu1 hw1 ⊢
  -- is it a leaf, is it two trees
  refine ⟨fun σ2 H2 => ∃ (zs : Ps) (lf : Nat), σ2 = [some v, some (.ref w), some (.int lf), some u] ∧ H2 w = some (.lst (zs.map (·.1))) ∧ Ps.At K H2 zs ∧ lf + zs.lvs = T.lv ∧ Same H H2 ∧ Ps.nds zs < Ps.nds rs + S.nd, ?_, ?_⟩
  · refine ⟨_, rfl, u, S, rfl, hu1, hok, fun G1 g1 => ⟨_, rfl, ?_⟩⟩
    have hu2 := hu1.mono (Tups.same g1)
    obtain ⟨a, wd, x, y, rfl, sq, cw⟩ := hu2.tuple
    rcases cw with ⟨rfl, t, q, rfl, rfl, rfl⟩ | cw
    · refine iteT' rfl ?_
      refine ⟨_, rfl, .inl ⟨_, _, rfl, rfl, ?_⟩⟩
      exact ⟨rs, lf + 1, rfl, g1 _ _ hw1, hrs.mono (Tups.same g1), by have h1 : (Tr.at t q).lv = 1 := rfl; omega, s1.trans g1, by have h1 : (Tr.at t q).nd = 1 := rfl; omega⟩
    obtain ⟨A, B, hAB, hA, hB, oA, oB, eL, eN, hin⟩ : ∃ A B, S.isAt = false ∧ TrAt K G1 x A ∧ TrAt K G1 y B ∧ A.ok ∧ B.ok ∧ S.lv = A.lv + B.lv ∧ S.nd = A.nd + B.nd + 1 ∧ inV (.str S.word) (([("or" : Str), ("and" : Str)] : List Str).map V.str) = true := by
      rcases cw with ⟨rfl, A, B, rfl, hA, hB⟩ | ⟨rfl, A, B, rfl, hA, hB⟩
      · exact ⟨A, B, rfl, hA, hB, hok.1, hok.2, rfl, rfl, show inV (V.str "or") [V.str "or", V.str "and"] = true by decide +kernel⟩
      · exact ⟨A, B, rfl, hA, hB, hok.1, hok.2, rfl, rfl, show inV (V.str "and") [V.str "or", V.str "and"] = true by decide +kernel⟩
    refine iteF' hAB ?_
    refine ⟨_, rfl, two_fit.2.1, fun p hp => ?_⟩
    have g2 := same_new (o := .tup [.str "or", .str "and"]) hp
    refine ⟨_, S, p, ["or", "and"], rfl, hu2.mono (Tups.same g2), SqT.of upd_same, _, rfl, ?_⟩
    refine iteT' hin ?_
    have hw2 := g2 _ _ (g1 _ _ hw1)
    have sq2 := (Tups.same (K := K) g2) _ _ sq
    have hr2 := (hrs.mono (Tups.same g1)).mono (Tups.same g2)
    have hA2 := hA.mono (Tups.same g2)
    have hB2 := hB.mono (Tups.same g2)
    have s2 := s1.trans (g1.trans g2)
    generalize upd G1 p (.tup [.str "or", .str "and"]) = G2 at hw2 sq2 hr2 hA2 hB2 s2 ⊢
    have nw : H w = none := hw
    have lr : (rs.map (·.1)).length ≤ 6 := by
      rw [List.length_map]
      have z := Ps.len_le rs
      omega
    refine ⟨_, rfl, .inl ⟨rfl, _, SqL.of hw2⟩, _, rfl, .inr (.inl ⟨a, _, 1, _, rfl, rfl, sq2, rfl, ?_⟩)⟩
    refine ⟨w, _, x, rfl, rfl, hw2, small1000 (by omega), ?_⟩
    have t3 : Tups K G2 (upd G2 w (.lst (rs.map (·.1) ++ [x]))) := Tups.put hw2 (fun _ z => nomatch z) fun _ _ z => nomatch z
    refine ⟨_, rfl, .inl ⟨rfl, _, SqL.of upd_same⟩, _, rfl, .inr (.inl ⟨a, _, 2, _, rfl, rfl, t3 _ _ sq2, rfl, ?_⟩)⟩
    refine ⟨w, _, y, rfl, rfl, upd_same, small1000 (by rw [List.length_append, List.length_singleton]; omega), ?_⟩
    rw [upd_upd]
    have t4 : Tups K G2 (upd G2 w (.lst (rs.map (·.1) ++ [x] ++ [y]))) := Tups.put hw2 (fun _ z => nomatch z) fun _ _ z => nomatch z
    refine ⟨rs ++ [(x, A), (y, B)], lf, rfl, ?_, fun z q => ?_, ?_, fun b o e => ?_, ?_⟩
    · rw [upd_same, List.map_append, List.append_assoc]
      rfl
    · rcases List.mem_append.mp q with q | q
      · exact ⟨(hr2 z q).1.mono t4, (hr2 z q).2⟩
      · rcases List.mem_cons.mp q with rfl | q
        · exact ⟨hA2.mono t4, oA⟩
        · rw [List.mem_singleton.mp q]
          exact ⟨hB2.mono t4, oB⟩
    · rw [Ps.lvs_app]
      have h1 : Ps.lvs [(x, A), (y, B)] = A.lv + B.lv := by show A.lv + (B.lv + 0) = _; omega
      omega
    · rw [upd_ne (ne_of_none e hw)]
      exact s2 b o e
    · rw [Ps.nds_app]
      have h1 : Ps.nds [(x, A), (y, B)] = A.nd + B.nd := by show A.nd + (B.nd + 0) = _; omega
      omega
  rintro σ2 H2 ⟨zs2, lf2, rfl, b2, b3, b4, b5, b6⟩
  -- not too many
  refine ⟨_, rfl, _, rfl, .inl ⟨_, _, rfl, .inl ⟨_, SqL.of b2, rfl⟩, .inl ⟨_, _, rfl, rfl, _, _, rfl, rfl, _, rfl, ?_⟩⟩⟩
  have z := Ps.len_le zs2
  refine iteF' (decide_eq_false (by rw [List.length_map]; omega)) ?_
  exact ⟨zs2, lf2, _, rfl, b2, b3, b4, b5, b6⟩
end
end Pk
set_option Elab.async false
set_option linter.all false
set_option maxRecDepth 100000
set_option maxHeartbeats 2000000
namespace Pk
open PySem PySem.Spec L2 PyProof.Rows
section
variable {K : PySem.W.Frag} {C : Cs} {vs : List V} {H H' : Hp} {Q : VK} {E : XK} {n : Nat}
theorem g3 {i j l : Nat} {a : Addr} {σ : L2.St} {R : L2.St → Hp → Prop} {x y z : V} (s : SqT K H a [x, y, z]) (h : R (((σ.set i (some x)).set j (some y)).set l (some z)) H) :
    gTup K 3 (gCons (gName i) (gCons (gName j) (gCons (gName l) gNil))) (.ref a) σ H R := ⟨a, _, rfl, s, rfl, _, _, rfl, _, _, rfl, _, _, rfl, rfl, h⟩
theorem ifS {x y : Str} {A B : Prop} (h1 : x = y → A) (h2 : x ≠ y → B) : if decide (V.str x = V.str y) = true then A else B := by
  by_cases h : x = y
  · rw [if_pos (decide_eq_true (congrArg V.str h))]
    exact h1 h
  · rw [if_neg]
    · exact h2 h
    · intro z
      exact h (V.str.inj (of_decide_eq_true z))
theorem or_at : ("or" : Str) ≠ "at" := by decide +kernel
theorem and_at : ("and" : Str) ≠ "at" := by decide +kernel
theorem and_or : ("and" : Str) ≠ "or" := by decide +kernel
def sp_given (K : PySem.W.Frag) (n : Nat) : Sp := fun vs H Q _ => ∃ v T i, vs = [v, .int i] ∧ TrAt K H v T ∧ T.ok ∧ T.dp ≤ n ∧ Q (.int (T.give i)) H
def t_given (K : PySem.W.Frag) (n : Nat) : TS :=
  (tSeq (tAsg (tVar 0) (gTup K 3 (gCons (gName 2) (gCons (gName 3) (gCons (gName 4) gNil)))))
    (tSeq (tIfS (tTest (tOp (rEqU K) (tVar 2) (tC (.str "at")))) (tRet (tIf (tTest (tOp (rGeI) (tVar 1) (tVar 3))) (tOp (rSubI) (tVar 1) (tOp (rModI) (tVar 1) (tVar 4))) (tC (.int 0)))) tNext)
    (tSeq (tIfS (tTest (tOp (rEqU K) (tVar 2) (tC (.str "or")))) (tRet (tCB (rMax2) (tCons (tCall (sp_given K n) [] E0 (tCons (tVar 3) (tCons (tVar 1) tNil))) (tCons (tCall (sp_given K n) [] E0 (tCons (tVar 4) (tCons (tVar 1) tNil))) tNil)))) tNext)
    (tRet (tCB (rMin2) (tCons (tCall (sp_given K n) [] E0 (tCons (tVar 3) (tCons (tVar 1) tNil))) (tCons (tCall (sp_given K n) [] E0 (tCons (tVar 4) (tCons (tVar 1) tNil))) tNil)))))))
theorem no_given (h : sp_given K 0 vs H Q E) : False := by
  obtain ⟨_, T, _, _, _, _, h, _⟩ := h
  have := T.dp_pos
  omega
theorem ln_given (h : sp_given K n vs H Q E) : vs.length = 2 := by obtain ⟨_, _, _, rfl, _⟩ := h; rfl
theorem rd_given (h : sp_given K (n + 1) vs H Q E) : t_given K n (EndsOf Q) (start ["", "", "", "", ""] vs) H := by
  obtain ⟨v, T, i, rfl, hT, ok, hd, k⟩ := h
  obtain ⟨a, w, x, y, rfl, s, cw⟩ := hT.tuple
  refine ⟨_, rfl, g3 s ?_⟩
  refine ⟨_, rfl, .inl ⟨rfl, _, rfl, ?_⟩⟩
  rcases cw with ⟨rfl, t, q, rfl, rfl, rfl⟩ | ⟨rfl, A, B, rfl, hA, hB⟩ | ⟨rfl, A, B, rfl, hA, hB⟩
  · refine ifS (fun _ => ?_) (fun z => absurd rfl z)
    obtain ⟨o1, o2, o3, o4⟩ := ok
    have e : (Tr.at t q).give i = if t ≤ i then i - i % q else 0 := rfl
    rw [e] at k
    refine ⟨_, rfl, _, rfl, _, _, rfl, rfl, _, rfl, ?_⟩
    refine ifD (fun c => ?_) (fun c => ?_)
    · rw [if_pos c] at k
      exact ⟨_, rfl, _, rfl, _, rfl, _, _, rfl, rfl, (by show (0 : Int) < q; omega), _, _, rfl, rfl, k⟩
    · rw [if_neg c] at k
      exact k
  · refine ifS (fun z => absurd z or_at) (fun _ => ?_)
    refine ⟨_, rfl, .inl ⟨rfl, _, rfl, ?_⟩⟩
    refine ifS (fun _ => ?_) (fun z => absurd rfl z)
    have hd' : max A.dp B.dp + 1 ≤ n + 1 := hd
    exact ⟨_, rfl, _, rfl, x, A, i, rfl, hA, ok.1, by omega, _, rfl, _, rfl, y, B, i, rfl, hB, ok.2, by omega, _, _, rfl, k⟩
  · refine ifS (fun z => absurd z and_at) (fun _ => ?_)
    refine ⟨_, rfl, .inl ⟨rfl, _, rfl, ?_⟩⟩
    refine ifS (fun z => absurd z and_or) (fun _ => ?_)
    have hd' : max A.dp B.dp + 1 ≤ n + 1 := hd
    exact ⟨_, rfl, _, rfl, x, A, i, rfl, hA, ok.1, by omega, _, rfl, _, rfl, y, B, i, rfl, hB, ok.2, by omega, _, _, rfl, k⟩
/-- the leaves of a tree: from where on, multiples of what -/
def Tr.lvs : Tr → List (Int × Int)
  | .at t q => [(t, q)]
  | .or a b => a.lvs ++ b.lvs
  | .and a b => a.lvs ++ b.lvs
theorem Tr.lvs_len : ∀ T : Tr, T.lvs.length = T.lv
  | .at _ _ => rfl
  | .or a b => by show (a.lvs ++ b.lvs).length = _; rw [List.length_append, a.lvs_len, b.lvs_len]; rfl
  | .and a b => by show (a.lvs ++ b.lvs).length = _; rw [List.length_append, a.lvs_len, b.lvs_len]; rfl
theorem Tr.lvs_starts : ∀ T : Tr, T.lvs.map Prod.fst = T.starts
  | .at _ _ => rfl
  | .or a b => by show (a.lvs ++ b.lvs).map _ = _; rw [List.map_append, a.lvs_starts, b.lvs_starts]; rfl
  | .and a b => by show (a.lvs ++ b.lvs).map _ = _; rw [List.map_append, a.lvs_starts, b.lvs_starts]; rfl
def LeafAt (K : PySem.W.Frag) (H : Hp) (v : V) (l : Int × Int) : Prop := ∃ a, v = .ref a ∧ SqT K H a [.str "at", .int l.1, .int l.2]
def LvsAt (K : PySem.W.Frag) (H : Hp) (xs : List V) (ls : List (Int × Int)) : Prop := xs.length = ls.length ∧ ∀ (i : Nat) x l, xs[i]? = some x → ls[i]? = some l → LeafAt K H x l
theorem LvsAt.mono {xs : List V} {ls : List (Int × Int)} (h : LvsAt K H xs ls) (s : Tups K H H') : LvsAt K H' xs ls := ⟨h.1, fun i x l e1 e2 => by
  obtain ⟨a, e, q⟩ := h.2 i x l e1 e2
  exact ⟨a, e, s _ _ q⟩⟩
theorem LvsAt.app {xs ys : List V} {ls ms : List (Int × Int)} (h : LvsAt K H xs ls) (h2 : LvsAt K H ys ms) : LvsAt K H (xs ++ ys) (ls ++ ms) := by
  refine ⟨by rw [List.length_append, List.length_append, h.1, h2.1], fun i x l e1 e2 => ?_⟩
  by_cases c : i < xs.length
  · rw [List.getElem?_append_left c] at e1
    rw [List.getElem?_append_left (by rw [← h.1]; exact c)] at e2
    exact h.2 i x l e1 e2
  · rw [List.getElem?_append_right (by omega)] at e1
    rw [List.getElem?_append_right (by rw [← h.1]; omega), ← h.1] at e2
    exact h2.2 _ x l e1 e2
def sp_leaves_of (K : PySem.W.Frag) (n : Nat) : Sp := fun vs H Q _ => ∃ v T, vs = [v] ∧ TrAt K H v T ∧ T.dp ≤ n ∧ T.lv ≤ 6 ∧ ∀ p H' xs, H p = none → Same H H' → H' p = some (.lst xs) → LvsAt K H' xs T.lvs → Q (.ref p) H'
def t_leaves_of (K : PySem.W.Frag) (n : Nat) : TS :=
  (tSeq (tAsg (tVar 0) (gTup K 3 (gCons (gName 1) (gCons (gName 2) (gCons (gName 3) gNil)))))
    (tSeq (tIfS (tTest (tOp (rEqU K) (tVar 1) (tC (.str "at")))) (tRet (tLst (tCons (tVar 0) tNil))) tNext)
    (tRet (tOp (rAddU K) (tCall (sp_leaves_of K n) [] E0 (tCons (tVar 2) tNil)) (tCall (sp_leaves_of K n) [] E0 (tCons (tVar 3) tNil))))))
theorem no_leaves_of (h : sp_leaves_of K 0 vs H Q E) : False := by
  obtain ⟨_, T, _, _, h, _⟩ := h
  have := T.dp_pos
  omega
theorem ln_leaves_of (h : sp_leaves_of K n vs H Q E) : vs.length = 1 := by obtain ⟨_, _, rfl, _⟩ := h; rfl
theorem rd_leaves_of (h : sp_leaves_of K (n + 1) vs H Q E) : t_leaves_of K n (EndsOf Q) (start ["", "", "", ""] vs) H := by
  obtain ⟨v, T, rfl, hT, hd, hl, k⟩ := h
  obtain ⟨a, w, x, y, rfl, s, cw⟩ := hT.tuple
  refine ⟨_, rfl, g3 s ?_⟩
  refine ⟨_, rfl, .inl ⟨rfl, _, rfl, ?_⟩⟩
  have two : ∀ {A B : Tr}, T.lvs = A.lvs ++ B.lvs → T.lv = A.lv + B.lv → max A.dp B.dp + 1 ≤ n + 1 → TrAt K H x A → TrAt K H y B →
      tRet (tOp (rAddU K) (tCall (sp_leaves_of K n) [] E0 (tCons (tVar 2) tNil)) (tCall (sp_leaves_of K n) [] E0 (tCons (tVar 3) tNil))) (EndsOf Q) [some (.ref a), some (.str w), some x, some y] H := by
    intro A B e1 e2 hd' hA hB
    refine ⟨_, rfl, x, A, rfl, hA, by omega, by omega, fun p H1 xs hp s1 h1 l1 => ?_⟩
    refine ⟨_, rfl, y, B, rfl, hB.mono (Tups.same s1), by omega, by omega, fun p2 H2 ys hp2 s2 h2 l2 => ?_⟩
    refine .inr (.inr (.inl ⟨p, p2, _, _, rfl, rfl, s2 _ _ h1, h2, ?_, fun r hr => ?_⟩))
    · rw [l1.1, l2.1, A.lvs_len, B.lvs_len]
      exact Nat.le_of_lt (small1000 (by omega))
    · refine k r _ _ ((s1.trans s2).free hr) ((s1.trans s2).trans (same_new hr)) upd_same ?_
      rw [e1]
      exact ((l1.mono (Tups.same s2)).app l2).mono (Tups.same (same_new hr))
  rcases cw with ⟨rfl, t, q, rfl, rfl, rfl⟩ | ⟨rfl, A, B, rfl, hA, hB⟩ | ⟨rfl, A, B, rfl, hA, hB⟩
  · refine ifS (fun _ => ?_) (fun z => absurd rfl z)
    refine ⟨_, rfl, two_fit.1, fun p hp => k p _ _ hp (same_new hp) upd_same ⟨rfl, fun i x l e1 e2 => ?_⟩⟩
    match i, e1, e2 with
    | 0, e1, e2 =>
      cases e1
      cases e2
      exact ⟨a, rfl, Tups.same (same_new hp) _ _ s⟩
    | i + 1, e1, _ => exact nomatch e1
  · refine ifS (fun z => absurd z or_at) (fun _ => ?_)
    exact two rfl rfl hd hA hB
  · refine ifS (fun z => absurd z and_at) (fun _ => ?_)
    exact two rfl rfl hd hA hB
def sp_starts_of (K : PySem.W.Frag) : Sp := fun vs H Q _ => ∃ v T, vs = [v] ∧ TrAt K H v T ∧ T.dp ≤ 7 ∧ T.lv ≤ 6 ∧ ∀ p H', H p = none → Same H H' → H' p = some (.lst (T.starts.map V.int)) → Q (.ref p) H'
def t_starts_of (K : PySem.W.Frag) : TS :=
  (tRet (tLc (iList K (tCall (sp_leaves_of K 7) [] E0 (tCons (tVar 0) tNil))) (gTup K 3 (gCons (gName 1) (gCons (gName 2) (gCons (gName 1) gNil)))) tYes (tVar 2) [1, 2]))
theorem ln_starts_of (h : sp_starts_of K vs H Q E) : vs.length = 1 := by obtain ⟨_, _, rfl, _⟩ := h; rfl
theorem rd_starts_of (h : sp_starts_of K vs H Q E) : t_starts_of K (EndsOf Q) (start ["", "", ""] vs) H := by
  obtain ⟨v, T, rfl, hT, hd, hl, k⟩ := h
  refine ⟨_, rfl, v, T, rfl, hT, hd, hl, fun p G xs hp s1 h1 l1 => ?_⟩
  refine ⟨p, rfl, ⟨_, SqL.of h1⟩, fun D hD => ?_⟩
  refine lc_list (K := K) (a := p) (xs := xs) (fun i F => Same G F ∧ F D = some (.lst ((T.starts.take i).map V.int))) ⟨same_new hD, upd_same⟩ (fun i F _ s => s.1.seq (SqL.of h1)) ?_ ?_
  · rintro i x F hx ⟨s, hz⟩
    obtain ⟨lt, ex⟩ := List.getElem?_eq_some_iff.mp hx
    have lt2 : i < T.lvs.length := by rw [← l1.1]; exact lt
    obtain ⟨a, rfl, sa⟩ := l1.2 i x T.lvs[i] hx (List.getElem?_eq_getElem lt2)
    have lt3 : i < T.starts.length := by rw [T.starts_len, ← T.lvs_len]; exact lt2
    refine g3 (Tups.same s _ _ sa) ⟨rfl, ?_⟩
    refine ⟨_, rfl, _, hz, small1000 ?_, fun c o q => ?_, ?_⟩
    · rw [List.length_map, List.length_take]
      have := T.starts_len
      omega
    · rw [upd_ne (ne_of_none q hD)]
      exact s c o q
    · rw [upd_same, List.take_succ_eq_append_getElem lt3, List.map_append]
      have e : T.starts[i] = (T.lvs[i]).1 := by
        have z : (T.lvs.map Prod.fst)[i]? = T.starts[i]? := by rw [T.lvs_starts]
        rw [List.getElem?_map, List.getElem?_eq_getElem lt2, List.getElem?_eq_getElem lt3] at z
        exact (Option.some.inj z).symm
      rw [e]
      rfl
  · rintro F ⟨s, hz⟩
    rw [l1.1, T.lvs_len, ← T.starts_len, List.take_length] at hz
    exact k D F (s1.free hD) (s1.trans s) hz
/-! ### Rules -/
structure FxRule (K : PySem.W.Frag) (C : Cs) : Prop where
  cl : Cls K C.Rule
  no : NoAttr K C.Rule "_tree"
  ic : C8.InsC K C.Rule
theorem lk_tree {f : Str} {u : V} (h : (f == ("_tree" : Str)) = false) : List.lookup f [(("_tree" : Str), u)] = none := by simp [List.lookup, h]
def RuleAt (K : PySem.W.Frag) (C : Cs) (H : Hp) (v : V) (T : Tr) : Prop := ∃ a dx u, v = .ref a ∧ H a = some (.ins C.Rule dx [("_tree", u)]) ∧ TrAt K H u T ∧ T.ok ∧ T.lv ≤ 6 ∧ FxRule K C
theorem RuleAt.mono {v : V} {T : Tr} (h : RuleAt K C H v T) (s : Tups K H H') (k : ∀ a dx fs, H a = some (.ins C.Rule dx fs) → H' a = some (.ins C.Rule dx fs)) : RuleAt K C H' v T := by
  obtain ⟨a, dx, u, e, h1, h2, r⟩ := h
  exact ⟨a, dx, u, e, k _ _ _ h1, h2.mono s, r⟩
theorem RuleAt.same {v : V} {T : Tr} (h : RuleAt K C H v T) (s : Same H H') : RuleAt K C H' v T := h.mono (Tups.same s) fun _ _ _ e => s _ _ e
theorem RuleAt.kp {v : V} {T : Tr} {b : Addr} {ys : List V} (h : RuleAt K C H v T) (k : Kp b H H') (hb : H b = some (.lst ys)) : RuleAt K C H' v T := h.mono (Tups.kp k hb) fun _ _ _ e => k _ _ e (ne_of e hb fun z => nomatch z)
def sp_Rule___init__ (K : PySem.W.Frag) (C : Cs) : Sp := fun vs H Q _ => ∃ p dx u T, vs = [.ref p, u] ∧ H p = some (.ins C.Rule dx []) ∧ TrAt K H u T ∧ T.ok ∧ T.lv ≤ 6 ∧ FxRule K C ∧
  ∀ H', H' p = some (.ins C.Rule dx [("_tree", u)]) → (∀ b o, H b = some o → b ≠ p → H' b = some o) → Q .non H'
def t_Rule___init__ (K : PySem.W.Frag) : TS :=
  (tSeq (tIfS (tNot (tB (tCall (sp_is_tree K) [] E0 (tCons (tVar 1) tNil)))) tNever tNext)
    (sFld K (tVar 0) (tVar 1) "_tree"))
theorem ln_Rule___init__ (h : sp_Rule___init__ K C vs H Q E) : vs.length = 2 := by obtain ⟨_, _, _, _, rfl, _⟩ := h; rfl
theorem rd_Rule___init__ (h : sp_Rule___init__ K C vs H Q E) : t_Rule___init__ K (EndsOf Q) (start ["", ""] vs) H := by
  obtain ⟨p, dx, u, T, rfl, hp, hT, ok, l6, fx, k⟩ := h
  refine ⟨_, rfl, u, T, rfl, hT, ok, l6, fun H1 s => ⟨true, rfl, ?_⟩⟩
  refine ⟨_, rfl, _, rfl, p, _, dx, _, rfl, s _ _ hp, fx.cl, fx.no, by show 0 < 1000; decide, ?_⟩
  refine k _ upd_same fun b o e n => ?_
  rw [upd_ne n]
  exact s b o e
/-- what Rule(tree) makes -/
theorem make_rule {t : TA} {σ : L2.St} {u : V} {T : Tr} {G : Hp} (fx : FxRule K C) (ok : T.ok) (l6 : T.lv ≤ 6) (hT : TrAt K G u T) (k : ∀ x H', G x = none → Same G H' → RuleAt K C H' (.ref x) T → Q (.ref x) H') :
    ∀ x dx, G x = none → G dx = none → dx ≠ x → sp_Rule___init__ K C (.ref x :: ([u] ++ [])) (upd (upd G dx (.own x)) x (.ins C.Rule dx [])) (fun v H2 => v = .non ∧ Q (.ref x) H2) E := by
  intro x dx hx hd ne
  have s : Same G (upd (upd G dx (.own x)) x (.ins C.Rule dx [])) := fun b o e => by
    rw [upd_ne (ne_of_none e hx), upd_ne (ne_of_none e hd)]
    exact e
  refine ⟨x, dx, u, T, rfl, upd_same, hT.mono (Tups.same s), ok, l6, fx, fun H' h1 h2 => ⟨rfl, ?_⟩⟩
  have s2 : Same G H' := fun b o e => h2 b o (s b o e) (ne_of_none e hx)
  exact k x H' hx s2 ⟨x, dx, u, rfl, h1, hT.mono (Tups.same s2), ok, l6, fx⟩
theorem Tr.dp6 {T : Tr} (h : T.lv ≤ 6) : T.dp ≤ 7 := by have := T.dp_le; omega
def sp_Rule___call__ (K : PySem.W.Frag) (C : Cs) : Sp := fun vs H Q _ => ∃ v T i, vs = [v, .int i] ∧ RuleAt K C H v T ∧ Q (.int (T.give i)) H
def t_Rule___call__ (K : PySem.W.Frag) : TS :=
  (tRet (tCall (sp_given K 7) [] E0 (tCons (tFld K (tVar 0) "_tree") (tCons (tVar 1) tNil))))
theorem ln_Rule___call__ (h : sp_Rule___call__ K C vs H Q E) : vs.length = 2 := by obtain ⟨_, _, _, rfl, _⟩ := h; rfl
theorem rd_Rule___call__ (h : sp_Rule___call__ K C vs H Q E) : t_Rule___call__ K (EndsOf Q) (start ["", ""] vs) H := by
  obtain ⟨v, T, i, rfl, ⟨a, dx, u, rfl, ha, hT, ok, l6, fx⟩, k⟩ := h
  exact ⟨_, rfl, a, _, dx, _, u, rfl, ha, fx.cl, fx.no, rfl, _, rfl, u, T, i, rfl, hT, ok, Tr.dp6 l6, k⟩
def sp_Rule_rest (K : PySem.W.Frag) (C : Cs) : Sp := fun vs H Q _ => ∃ v T i, vs = [v, .int i] ∧ RuleAt K C H v T ∧ Q (.int (i - T.give i)) H
def t_Rule_rest (K : PySem.W.Frag) : TS :=
  (tRet (tOp (rSubI) (tVar 1) (tCall (sp_given K 7) [] E0 (tCons (tFld K (tVar 0) "_tree") (tCons (tVar 1) tNil)))))
theorem ln_Rule_rest (h : sp_Rule_rest K C vs H Q E) : vs.length = 2 := by obtain ⟨_, _, _, rfl, _⟩ := h; rfl
theorem rd_Rule_rest (h : sp_Rule_rest K C vs H Q E) : t_Rule_rest K (EndsOf Q) (start ["", ""] vs) H := by
  obtain ⟨v, T, i, rfl, ⟨a, dx, u, rfl, ha, hT, ok, l6, fx⟩, k⟩ := h
  exact ⟨_, rfl, _, rfl, a, _, dx, _, u, rfl, ha, fx.cl, fx.no, rfl, _, rfl, u, T, i, rfl, hT, ok, Tr.dp6 l6, _, _, rfl, rfl, k⟩
def sp_Rule_tree (K : PySem.W.Frag) (C : Cs) : Sp := fun vs H Q _ => ∃ v T, vs = [v] ∧ RuleAt K C H v T ∧ ∀ u, TrAt K H u T → Q u H
def t_Rule_tree (K : PySem.W.Frag) : TS :=
  (tRet (tFld K (tVar 0) "_tree"))
theorem ln_Rule_tree (h : sp_Rule_tree K C vs H Q E) : vs.length = 1 := by obtain ⟨_, _, rfl, _⟩ := h; rfl
theorem rd_Rule_tree (h : sp_Rule_tree K C vs H Q E) : t_Rule_tree K (EndsOf Q) (start [""] vs) H := by
  obtain ⟨v, T, rfl, ⟨a, dx, u, rfl, ha, hT, ok, l6, fx⟩, k⟩ := h
  exact ⟨_, rfl, a, _, dx, _, u, rfl, ha, fx.cl, fx.no, rfl, k u hT⟩
def Tr.join (w : Str) (A B : Tr) : Tr := if w = "or" then .or A B else .and A B
theorem Tr.join_lv (w : Str) (A B : Tr) : (Tr.join w A B).lv = A.lv + B.lv := by unfold Tr.join; split <;> rfl
theorem Tr.join_ok {w : Str} {A B : Tr} (a : A.ok) (b : B.ok) : (Tr.join w A B).ok := by unfold Tr.join; split <;> exact ⟨a, b⟩
def sp_joined (K : PySem.W.Frag) (C : Cs) : Sp := fun vs H Q _ => ∃ (w : Str) (u v : V) (A B : Tr), vs = [.str w, u, v] ∧ (w = "or" ∨ w = "and") ∧ TrAt K H u A ∧ TrAt K H v B ∧ A.ok ∧ B.ok ∧ A.lv + B.lv ≤ 6 ∧ FxRule K C ∧
  ∀ x H', H x = none → Same H H' → RuleAt K C H' (.ref x) (Tr.join w A B) → Q (.ref x) H'
def t_joined (K : PySem.W.Frag) (C : Cs) : TS :=
  (tSeq (tIfS (tTest (tOp (rGtI) (tOp (rAddU K) (tCB (rLenU K) (tCons (tCall (sp_starts_of K) [] E0 (tCons (tVar 1) tNil)) tNil)) (tCB (rLenU K) (tCons (tCall (sp_starts_of K) [] E0 (tCons (tVar 2) tNil)) tNil))) (tC (.int 6)))) tNever tNext)
    (tRet (tMake C.Rule (sp_Rule___init__ K C) [] E0 (tCons (tTup (tCons (tVar 0) (tCons (tVar 1) (tCons (tVar 2) tNil)))) tNil))))
theorem ln_joined (h : sp_joined K C vs H Q E) : vs.length = 3 := by obtain ⟨_, _, _, _, _, rfl, _⟩ := h; rfl
theorem rd_joined (h : sp_joined K C vs H Q E) : t_joined K C (EndsOf Q) (start ["", "", ""] vs) H := by
  obtain ⟨w, u, v, A, B, rfl, hw, hA, hB, oA, oB, l6, fx, k⟩ := h
  refine ⟨_, rfl, u, A, rfl, hA, Tr.dp6 (by omega), by omega, fun p H1 hp s1 h1 => ?_⟩
  refine .inl ⟨_, _, rfl, .inl ⟨_, SqL.of h1, rfl⟩, ?_⟩
  refine ⟨_, rfl, v, B, rfl, hB.mono (Tups.same s1), Tr.dp6 (by omega), by omega, fun p2 H2 hp2 s2 h2 => ?_⟩
  refine .inl ⟨_, _, rfl, .inl ⟨_, SqL.of h2, rfl⟩, .inl ⟨_, _, rfl, rfl, _, _, rfl, rfl, _, rfl, ?_⟩⟩
  rw [List.length_map, List.length_map, A.starts_len, B.starts_len]
  refine iteF' (decide_eq_false (by omega)) ?_
  have s := s1.trans s2
  refine ⟨_, rfl, _, rfl, _, rfl, two_fit.2.2.1, fun q hq => ?_⟩
  have s3 := same_new (o := .tup [.str w, u, v]) hq
  have hT : TrAt K (upd H2 q (.tup [.str w, u, v])) (.ref q) (Tr.join w A B) := by
    unfold Tr.join
    rcases hw with rfl | rfl
    · rw [if_pos rfl]
      exact ⟨q, u, v, rfl, SqT.of upd_same, hA.mono (Tups.same (s.trans s3)), hB.mono (Tups.same (s.trans s3))⟩
    · rw [if_neg and_or]
      exact ⟨q, u, v, rfl, SqT.of upd_same, hA.mono (Tups.same (s.trans s3)), hB.mono (Tups.same (s.trans s3))⟩
  exact make_rule (t := tNil) (σ := []) fx (Tr.join_ok oA oB) (by rw [Tr.join_lv]; exact l6) hT fun x H' hx s4 r => k x H' ((s.trans s3).free hx) ((s.trans s3).trans s4) r
def sp_Rule___or__ (K : PySem.W.Frag) (C : Cs) : Sp := fun vs H Q _ => ∃ u v A B, vs = [u, v] ∧ RuleAt K C H u A ∧ RuleAt K C H v B ∧ A.lv + B.lv ≤ 6 ∧ ∀ x H', H x = none → Same H H' → RuleAt K C H' (.ref x) (.or A B) → Q (.ref x) H'
def sp_Rule___and__ (K : PySem.W.Frag) (C : Cs) : Sp := fun vs H Q _ => ∃ u v A B, vs = [u, v] ∧ RuleAt K C H u A ∧ RuleAt K C H v B ∧ A.lv + B.lv ≤ 6 ∧ ∀ x H', H x = none → Same H H' → RuleAt K C H' (.ref x) (.and A B) → Q (.ref x) H'
def t_Rule___or__ (K : PySem.W.Frag) (C : Cs) : TS :=
  (tRet (tCall (sp_joined K C) [] E0 (tCons (tC (.str "or")) (tCons (tFld K (tVar 0) "_tree") (tCons (tFld K (tVar 1) "_tree") tNil)))))
def t_Rule___and__ (K : PySem.W.Frag) (C : Cs) : TS :=
  (tRet (tCall (sp_joined K C) [] E0 (tCons (tC (.str "and")) (tCons (tFld K (tVar 0) "_tree") (tCons (tFld K (tVar 1) "_tree") tNil)))))
theorem ln_Rule___or__ (h : sp_Rule___or__ K C vs H Q E) : vs.length = 2 := by obtain ⟨_, _, _, _, rfl, _⟩ := h; rfl
theorem ln_Rule___and__ (h : sp_Rule___and__ K C vs H Q E) : vs.length = 2 := by obtain ⟨_, _, _, _, rfl, _⟩ := h; rfl
theorem rd_Rule___or__ (h : sp_Rule___or__ K C vs H Q E) : t_Rule___or__ K C (EndsOf Q) (start ["", ""] vs) H := by
  obtain ⟨u, v, A, B, rfl, ⟨a, dx, x, rfl, ha, hA, oA, _, fx⟩, ⟨b, dy, y, rfl, hb, hB, oB, _, _⟩, l6, k⟩ := h
  refine ⟨_, rfl, a, _, dx, _, x, rfl, ha, fx.cl, fx.no, rfl, _, rfl, b, _, dy, _, y, rfl, hb, fx.cl, fx.no, rfl, ?_⟩
  exact ⟨"or", x, y, A, B, rfl, .inl rfl, hA, hB, oA, oB, l6, fx, fun r H' hr s q => k r H' hr s (by unfold Tr.join at q; rw [if_pos rfl] at q; exact q)⟩
theorem rd_Rule___and__ (h : sp_Rule___and__ K C vs H Q E) : t_Rule___and__ K C (EndsOf Q) (start ["", ""] vs) H := by
  obtain ⟨u, v, A, B, rfl, ⟨a, dx, x, rfl, ha, hA, oA, _, fx⟩, ⟨b, dy, y, rfl, hb, hB, oB, _, _⟩, l6, k⟩ := h
  refine ⟨_, rfl, a, _, dx, _, x, rfl, ha, fx.cl, fx.no, rfl, _, rfl, b, _, dy, _, y, rfl, hb, fx.cl, fx.no, rfl, ?_⟩
  exact ⟨"and", x, y, A, B, rfl, .inr rfl, hA, hB, oA, oB, l6, fx, fun r H' hr s q => k r H' hr s (by unfold Tr.join at q; rw [if_neg and_or] at q; exact q)⟩
def sp_at_least (K : PySem.W.Frag) (C : Cs) : Sp := fun vs H Q _ => ∃ t q, vs = [.int t, .int q] ∧ (Tr.at t q).ok ∧ FxRule K C ∧ ∀ x H', H x = none → Same H H' → RuleAt K C H' (.ref x) (.at t q) → Q (.ref x) H'
def t_at_least (K : PySem.W.Frag) (C : Cs) : TS :=
  (tSeq (tIfS (tNot (tB (tCall (sp_is_number K) [] E0 (tCons (tC (.int 1)) (tCons (tVar 0) tNil))))) tNever tNext)
    (tSeq (tIfS (tNot (tB (tCall (sp_is_by K) [] E0 (tCons (tVar 1) tNil)))) tNever tNext)
    (tRet (tMake C.Rule (sp_Rule___init__ K C) [] E0 (tCons (tTup (tCons (tC (.str "at")) (tCons (tVar 0) (tCons (tVar 1) tNil)))) tNil)))))
theorem ln_at_least (h : sp_at_least K C vs H Q E) : vs.length = 2 := by obtain ⟨_, _, rfl, _⟩ := h; rfl
theorem rd_at_least (h : sp_at_least K C vs H Q E) : t_at_least K C (EndsOf Q) (start ["", ""] vs) H := by
  obtain ⟨t, q, rfl, ok, fx, k⟩ := h
  obtain ⟨o1, o2, o3, o4⟩ := id ok
  refine ⟨_, rfl, 1, t, rfl, _, rfl, ?_⟩
  rw [decide_eq_true o1]
  refine ⟨_, rfl, q, rfl, _, rfl, ?_⟩
  rw [decide_eq_true o3, decide_eq_true o4]
  refine ⟨_, rfl, _, rfl, two_fit.2.2.1, fun p hp => ?_⟩
  have s := same_new (o := .tup [.str "at", .int t, .int q]) hp
  exact make_rule (t := tNil) (σ := []) fx ok (by show 1 ≤ 6; decide) ⟨p, rfl, SqT.of upd_same⟩ fun x H' hx s2 r => k x H' (s.free hx) (s.trans s2) r
end
end Pk
set_option Elab.async false
set_option linter.all false
set_option maxRecDepth 100000
set_option maxHeartbeats 2000000
namespace Pk
open PySem PySem.Spec L2 PyProof.Rows
section
variable {K : PySem.W.Frag} {C : Cs} {vs : List V} {H H' : Hp} {Q : VK} {E : XK} {n : Nat}
def sp_law_alike (K : PySem.W.Frag) : Sp := fun vs H Q _ => ∃ x y d, vs = [x, y] ∧ Dp K H x d ∧ Dp K H y d ∧ Good d ∧ Q (.bl true) H
def t_law_alike (K : PySem.W.Frag) : TS :=
  (tRet (tAndV (tOp (rEqU K) (tVar 0) (tVar 1)) (tOp (rEqU K) (tCB (rRepr K) (tCons (tVar 0) tNil)) (tCB (rRepr K) (tCons (tVar 1) tNil)))))
theorem ln_law_alike (h : sp_law_alike K vs H Q E) : vs.length = 2 := by obtain ⟨_, _, _, rfl, _⟩ := h; rfl
theorem rd_law_alike (h : sp_law_alike K vs H Q E) : t_law_alike K (EndsOf Q) (start ["", ""] vs) H := by
  obtain ⟨x, y, d, rfl, hx, hy, g, k⟩ := h
  refine ⟨_, rfl, _, rfl, .inr ⟨d, d, hx, hy, g.sh, g.sh, _, rfl, ?_⟩⟩
  rw [g.same]
  refine ⟨_, rfl, x, d, rfl, hx, g, _, rfl, y, d, rfl, hy, g, .inl ⟨rfl, ?_⟩⟩
  rw [decide_eq_true rfl]
  exact k
theorem pick2 {x y : V} {v : Int} (h0 : 0 ≤ v) (h1 : v < 2) : ∃ z, atI [x, y] v = some z ∧ ((v = 0 ∧ z = x) ∨ (v = 1 ∧ z = y)) := by
  rcases (by omega : v = 0 ∨ v = 1) with rfl | rfl
  · exact ⟨x, rfl, .inl ⟨rfl, rfl⟩⟩
  · exact ⟨y, rfl, .inr ⟨rfl, rfl⟩⟩
def sp_law_draw_size (K : PySem.W.Frag) : Sp := fun vs H Q _ => ∃ b l top sc, vs = [.ref b, .int top, .int sc] ∧ Bag H b l ∧ 1 ≤ top ∧ top ≤ 1000 ∧ 1 ≤ sc ∧ ∀ v H', 1 ≤ v → v ≤ top * sc → Bag H' b l → Kp b H H' → Q (.int v) H'
def t_law_draw_size (K : PySem.W.Frag) : TS :=
  (tRet (tOp (rMulU K) (tOp (rAddU K) (tC (.int 1)) (tCall (sp_law_take K) [] E0 (tCons (tVar 0) (tCons (tVar 1) tNil)))) (tOp (rIx K) (tLst (tCons (tC (.int 1)) (tCons (tVar 2) tNil))) (tCall (sp_law_take K) [] E0 (tCons (tVar 0) (tCons (tC (.int 2)) tNil))))))
theorem ln_law_draw_size (h : sp_law_draw_size K vs H Q E) : vs.length = 3 := by obtain ⟨_, _, _, _, rfl, _⟩ := h; rfl
theorem rd_law_draw_size (h : sp_law_draw_size K vs H Q E) : t_law_draw_size K (EndsOf Q) (start ["", "", ""] vs) H := by
  obtain ⟨b, l, top, sc, rfl, B, t1, t2, s1, k⟩ := h
  refine ⟨_, rfl, _, rfl, b, l, top, rfl, B, by omega, by omega, fun r H1 r0 r1 B1 k1 => ?_⟩
  refine .inl ⟨_, _, rfl, rfl, _, rfl, two_fit.2.1, fun p hp => ?_⟩
  have k2 := k1.laid (o := .lst [.int 1, .int sc]) hp
  refine ⟨_, rfl, b, l, 2, rfl, B1.same (same_new hp), by decide, by decide, fun j H2 j0 j1 B2 k3 => ?_⟩
  have hp2 : H2 p = some (.lst [.int 1, .int sc]) := by
    refine k3 p _ upd_same ?_
    obtain ⟨ys, hb⟩ := B1.at
    exact (ne_of_none hb hp).symm
  obtain ⟨z, hz, cz⟩ := pick2 (x := .int 1) (y := .int sc) j0 j1
  refine .inl ⟨p, _, j, z, rfl, rfl, SqL.of hp2, hz, ?_⟩
  rcases cz with ⟨_, rfl⟩ | ⟨_, rfl⟩
  · refine .inl ⟨_, _, rfl, rfl, .inl (.inl (by omega)), ?_⟩
    refine k _ _ (by omega) ?_ B2 (k2.trans k3)
    have : top * 1 ≤ top * sc := Int.mul_le_mul_of_nonneg_left s1 (by omega)
    omega
  · refine .inl ⟨_, _, rfl, rfl, .inl (.inl (by omega)), ?_⟩
    have h1 : (1 + r) * sc ≤ top * sc := Int.mul_le_mul_of_nonneg_right (by omega) (by omega)
    have h2 : 1 * 1 ≤ (1 + r) * sc := Int.mul_le_mul (by omega) s1 (by omega) (by omega)
    exact k _ _ (by omega) h1 B2 (k2.trans k3)
theorem Tr.give_or (a b : Tr) (i : Int) : (Tr.or a b).give i = if b.give i > a.give i then b.give i else a.give i := rfl
theorem Tr.give_and (a b : Tr) (i : Int) : (Tr.and a b).give i = if b.give i < a.give i then b.give i else a.give i := rfl
def sp_law_give (K : PySem.W.Frag) (n : Nat) : Sp := fun vs H Q _ => ∃ v T i, vs = [v, .int i] ∧ TrAt K H v T ∧ T.ok ∧ T.dp ≤ n ∧ ∀ H', Same H H' → Q (.int (T.give i)) H'
def t_law_give (K : PySem.W.Frag) (n : Nat) : TS :=
  (tSeq (tAsg (tVar 0) (gTup K 3 (gCons (gName 2) (gCons (gName 3) (gCons (gName 4) gNil)))))
    (tSeq (tIfS (tTest (tOp (rEqU K) (tVar 2) (tC (.str "at")))) (tRet (tIf (tTest (tOp (rGeI) (tVar 1) (tVar 3))) (tOp (rSubI) (tVar 1) (tOp (rModI) (tCB (rIntU) (tCons (tVar 1) tNil)) (tVar 4))) (tC (.int 0)))) tNext)
    (tSeq (tAsg (tLst (tCons (tCall (sp_law_give K n) [] E0 (tCons (tVar 3) (tCons (tVar 1) tNil))) (tCons (tCall (sp_law_give K n) [] E0 (tCons (tVar 4) (tCons (tVar 1) tNil))) tNil))) (gName 5))
    (tRet (tIf (tTest (tOp (rEqU K) (tVar 2) (tC (.str "or")))) (tCB (rMax K) (tCons (tVar 5) tNil)) (tCB (rMin K) (tCons (tVar 5) tNil)))))))
theorem no_law_give (h : sp_law_give K 0 vs H Q E) : False := by
  obtain ⟨_, T, _, _, _, _, h, _⟩ := h
  have := T.dp_pos
  omega
theorem ln_law_give (h : sp_law_give K n vs H Q E) : vs.length = 2 := by obtain ⟨_, _, _, rfl, _⟩ := h; rfl
theorem rd_law_give (h : sp_law_give K (n + 1) vs H Q E) : t_law_give K n (EndsOf Q) (start ["", "", "", "", "", ""] vs) H := by
  obtain ⟨v, T, i, rfl, hT, ok, hd, k⟩ := h
  obtain ⟨a, w, x, y, rfl, s, cw⟩ := hT.tuple
  refine ⟨_, rfl, g3 s ?_⟩
  refine ⟨_, rfl, .inl ⟨rfl, _, rfl, ?_⟩⟩
  rcases cw with ⟨rfl, t, q, rfl, rfl, rfl⟩ | ⟨rfl, A, B, rfl, hA, hB⟩ | ⟨rfl, A, B, rfl, hA, hB⟩
  · refine ifS (fun _ => ?_) (fun z => absurd rfl z)
    obtain ⟨o1, o2, o3, o4⟩ := ok
    have k := k H (Same.refl H)
    have e : (Tr.at t q).give i = if t ≤ i then i - i % q else 0 := rfl
    rw [e] at k
    refine ⟨_, rfl, _, rfl, _, _, rfl, rfl, _, rfl, ?_⟩
    refine ifD (fun c => ?_) (fun c => ?_)
    · rw [if_pos c] at k
      exact ⟨_, rfl, _, rfl, .inl (.inl ⟨_, rfl, _, rfl, _, _, rfl, rfl, (by show (0 : Int) < q; omega), _, _, rfl, rfl, k⟩)⟩
    · rw [if_neg c] at k
      exact k
  · refine ifS (fun z => absurd z or_at) (fun _ => ?_)
    have hd' : max A.dp B.dp + 1 ≤ n + 1 := hd
    refine ⟨_, rfl, _, rfl, x, A, i, rfl, hA, ok.1, by omega, fun H1 s1 => ?_⟩
    refine ⟨_, rfl, _, rfl, y, B, i, rfl, hB.mono (Tups.same s1), ok.2, by omega, fun H2 s2 => ⟨two_fit.2.1, fun p hp => ?_⟩⟩
    refine ⟨_, rfl, .inl ⟨rfl, _, rfl, ?_⟩⟩
    refine ifS (fun _ => ?_) (fun z => absurd rfl z)
    refine ⟨_, rfl, p, [A.give i, B.give i], rfl, SqL.of upd_same, Nat.succ_pos _, fun m hm hy => ?_⟩
    have e : m = (Tr.or A B).give i := by
      rw [Tr.give_or]
      have h1 := hy (A.give i) (List.mem_cons_self ..)
      have h2 := hy (B.give i) (List.mem_cons_of_mem _ (List.mem_cons_self ..))
      rcases List.mem_cons.mp hm with rfl | hm
      · split <;> omega
      · have := List.mem_singleton.mp hm
        split <;> omega
    rw [e]
    exact k _ ((s1.trans s2).trans (same_new hp))
  · refine ifS (fun z => absurd z and_at) (fun _ => ?_)
    have hd' : max A.dp B.dp + 1 ≤ n + 1 := hd
    refine ⟨_, rfl, _, rfl, x, A, i, rfl, hA, ok.1, by omega, fun H1 s1 => ?_⟩
    refine ⟨_, rfl, _, rfl, y, B, i, rfl, hB.mono (Tups.same s1), ok.2, by omega, fun H2 s2 => ⟨two_fit.2.1, fun p hp => ?_⟩⟩
    refine ⟨_, rfl, .inl ⟨rfl, _, rfl, ?_⟩⟩
    refine ifS (fun z => absurd z and_or) (fun _ => ?_)
    refine ⟨_, rfl, p, [A.give i, B.give i], rfl, SqL.of upd_same, Nat.succ_pos _, fun m hm hy => ?_⟩
    have e : m = (Tr.and A B).give i := by
      rw [Tr.give_and]
      have h1 := hy (A.give i) (List.mem_cons_self ..)
      have h2 := hy (B.give i) (List.mem_cons_of_mem _ (List.mem_cons_self ..))
      rcases List.mem_cons.mp hm with rfl | hm
      · split <;> omega
      · have := List.mem_singleton.mp hm
        split <;> omega
    rw [e]
    exact k _ ((s1.trans s2).trans (same_new hp))
/-! ### a drawn rule -/
def Tr.le (m : Int) : Tr → Prop
  | .at t _ => t ≤ m
  | .or a b => le m a ∧ le m b
  | .and a b => le m a ∧ le m b
theorem Bag.nb {b l D : Addr} (B : Bag H b l) (h : H D = none) : D ≠ b := by
  obtain ⟨ys, hb⟩ := B.at
  exact (ne_of_none hb h).symm
theorem Bag.nl {b l D : Addr} (B : Bag H b l) (h : H D = none) : D ≠ l := by
  obtain ⟨ys, hb⟩ := B.at2
  exact (ne_of_none hb h).symm
theorem Bag.tups {b l : Addr} (B : Bag H b l) (k : Kp b H H') : Tups K H H' := by
  obtain ⟨ys, hb⟩ := B.at
  exact Tups.kp k hb
def Ps.Ok (K : PySem.W.Frag) (H : Hp) (m : Int) (zs : Ps) : Prop := ∀ z ∈ zs, TrAt K H z.1 z.2 ∧ z.2.ok ∧ z.2.le m
theorem Ps.Ok.mono {zs : Ps} {m : Int} (h : Ps.Ok K H m zs) (s : Tups K H H') : Ps.Ok K H' m zs := fun z hz => ⟨(h z hz).1.mono s, (h z hz).2⟩
theorem Tups.add {p : Addr} {o u : HO} (h : H p = some u) (nt : ∀ xs, u ≠ .tup xs) (nf : ∀ ob xs, u ≠ .frz ob (.tup xs)) : Tups K H (upd H p o) := Tups.put h nt nf
theorem lst_tups {p : Addr} {o : HO} {xs : List V} (h : H p = some (.lst xs)) : Tups K H (upd H p o) := Tups.put h (fun _ z => nomatch z) fun _ _ z => nomatch z
def sp_law_draw_rule (K : PySem.W.Frag) : Sp := fun vs H Q _ => ∃ b l top sc many, vs = [.ref b, .int top, .int sc, .int many] ∧ Bag H b l ∧ 1 ≤ top ∧ top ≤ 1000 ∧ 1 ≤ sc ∧ top * sc ≤ 10 ^ 50 ∧ 1 ≤ many ∧ many ≤ 100 ∧
  ∀ v T H', TrAt K H' v T → T.ok → T.le (top * sc) → (T.lv : Int) = many → Bag H' b l → Kp b H H' → Q v H'
def t_law_draw_rule (K : PySem.W.Frag) : TS :=
  (tSeq (tAsg (tLc (iRng1 (tCons (tVar 3) tNil)) (gName 6) tYes (tTup (tCons (tC (.str "at")) (tCons (tCall (sp_law_draw_size K) [] E0 (tCons (tVar 0) (tCons (tVar 1) (tCons (tVar 2) tNil)))) (tCons (tOp (rAddU K) (tC (.int 1)) (tCall (sp_law_take K) [] E0 (tCons (tVar 0) (tCons (tC (.int 6)) tNil)))) tNil)))) [6]) (gName 4))
    (tSeq (tWhile (tTest (tOp (rGtI) (tCB (rLenU K) (tCons (tVar 4) tNil)) (tC (.int 1)))) (tSeq (tAsg (tCall (sp_law_take K) [] E0 (tCons (tVar 0) (tCons (tOp (rSubI) (tCB (rLenU K) (tCons (tVar 4) tNil)) (tC (.int 1))) tNil))) (gName 5))
    (tAsg (tOp (rAddU K) (tOp (rAddU K) (tSl (rSlU K) (tVar 4) tNoPart (tPart (tVar 5))) (tLst (tCons (tTup (tCons (tOp (rIx K) (tLst (tCons (tC (.str "or")) (tCons (tC (.str "and")) tNil))) (tCall (sp_law_take K) [] E0 (tCons (tVar 0) (tCons (tC (.int 2)) tNil)))) (tCons (tOp (rIx K) (tVar 4) (tVar 5)) (tCons (tOp (rIx K) (tVar 4) (tOp (rAddU K) (tVar 5) (tC (.int 1)))) tNil)))) tNil))) (tSl (rSlU K) (tVar 4) (tPart (tOp (rAddU K) (tVar 5) (tC (.int 2)))) tNoPart)) (gName 4))))
    (tRet (tOp (rIx K) (tVar 4) (tC (.int 0))))))
theorem ln_law_draw_rule (h : sp_law_draw_rule K vs H Q E) : vs.length = 4 := by obtain ⟨_, _, _, _, _, rfl, _⟩ := h; rfl
theorem split2 {α : Type} {l : List α} {j : Nat} (h : j + 1 < l.length) : l = l.take j ++ (l[j] :: l[j + 1] :: l.drop (j + 2)) := by
  rw [← List.drop_eq_getElem_cons (by omega), ← List.drop_eq_getElem_cons (by omega), List.take_append_drop]
theorem rd_law_draw_rule (h : sp_law_draw_rule K vs H Q E) : t_law_draw_rule K (EndsOf Q) (start ["", "", "", "", "", "", ""] vs) H := by
  obtain ⟨b, l, top, sc, many, rfl, B, t1, t2, s1, ts, m1, m2, k⟩ := h
  have nb : ∀ {D : Addr}, H D = none → D ≠ b := fun h => B.nb h
  refine ⟨_, rfl, many, rfl, by omega, by omega, fun D hD => ?_⟩
  refine lc_range (lo := 0) (n := many.toNat) (fun i H' => Bag H' b l ∧ Kp b H H' ∧ ∃ zs : Ps, zs.length = i ∧ zs.lvs = i ∧ H' D = some (.lst (zs.map (·.1))) ∧ Ps.Ok K H' (top * sc) zs) ⟨B.same (same_new hD), kp_new hD, [], rfl, rfl, upd_same, fun z hz => nomatch hz⟩ ?_ ?_
  · rintro i G hi ⟨B1, k1, zs, hl, hv, hz, ok⟩
    refine ⟨rfl, ?_⟩
    refine ⟨_, rfl, _, rfl, _, rfl, b, l, top, sc, rfl, B1, t1, t2, s1, fun t G1 a0 a1 B2 k2 => ?_⟩
    refine ⟨_, rfl, b, l, 6, rfl, B2, by decide, by decide, fun q G2 q0 q1 B3 k3 => .inl ⟨_, _, rfl, rfl, two_fit.2.2.1, fun p hp => ?_⟩⟩
    have k23 := k2.trans k3
    have hz2 := k23 D _ hz (nb hD)
    have s4 := same_new (o := .tup [.str "at", .int t, .int (1 + q)]) hp
    have tp : Tups K G (upd G2 p (.tup [.str "at", .int t, .int (1 + q)])) := (B1.tups k23).trans (Tups.same s4)
    refine ⟨_, s4 _ _ hz2, small1000 (by rw [List.length_map]; omega), ?_, (k1.trans (k23.trans (Kp.of s4))).other hD, zs ++ [(.ref p, .at t (1 + q))], ?_, ?_, ?_, ?_⟩
    · exact (B3.same s4).put (nb hD).symm (B.nl hD).symm
    · rw [List.length_append, hl]; rfl
    · rw [Ps.lvs_app, hv]; rfl
    · rw [upd_same, List.map_append]; rfl
    · intro z q
      have tD := lst_tups (K := K) (o := .lst (zs.map (·.1) ++ [V.ref p])) (s4 _ _ hz2)
      rcases List.mem_append.mp q with q | q
      · exact ⟨((ok z q).1.mono tp).mono tD, (ok z q).2⟩
      · rw [List.mem_singleton.mp q]
        exact ⟨⟨p, rfl, tD _ _ (SqT.of upd_same)⟩, ⟨a0, by omega, by omega, by omega⟩, a1⟩
  rintro G ⟨B1, k1, zs, hl, hv, hz, ok⟩
  refine ⟨fun m σ' H' => ∃ (zs : Ps) (D : Addr) (at' : Option V), σ' = [some (.ref b), some (.int top), some (.int sc), some (.int many), some (.ref D), at', none] ∧ H D = none ∧ H' D = some (.lst (zs.map (·.1))) ∧ Ps.Ok K H' (top * sc) zs ∧
    zs.lvs = many.toNat ∧ 1 ≤ zs.length ∧ zs.length ≤ 100 ∧ Bag H' b l ∧ Kp b H H' ∧ m = zs.length, ⟨_, zs, D, none, rfl, hD, hz, ok, hv, by omega, by omega, B1, k1, rfl⟩, ?_⟩
  clear hl hv hz ok zs B1 k1 hD
  rintro m σ' G ⟨zs, D, at', rfl, hD, hz, ok, hv, l1, l2, B1, k1, rfl⟩
  refine ⟨_, rfl, .inl ⟨_, _, rfl, .inl ⟨_, SqL.of hz, rfl⟩, _, _, rfl, rfl, _, rfl, ?_⟩⟩
  rw [List.length_map]
  refine ifD (fun c => ?_) (fun c => ?_)
  · -- two neighbours become one
    refine ⟨fun σ2 H2 => ∃ (zs2 : Ps) (D2 : Addr) (at' : Option V), σ2 = [some (.ref b), some (.int top), some (.int sc), some (.int many), some (.ref D2), at', none] ∧ H D2 = none ∧ H2 D2 = some (.lst (zs2.map (·.1))) ∧ Ps.Ok K H2 (top * sc) zs2 ∧
      zs2.lvs = many.toNat ∧ 1 ≤ zs2.length ∧ zs2.length ≤ 100 ∧ Bag H2 b l ∧ Kp b H H2 ∧ zs2.length < zs.length, fun σ2 H2 ⟨zs2, D2, at', a1, a2, a3, a4, a5, a6, a7, a8, a9, a10⟩ => ⟨_, a10, zs2, D2, at', a1, a2, a3, a4, a5, a6, a7, a8, a9, rfl⟩, ?_⟩
    refine ⟨_, rfl, _, rfl, .inl ⟨_, _, rfl, .inl ⟨_, SqL.of hz, rfl⟩, _, _, rfl, rfl, ?_⟩⟩
    rw [List.length_map]
    refine ⟨b, l, _, rfl, B1, by omega, by omega, fun at' G1 a0 a1 B2 k2 => ?_⟩
    have hz1 := k2 D _ hz (nb hD)
    obtain ⟨j, rfl⟩ : ∃ j : Nat, at' = (j : Int) := ⟨at'.toNat, by omega⟩
    have hj : j + 1 < zs.length := by omega
    have t1 := B1.tups (K := K) k2
    have kp1 := k1.trans k2
    have ok1 := ok.mono t1
    clear hz ok B1 k1 t1
    -- some[:at]
    refine ⟨_, rfl, _, rfl, _, rfl, .inl ⟨D, _, rfl, SqL.of hz1, fun p1 hp1 => ?_⟩⟩
    rw [cutV_to]
    have e1 := same_new (o := .lst ((zs.map (·.1)).take j)) hp1
    -- ['or', 'and'][..]
    refine ⟨two_fit.2.1, fun p2 hp2 => ?_⟩
    have e2 := same_new (o := .lst [.str "or", .str "and"]) hp2
    have e12 := e1.trans e2
    refine ⟨_, rfl, b, l, 2, rfl, B2.same e12, by decide, by decide, fun w G2 w0 w1 B3 k3 => ?_⟩
    have np2 : p2 ≠ b := (B2.same e1).nb hp2
    have np1 : p1 ≠ b := B2.nb hp1
    obtain ⟨wd, hw, cw⟩ := pick2 (x := .str "or") (y := .str "and") w0 w1
    have h2 := k3 p2 _ upd_same np2
    have h1 := k3 p1 _ (e2 _ _ upd_same) np1
    have hz2 := k3 D _ (e12 _ _ hz1) (nb hD)
    have tt : Tups K G1 G2 := (Tups.same e12).trans ((B2.same e12).tups k3)
    have ok2 := ok1.mono tt
    have kp2 := kp1.trans ((Kp.of e12).trans k3)
    refine .inl ⟨p2, _, w, wd, rfl, rfl, SqL.of h2, hw, ?_⟩
    -- some[at], some[at + 1]
    have g1 : (zs.map (·.1))[j]? = some (zs[j].1) := by rw [List.getElem?_map, List.getElem?_eq_getElem (by omega)]; rfl
    have g2 : (zs.map (·.1))[j + 1]? = some (zs[j + 1].1) := by rw [List.getElem?_map, List.getElem?_eq_getElem hj]; rfl
    refine ⟨_, rfl, _, rfl, .inl ⟨D, _, _, _, rfl, rfl, SqL.of hz2, at_of rfl g1, ?_⟩⟩
    refine ⟨_, rfl, _, rfl, .inl ⟨_, _, rfl, rfl, .inl ⟨D, _, _, _, rfl, rfl, SqL.of hz2, at_of (by omega) g2, ?_⟩⟩⟩
    refine ⟨two_fit.2.2.1, fun p3 hp3 => ?_⟩
    have e3 := same_new (o := .tup [wd, zs[j].1, zs[j + 1].1]) hp3
    refine ⟨two_fit.1, fun p4 hp4 => ?_⟩
    have e4 := same_new (o := .lst [.ref p3]) hp4
    have e34 := e3.trans e4
    refine .inr (.inr (.inl ⟨p1, p4, _, _, rfl, rfl, e34 _ _ h1, upd_same, ?_, fun p5 hp5 => ?_⟩))
    · rw [List.length_take, List.length_map, List.length_singleton]
      exact Nat.le_of_lt (small1000 (by omega))
    have e5 := same_new (o := .lst ((zs.map (·.1)).take j ++ [.ref p3])) hp5
    have e35 := e34.trans e5
    refine ⟨_, rfl, _, rfl, .inl ⟨_, _, rfl, rfl, _, rfl, .inl ⟨D, _, rfl, SqL.of (e35 _ _ hz2), fun p6 hp6 => ?_⟩⟩⟩
    rw [show ((j : Int) + 2) = ((j + 2 : Nat) : Int) from rfl, cutV_from]
    have e6 := same_new (o := .lst ((zs.map (·.1)).drop (j + 2))) hp6
    refine .inr (.inr (.inl ⟨p5, p6, _, _, rfl, rfl, e6 _ _ upd_same, upd_same, ?_, fun p7 hp7 => ?_⟩))
    · rw [List.length_append, List.length_take, List.length_drop, List.length_map, List.length_singleton]
      exact Nat.le_of_lt (small1000 (by omega))
    have e7 := same_new (o := .lst ((zs.map (·.1)).take j ++ [.ref p3] ++ (zs.map (·.1)).drop (j + 2))) hp7
    have all : Same G2 _ := e35.trans (e6.trans e7)
    obtain ⟨A, hA⟩ : ∃ A, A = (zs[j]).2 := ⟨_, rfl⟩
    obtain ⟨Z, hZ⟩ : ∃ Z, Z = (zs[j + 1]).2 := ⟨_, rfl⟩
    obtain ⟨q1, q2, q3⟩ := ok2 _ (List.getElem_mem (show j < zs.length by omega))
    obtain ⟨r1, r2, r3⟩ := ok2 _ (List.getElem_mem hj)
    rw [← hA] at q1 q2 q3
    rw [← hZ] at r1 r2 r3
    -- the tree of both
    obtain ⟨W, hW, oW, lW, vW⟩ : ∃ W : Tr, (∀ G', Same G2 G' → G' p3 = some (.tup [wd, zs[j].1, zs[j + 1].1]) → TrAt K G' (.ref p3) W) ∧ W.ok ∧ W.le (top * sc) ∧ W.lv = A.lv + Z.lv := by
      rcases cw with ⟨_, rfl⟩ | ⟨_, rfl⟩
      · exact ⟨.or A Z, fun G' s h => ⟨p3, _, _, rfl, SqT.of h, q1.mono (Tups.same s), r1.mono (Tups.same s)⟩, ⟨q2, r2⟩, ⟨q3, r3⟩, rfl⟩
      · exact ⟨.and A Z, fun G' s h => ⟨p3, _, _, rfl, SqT.of h, q1.mono (Tups.same s), r1.mono (Tups.same s)⟩, ⟨q2, r2⟩, ⟨q3, r3⟩, rfl⟩
    have hp3' := (e4.trans (e5.trans (e6.trans e7))) p3 _ upd_same
    refine ⟨zs.take j ++ [(.ref p3, W)] ++ zs.drop (j + 2), p7, _, rfl, ?_, ?_, ?_, ?_, ?_, ?_, B3.same all, kp2.trans (Kp.of all), ?_⟩
    · cases e : H p7 with
      | none => rfl
      | some o =>
        have z1 := (kp2.trans (Kp.of (e35.trans e6))) p7 o e
        by_cases hb : p7 = b
        · obtain ⟨ys, hb'⟩ := (B3.same (e35.trans e6)).at
          rw [hb, hb'] at hp7
          cases hp7
        · rw [z1 hb] at hp7
          cases hp7
    · rw [upd_same, List.map_append, List.map_append, List.map_take, List.map_drop]
      rfl
    · intro z hz
      rcases List.mem_append.mp hz with hz | hz
      · rcases List.mem_append.mp hz with hz | hz
        · exact (ok2.mono (Tups.same all)) z (List.mem_of_mem_take hz)
        · rw [List.mem_singleton.mp hz]
          exact ⟨hW _ all hp3', oW, lW⟩
      · exact (ok2.mono (Tups.same all)) z (List.mem_of_mem_drop hz)
    · have e0 : Ps.lvs zs = Ps.lvs (zs.take j) + (A.lv + (Z.lv + Ps.lvs (zs.drop (j + 2)))) := by
        conv => lhs; rw [split2 hj, Ps.lvs_app]
        rw [hA, hZ]
        rfl
      have e1 : Ps.lvs [((.ref p3 : V), W)] = W.lv := by show W.lv + 0 = W.lv; omega
      rw [Ps.lvs_app, Ps.lvs_app, e1, vW]
      omega
    all_goals
      rw [List.length_append, List.length_append, List.length_take, List.length_drop, List.length_singleton]
      omega
  · -- one is left
    obtain ⟨⟨v, T⟩, rfl⟩ : ∃ z, zs = [z] := by
      cases zs with
      | nil => exact absurd l1 (by decide)
      | cons z r =>
        cases r with
        | nil => exact ⟨z, rfl⟩
        | cons y r => exact absurd (by rw [List.length_cons, List.length_cons]; omega) c
    obtain ⟨a1, a2, a3⟩ := ok (v, T) (List.mem_singleton.mpr rfl)
    have e : T.lv = many.toNat := hv
    exact ⟨_, rfl, .inl ⟨D, _, 0, v, rfl, rfl, SqL.of hz, rfl, k v T G a1 a2 a3 (by omega) B1 k1⟩⟩
end
end Pk
set_option Elab.async false
set_option linter.all false
set_option maxRecDepth 100000
set_option maxHeartbeats 2000000
namespace Pk
open PySem PySem.Spec L2 PyProof.Rows
section
variable {K : PySem.W.Frag} {C : Cs} {vs : List V} {H H' : Hp} {Q : VK} {E : XK} {n : Nat}
theorem RuleAt.kpB {v : V} {T : Tr} {b l : Addr} (h : RuleAt K C H v T) (B : Bag H b l) (k : Kp b H H') : RuleAt K C H' v T := by
  obtain ⟨ys, hb⟩ := B.at
  exact h.kp k hb
def sp_law_made (K : PySem.W.Frag) (C : Cs) (n : Nat) : Sp := fun vs H Q _ => ∃ b l v T, vs = [.ref b, v] ∧ Bag H b l ∧ TrAt K H v T ∧ T.ok ∧ T.lv ≤ 6 ∧ T.dp ≤ n ∧ FxRule K C ∧ ∀ x H', RuleAt K C H' x T → Bag H' b l → Kp b H H' → Q x H'
def t_law_made (K : PySem.W.Frag) (C : Cs) (n : Nat) : TS :=
  (tSeq (tAsg (tVar 1) (gTup K 3 (gCons (gName 2) (gCons (gName 3) (gCons (gName 4) gNil)))))
    (tSeq (tIfS (tTest (tOp (rEqU K) (tCall (sp_law_take K) [] E0 (tCons (tVar 0) (tCons (tC (.int 2)) tNil))) (tC (.int 0)))) (tRet (tMake C.Rule (sp_Rule___init__ K C) [] E0 (tCons (tVar 1) tNil))) tNext)
    (tSeq (tIfS (tTest (tOp (rEqU K) (tVar 2) (tC (.str "at")))) (tRet (tIf (tTest (tOp (rEqU K) (tVar 4) (tC (.int 1)))) (tCall (sp_at_least K C) [.int 1] E0 (tCons (tVar 3) tNil)) (tCall (sp_at_least K C) [] E0 (tCons (tVar 3) (tCons (tVar 4) tNil))))) tNext)
    (tSeq (tPar 5 6 (tCons (tCall (sp_law_made K C n) [] E0 (tCons (tVar 0) (tCons (tVar 3) tNil))) (tCons (tCall (sp_law_made K C n) [] E0 (tCons (tVar 0) (tCons (tVar 4) tNil))) tNil)))
    (tRet (tIf (tTest (tOp (rEqU K) (tVar 2) (tC (.str "or")))) (tOp (rOwnB C.Rule (sp_Rule___or__ K C) E0) (tVar 5) (tVar 6)) (tOp (rOwnB C.Rule (sp_Rule___and__ K C) E0) (tVar 5) (tVar 6))))))))
theorem no_law_made (h : sp_law_made K C 0 vs H Q E) : False := by
  obtain ⟨_, _, _, T, _, _, _, _, _, h, _⟩ := h
  have := T.dp_pos
  omega
theorem ln_law_made (h : sp_law_made K C n vs H Q E) : vs.length = 2 := by obtain ⟨_, _, _, _, rfl, _⟩ := h; rfl
theorem rd_law_made (h : sp_law_made K C (n + 1) vs H Q E) : t_law_made K C n (EndsOf Q) (start ["", "", "", "", "", "", ""] vs) H := by
  obtain ⟨b, l, v, T, rfl, B, hT, ok, l6, hd, fx, k⟩ := h
  obtain ⟨a, w, x, y, rfl, s, cw⟩ := hT.tuple
  refine ⟨_, rfl, g3 s ?_⟩
  refine ⟨_, rfl, b, l, 2, rfl, B, by decide, by decide, fun r G r0 r1 B1 k1 => .inl ⟨rfl, _, rfl, ?_⟩⟩
  have tt := B.tups (K := K) k1
  refine ifI (fun _ => ?_) (fun _ => ?_)
  · refine ⟨_, rfl, make_rule (t := tNil) (σ := []) fx ok l6 (hT.mono tt) fun x H' hx s2 r => k (.ref x) H' r (B1.same s2) (k1.trans (Kp.of s2))⟩
  refine ⟨_, rfl, .inl ⟨rfl, _, rfl, ?_⟩⟩
  have two : ∀ {A Z : Tr} {w : Str}, T.ok → max A.dp Z.dp + 1 ≤ n + 1 → A.lv + Z.lv ≤ 6 → A.ok → Z.ok → TrAt K H x A → TrAt K H y Z → ((w = "or" ∧ T = .or A Z) ∨ (w = "and" ∧ T = .and A Z)) →
      tSeq (tPar 5 6 (tCons (tCall (sp_law_made K C n) [] E0 (tCons (tVar 0) (tCons (tVar 3) tNil))) (tCons (tCall (sp_law_made K C n) [] E0 (tCons (tVar 0) (tCons (tVar 4) tNil))) tNil)))
        (tRet (tIf (tTest (tOp (rEqU K) (tVar 2) (tC (.str "or")))) (tOp (rOwnB C.Rule (sp_Rule___or__ K C) E0) (tVar 5) (tVar 6)) (tOp (rOwnB C.Rule (sp_Rule___and__ K C) E0) (tVar 5) (tVar 6)))) (EndsOf Q)
        [some (.ref b), some (.ref a), some (.str w), some x, some y, none, none] G := by
    intro A Z w _ hd' l6 oA oZ hA hZ c
    refine ⟨_, rfl, _, rfl, b, l, x, A, rfl, B1, hA.mono tt, oA, by omega, by omega, fx, fun u G1 R1 B2 k2 => ?_⟩
    refine ⟨_, rfl, _, rfl, b, l, y, Z, rfl, B2, (hZ.mono tt).mono (B1.tups k2), oZ, by omega, by omega, fx, fun z G2 R2 B3 k3 => ⟨_, _, rfl, ?_⟩⟩
    have R1' := R1.kpB B2 k3
    have kk := k1.trans (k2.trans k3)
    obtain ⟨ru, du, xu, rfl, hu, ru'⟩ := id R1'
    obtain ⟨rz, dz, xz, rfl, hz, rz'⟩ := id R2
    refine ⟨_, rfl, .inl ⟨rfl, _, rfl, ?_⟩⟩
    rcases c with ⟨rfl, rfl⟩ | ⟨rfl, rfl⟩
    · refine ifS (fun _ => ?_) (fun z => absurd rfl z)
      exact ⟨_, rfl, _, rfl, ru, rz, du, _, dz, _, rfl, rfl, hu, hz, _, _, A, Z, rfl, R1', R2, l6, fun q G3 hq s3 R3 => k _ G3 R3 (B3.same s3) (kk.trans (Kp.of s3))⟩
    · refine ifS (fun z => absurd z and_or) (fun _ => ?_)
      exact ⟨_, rfl, _, rfl, ru, rz, du, _, dz, _, rfl, rfl, hu, hz, _, _, A, Z, rfl, R1', R2, l6, fun q G3 hq s3 R3 => k _ G3 R3 (B3.same s3) (kk.trans (Kp.of s3))⟩
  rcases cw with ⟨rfl, t, q, rfl, rfl, rfl⟩ | ⟨rfl, A, Z, rfl, hA, hZ⟩ | ⟨rfl, A, Z, rfl, hA, hZ⟩
  · refine ifS (fun _ => ?_) (fun z => absurd rfl z)
    refine ⟨_, rfl, .inl ⟨rfl, _, rfl, ?_⟩⟩
    refine ifI (fun e => ?_) (fun _ => ?_)
    · subst e
      exact ⟨_, rfl, t, 1, rfl, ok, fx, fun x G1 hx s2 r => k _ G1 r (B1.same s2) (k1.trans (Kp.of s2))⟩
    · exact ⟨_, rfl, _, rfl, t, q, rfl, ok, fx, fun x G1 hx s2 r => k _ G1 r (B1.same s2) (k1.trans (Kp.of s2))⟩
  · refine ifS (fun z => absurd z or_at) (fun _ => ?_)
    exact two ok hd l6 ok.1 ok.2 hA hZ (.inl ⟨rfl, rfl⟩)
  · refine ifS (fun z => absurd z and_at) (fun _ => ?_)
    exact two ok hd l6 ok.1 ok.2 hA hZ (.inr ⟨rfl, rfl⟩)
/-! ### amounts near the thresholds -/
def imax (i j : Int) : Int := if j > i then j else i
def Tr.tops : Tr → List Int
  | .at t q => [imax t q]
  | .or a b => tops a ++ tops b
  | .and a b => tops a ++ tops b
theorem Tr.tops_len : ∀ T : Tr, T.tops.length = T.lv
  | .at _ _ => rfl
  | .or a b => by show (tops a ++ tops b).length = _; rw [List.length_append, tops_len a, tops_len b]; rfl
  | .and a b => by show (tops a ++ tops b).length = _; rw [List.length_append, tops_len a, tops_len b]; rfl
theorem Tr.tops_ok : ∀ {T : Tr}, T.ok → ∀ i ∈ T.tops, 1 ≤ i ∧ i ≤ 10 ^ 50
  | .at t q, h, i, hi => by
    obtain ⟨h1, h2, h3, h4⟩ := h
    rw [List.mem_singleton.mp hi]
    unfold imax
    split <;> omega
  | .or a b, h, i, hi => (List.mem_append.mp hi).elim (tops_ok h.1 i) (tops_ok h.2 i)
  | .and a b, h, i, hi => (List.mem_append.mp hi).elim (tops_ok h.1 i) (tops_ok h.2 i)
def sp_law_bounds (K : PySem.W.Frag) (n : Nat) : Sp := fun vs H Q _ => ∃ v T, vs = [v] ∧ TrAt K H v T ∧ T.dp ≤ n ∧ T.lv ≤ 100 ∧ ∀ p H', H p = none → Same H H' → H' p = some (.lst (T.tops.map V.int)) → Q (.ref p) H'
def t_law_bounds (K : PySem.W.Frag) (n : Nat) : TS :=
  (tSeq (tAsg (tVar 0) (gTup K 3 (gCons (gName 1) (gCons (gName 2) (gCons (gName 3) gNil)))))
    (tRet (tIf (tTest (tOp (rEqU K) (tVar 1) (tC (.str "at")))) (tLst (tCons (tCB (rMax2) (tCons (tVar 2) (tCons (tVar 3) tNil))) tNil)) (tOp (rAddU K) (tCall (sp_law_bounds K n) [] E0 (tCons (tVar 2) tNil)) (tCall (sp_law_bounds K n) [] E0 (tCons (tVar 3) tNil))))))
theorem no_law_bounds (h : sp_law_bounds K 0 vs H Q E) : False := by
  obtain ⟨_, T, _, _, h, _⟩ := h
  have := T.dp_pos
  omega
theorem ln_law_bounds (h : sp_law_bounds K n vs H Q E) : vs.length = 1 := by obtain ⟨_, _, rfl, _⟩ := h; rfl
theorem rd_law_bounds (h : sp_law_bounds K (n + 1) vs H Q E) : t_law_bounds K n (EndsOf Q) (start ["", "", "", ""] vs) H := by
  obtain ⟨v, T, rfl, hT, hd, hl, k⟩ := h
  obtain ⟨a, w, x, y, rfl, s, cw⟩ := hT.tuple
  refine ⟨_, rfl, g3 s ?_⟩
  refine ⟨_, rfl, .inl ⟨rfl, _, rfl, ?_⟩⟩
  have two : ∀ {A B : Tr}, T.tops = A.tops ++ B.tops → T.lv = A.lv + B.lv → max A.dp B.dp + 1 ≤ n + 1 → TrAt K H x A → TrAt K H y B →
      tOp (rAddU K) (tCall (sp_law_bounds K n) [] E0 (tCons (tVar 2) tNil)) (tCall (sp_law_bounds K n) [] E0 (tCons (tVar 3) tNil)) [some (.ref a), some (.str w), some x, some y] H Q := by
    intro A B e1 e2 hd' hA hB
    refine ⟨_, rfl, x, A, rfl, hA, by omega, by omega, fun p H1 hp s1 h1 => ?_⟩
    refine ⟨_, rfl, y, B, rfl, hB.mono (Tups.same s1), by omega, by omega, fun p2 H2 hp2 s2 h2 => ?_⟩
    refine .inr (.inr (.inl ⟨p, p2, _, _, rfl, rfl, s2 _ _ h1, h2, ?_, fun r hr => ?_⟩))
    · rw [List.length_map, List.length_map, A.tops_len, B.tops_len]
      exact Nat.le_of_lt (small1000 (by omega))
    · refine k r _ ((s1.trans s2).free hr) ((s1.trans s2).trans (same_new hr)) ?_
      rw [upd_same, e1, List.map_append]
  rcases cw with ⟨rfl, t, q, rfl, rfl, rfl⟩ | ⟨rfl, A, B, rfl, hA, hB⟩ | ⟨rfl, A, B, rfl, hA, hB⟩
  · refine ifS (fun _ => ?_) (fun z => absurd rfl z)
    exact ⟨_, rfl, _, rfl, _, _, rfl, two_fit.1, fun p hp => k p _ hp (same_new hp) upd_same⟩
  · refine ifS (fun z => absurd z or_at) (fun _ => ?_)
    exact two rfl rfl hd hA hB
  · refine ifS (fun z => absurd z and_at) (fun _ => ?_)
    exact two rfl rfl hd hA hB
theorem pick3 {x y z : V} {v : Int} (h0 : 0 ≤ v) (h1 : v < 3) : ∃ u, atI [x, y, z] v = some u ∧ (u = x ∨ u = y ∨ u = z) := by
  rcases (by omega : v = 0 ∨ v = 1 ∨ v = 2) with rfl | rfl | rfl
  · exact ⟨x, rfl, .inl rfl⟩
  · exact ⟨y, rfl, .inr (.inl rfl)⟩
  · exact ⟨z, rfl, .inr (.inr rfl)⟩
theorem kp_keep {b p : Addr} {xs : List V} (k : Kp b H H') (h : H p = some (.lst xs)) (n : p ≠ b) : H' p = some (.lst xs) := k p _ h n
/-- a number of amounts, none below nought -/
def sp_law_amounts (K : PySem.W.Frag) : Sp := fun vs H Q _ => ∃ b l v T many, vs = [.ref b, v, .int many] ∧ Bag H b l ∧ TrAt K H v T ∧ T.ok ∧ T.lv ≤ 6 ∧ 0 ≤ many ∧ many ≤ 100 ∧
  ∀ (p : Addr) (ns : List Int) (H' : Hp), H p = none → H' p = some (.lst (ns.map V.int)) → ns.length = many.toNat + 2 → (∀ i ∈ ns, 0 ≤ i ∧ i ≤ 10 ^ 60) → Bag H' b l → Kp b H H' → Q (.ref p) H'
def t_law_amounts (K : PySem.W.Frag) : TS :=
  (tSeq (tPar 3 4 (tCons (tCall (sp_law_bounds K 7) [] E0 (tCons (tVar 1) tNil)) (tCons (tLst (tCons (tC (.int 0)) (tCons (tC (.int 1)) tNil))) tNil)))
    (tSeq (tFor (iRng1 (tCons (tVar 2) tNil)) (gName 5) (tSeq (tAsg (tOp (rSubI) (tOp (rAddU K) (tOp (rIx K) (tVar 3) (tCall (sp_law_take K) [] E0 (tCons (tVar 0) (tCons (tCB (rLenU K) (tCons (tVar 3) tNil)) tNil)))) (tCall (sp_law_take K) [] E0 (tCons (tVar 0) (tCons (tC (.int 70)) tNil)))) (tC (.int 9))) (gName 6))
    (tDrop (tBM K "list" rAppend (tVar 4) (tCons (tOp (rIx K) (tLst (tCons (tCB (rMax2) (tCons (tC (.int 0)) (tCons (tVar 6) tNil))) (tCons (tCall (sp_law_take K) [] E0 (tCons (tVar 0) (tCons (tOp (rPowI) (tC (.int 10)) (tC (.int 30))) tNil))) (tCons (tCall (sp_law_take K) [] E0 (tCons (tVar 0) (tCons (tC (.int 80)) tNil))) tNil)))) (tCall (sp_law_take K) [] E0 (tCons (tVar 0) (tCons (tC (.int 3)) tNil)))) tNil)))))
    (tRet (tVar 4))))
theorem ln_law_amounts (h : sp_law_amounts K vs H Q E) : vs.length = 3 := by obtain ⟨_, _, _, _, _, rfl, _⟩ := h; rfl
theorem rd_law_amounts (h : sp_law_amounts K vs H Q E) : t_law_amounts K (EndsOf Q) (start ["", "", "", "", "", "", ""] vs) H := by
  obtain ⟨b, l, v, T, many, rfl, B, hT, ok, l6, m0, m1, k⟩ := h
  refine ⟨_, rfl, v, T, rfl, hT, Tr.dp6 l6, by omega, fun p H1 hp s1 h1 => ?_⟩
  refine ⟨two_fit.2.1, fun f hf => ⟨_, _, rfl, ?_⟩⟩
  have s2 := same_new (o := .lst [.int 0, .int 1]) hf
  have s12 := s1.trans s2
  have nb : ∀ {D : Addr}, H D = none → D ≠ b := fun h => B.nb h
  have hf0 : H f = none := s1.free hf
  have hp2 := s2 _ _ h1
  have hf2 : (upd H1 f (.lst [.int 0, .int 1])) f = some (.lst [.int 0, .int 1]) := upd_same
  have npf : p ≠ f := ne_of_none h1 hf
  generalize upd H1 f (.lst [.int 0, .int 1]) = G at s12 hp2 hf2 ⊢
  refine ⟨_, rfl, many, rfl, by omega, by omega, ?_⟩
  refine for_range (lo := 0) (n := many.toNat) (fun i σ' G' => ∃ (c1 c2 : Option V) (ns : List Int), σ' = [some (.ref b), some v, some (.int many), some (.ref p), some (.ref f), c1, c2] ∧ Bag G' b l ∧ Kp b H G' ∧ G' p = some (.lst (T.tops.map V.int)) ∧
    G' f = some (.lst (ns.map V.int)) ∧ ns.length = i + 2 ∧ ∀ z ∈ ns, 0 ≤ z ∧ z ≤ 10 ^ 60) ⟨none, none, [0, 1], rfl, B.same s12, Kp.of s12, hp2, hf2, rfl, ?_⟩ ?_ ?_
  · intro z hz
    rcases List.mem_cons.mp hz with rfl | hz
    · decide
    · rw [List.mem_singleton.mp hz]; decide
  · rintro i σ' G' hi ⟨c1, c2, ns, rfl, B1, k1, hp1, hf1, hl, hn⟩
    refine ⟨_, rfl, _, rfl, _, rfl, .inl ⟨_, _, rfl, .inl ⟨_, SqL.of hp1, rfl⟩, ?_⟩⟩
    have tl := T.tops_len
    have lp := T.lv_pos
    rw [List.length_map, tl]
    refine ⟨b, l, _, rfl, B1, by omega, by omega, fun j G1 j0 j1 B2 k2 => ?_⟩
    have hp2 := k2 p _ hp1 (nb hp)
    have hj : j.toNat < T.tops.length := by omega
    have g : (T.tops.map V.int)[j.toNat]? = some (.int (T.tops[j.toNat])) := by rw [List.getElem?_map, List.getElem?_eq_getElem hj]; rfl
    obtain ⟨t1, t2⟩ := Tr.tops_ok ok _ (List.getElem_mem hj)
    generalize T.tops[j.toNat] = tj at g t1 t2
    refine .inl ⟨p, _, j, .int tj, rfl, rfl, SqL.of hp2, at_of (by omega) g, ?_⟩
    refine ⟨_, rfl, b, l, 70, rfl, B2, by decide, by decide, fun r G2 r0 r1 B3 k3 => .inl ⟨_, _, rfl, rfl, _, _, rfl, rfl, ?_⟩⟩
    have k13 := k1.trans (k2.trans k3)
    have hf3 := k3 f _ (k2 f _ hf1 (nb hf0)) (nb hf0)
    have hp3 := k3 p _ hp2 (nb hp)
    -- found.append(..)
    refine ⟨_, rfl, .inl ⟨rfl, _, SqL.of hf3⟩, _, rfl, _, _, rfl, _, rfl, _, _, rfl, rfl, ⟨by decide, by decide, by decide⟩, ?_⟩
    refine ⟨b, l, _, rfl, B3, by decide, by decide, fun y1 G3 y0 y2 B4 k4 => ?_⟩
    refine ⟨_, rfl, b, l, 80, rfl, B4, by decide, by decide, fun y3 G4 y4 y5 B5 k5 => ⟨two_fit.2.2.1, fun q hq => ?_⟩⟩
    refine ⟨_, rfl, b, l, 3, rfl, B5.same (same_new hq), by decide, by decide, fun y6 G5 y7 y8 B6 k6 => ?_⟩
    have nq : q ≠ b := B5.nb hq
    have hq5 := k6 q _ upd_same nq
    obtain ⟨u, hu, cu⟩ := pick3 (x := .int (if tj + r - 9 > 0 then tj + r - 9 else 0)) (y := .int y1) (z := .int y3) y7 y8
    refine .inl ⟨q, _, y6, u, rfl, rfl, SqL.of hq5, hu, ?_⟩
    have k46 := k4.trans (k5.trans ((kp_new hq).trans k6))
    have hf6 := k46 f _ hf3 (nb hf0)
    have hp6 := k46 p _ hp3 (nb hp)
    refine ⟨f, _, u, rfl, rfl, hf6, small1000 (by rw [List.length_map]; omega), ?_⟩
    have e10 : (10 : Int) ^ (30 : Int).toNat = 10 ^ 30 := rfl
    have lim : (10 : Int) ^ 30 ≤ 10 ^ 60 := by decide
    have lim2 : (10 : Int) ^ 50 + 100 ≤ 10 ^ 60 := by decide
    obtain ⟨z, rfl, hz⟩ : ∃ z, u = .int z ∧ 0 ≤ z ∧ z ≤ 10 ^ 60 := by
      rcases cu with rfl | rfl | rfl
      · refine ⟨_, rfl, ?_⟩
        split <;> omega
      · exact ⟨_, rfl, y0, by rw [e10] at y2; omega⟩
      · exact ⟨_, rfl, y4, by omega⟩
    refine ⟨_, _, ns ++ [z], rfl, (B6).put (nb hf0).symm (B.nl hf0).symm, (k13.trans k46).other hf0, by rw [upd_ne npf]; exact hp6, ?_, ?_, ?_⟩
    · rw [upd_same, List.map_append]; rfl
    · rw [List.length_append, hl]; rfl
    · intro y hy
      rcases List.mem_append.mp hy with hy | hy
      · exact hn y hy
      · rw [List.mem_singleton.mp hy]; exact hz
  · rintro σ' G' ⟨c1, c2, ns, rfl, B1, k1, hp1, hf1, hl, hn⟩
    exact ⟨_, rfl, k f ns G' hf0 hf1 hl hn B1 k1⟩
end
end Pk
set_option Elab.async false
set_option linter.all false
set_option maxRecDepth 100000
set_option maxHeartbeats 2000000
namespace Pk
open PySem PySem.Spec L2 PyProof.Rows
/-- the law: of a list of at most 63 ints it gives True -/
def sp_law (K : PySem.W.Frag) : Sp := fun vs H Q _ => ∃ (a : Addr) (ns : List Int), vs = [.ref a] ∧ SqL K H a (ns.map V.int) ∧ ns.length ≤ 63 ∧ ∀ H', Q (.bl true) H'
theorem ln_law {K : PySem.W.Frag} {vs : List V} {H : Hp} {Q : VK} {E : XK} (h : sp_law K vs H Q E) : vs.length = 1 := by obtain ⟨_, _, rfl, _⟩ := h; rfl
/-! ### data that is shown -/
theorem small_log {n : Int} (h : n.natAbs ≤ 10 ^ 100) : decide (n.natAbs.log2 < 1920) = true := by
  refine decide_eq_true ?_
  have h2 : n.natAbs < 2 ^ 1920 := by
    have z2 : (10 : Nat) ^ 100 < 2 ^ 1920 := by decide +kernel
    omega
  by_cases e : n.natAbs = 0
  · rw [e]; decide
  · exact (Nat.log2_lt e).mpr h2
theorem good_int {n : Int} (h : n.natAbs ≤ 10 ^ 100) : Good (.int n) := ⟨rfl, small_log h, by simp [siz]⟩
theorem good_bool (b : Bool) : Good (.bool b) := ⟨rfl, rfl, by cases b <;> decide⟩
theorem good_none : Good .none := ⟨rfl, rfl, by decide⟩
theorem shaped_iff {d : PyData} : SeqAt.shaped d = true ↔ d.canLay0 = true ∧ d.depth ≤ 64 := by
  constructor
  · intro h; exact ⟨SeqAt.canLay_of_shaped h, SeqAt.depth_of_shaped h⟩
  · rintro ⟨h1, h2⟩
    show (d.canLay0 && decide (d.depth ≤ 64)) = true
    rw [h1, decide_eq_true h2]; rfl
/-- items of a list or tuple: each one good to a depth and a size -/
structure GoodTo (n m : Nat) (d : PyData) : Prop where
  lay : d.canLay0 = true
  dep : d.depth ≤ n
  wr : d.showable = true
  sz : siz d ≤ m
theorem GoodTo.good {n m : Nat} {d : PyData} (g : GoodTo n m d) (h1 : n ≤ 64 := by decide) (h2 : m ≤ 16000000 := by decide) : Good d :=
  ⟨shaped_iff.mpr ⟨g.lay, Nat.le_trans g.dep h1⟩, g.wr, Nat.le_trans g.sz h2⟩
theorem GoodTo.mono {n m n' m' : Nat} {d : PyData} (g : GoodTo n m d) (h1 : n ≤ n' := by omega) (h2 : m ≤ m' := by omega) : GoodTo n' m' d := ⟨g.lay, Nat.le_trans g.dep h1, g.wr, Nat.le_trans g.sz h2⟩
theorem gt_int {n : Int} (h : n.natAbs ≤ 10 ^ 100) : GoodTo 0 2000 (.int n) := ⟨rfl, by simp [PyData.depth], small_log h, by simp [siz]⟩
theorem gt_bool (b : Bool) : GoodTo 0 8 (.bool b) := ⟨rfl, by simp [PyData.depth], rfl, by simp [siz]⟩
theorem gt_none : GoodTo 0 8 .none := ⟨rfl, by simp [PyData.depth], rfl, by simp [siz]⟩
theorem gt_tree {T : Tr} (h : T.ok) : GoodTo T.lv (5000 * T.lv) T.pd := ⟨T.pd_lay, Nat.le_trans T.pd_depth T.dp_le, T.pd_show h, by have := T.pd_siz; omega⟩
/-- all items of a list good -/
structure AllTo (n m : Nat) (ds : List PyData) : Prop where
  lay : PyData.canLayAll0 ds = true
  dep : PyData.depthAll ds ≤ n
  wr : PyData.showableAll ds = true
  sz : sizL ds ≤ m
theorem at_nil : AllTo 0 0 [] := ⟨rfl, by simp [PyData.depthAll], rfl, by simp [sizL]⟩
theorem at_cons {n m k j : Nat} {d : PyData} {ds : List PyData} (g : GoodTo n m d) (a : AllTo k j ds) : AllTo (max n k) (m + 4 + j) (d :: ds) := by
  refine ⟨?_, ?_, ?_, ?_⟩
  · simp only [PyData.canLayAll0, g.lay, a.lay, Bool.and_self]
  · have h1 := g.dep
    have h2 := a.dep
    simp only [PyData.depthAll]
    omega
  · simp only [PyData.showableAll, g.wr, a.wr, Bool.and_self]
  · have h1 := g.sz
    have h2 := a.sz
    simp only [sizL]
    omega
theorem gt_list {n m : Nat} {ds : List PyData} (a : AllTo n m ds) : GoodTo (n + 1) (8 + m) (.list ds) := by
  refine ⟨?_, ?_, ?_, ?_⟩
  · simp only [PyData.canLay0]; exact a.lay
  · have := a.dep
    simp only [PyData.depth]; omega
  · simp only [PyData.showable]; exact a.wr
  · have := a.sz
    simp only [siz]; omega
theorem gt_tuple {n m : Nat} {ds : List PyData} (a : AllTo n m ds) : GoodTo (n + 1) (8 + m) (.tuple ds) := by
  refine ⟨?_, ?_, ?_, ?_⟩
  · simp only [PyData.canLay0]; exact a.lay
  · have := a.dep
    simp only [PyData.depth]; omega
  · simp only [PyData.showable]; exact a.wr
  · have := a.sz
    simp only [siz]; omega
theorem Tr.give_le : ∀ {T : Tr} {i : Int}, T.ok → 0 ≤ i → 0 ≤ T.give i ∧ T.give i ≤ i
  | .at t q, i, h, h0 => by
    obtain ⟨h1, h2, h3, h4⟩ := h
    show 0 ≤ (if t ≤ i then i - i % q else 0) ∧ (if t ≤ i then i - i % q else 0) ≤ i
    have e1 := Int.emod_nonneg i (show q ≠ 0 by omega)
    have e2 : 0 ≤ q * (i / q) := Int.mul_nonneg (by omega) (Int.ediv_nonneg h0 (by omega))
    have e3 := Int.emod_def i q
    split <;> omega
  | .or a b, i, h, h0 => by
    have q1 := give_le h.1 h0
    have q2 := give_le h.2 h0
    rw [Tr.give_or]
    split <;> omega
  | .and a b, i, h, h0 => by
    have q1 := give_le h.1 h0
    have q2 := give_le h.2 h0
    rw [Tr.give_and]
    split <;> omega
/-! ### the drawn scale -/
theorem scale_text : ∀ n : Nat, n < 31 → PySem.intText? ("1" ++ Txt.mul "0" (n : Int)) = some (10 ^ n) ∧ (("1" : Str) ++ Txt.mul "0" (n : Int)).length ≤ 640 ∧ (Txt.mul "0" (n : Int)).length ≤ 100 := by decide +kernel
end Pk
set_option Elab.async false
set_option linter.all false
set_option maxRecDepth 100000
set_option maxHeartbeats 2000000
namespace Pk
open PySem PySem.Spec L2 PyProof.Rows
section
variable {K : PySem.W.Frag} {C : Cs} {vs : List V} {H H' G G' : Hp} {Q : VK} {E : XK} {n : Nat}
theorem Kp.free {b D : Addr} {ys : List V} (k : Kp b H G) (hb : G b = some (.lst ys)) (h : G D = none) : H D = none := by
  cases e : H D with
  | none => rfl
  | some o =>
    by_cases q : D = b
    · rw [q, hb] at h; cases h
    · rw [k D o e q] at h; cases h
theorem Kp.freeB {b l D : Addr} (k : Kp b H G) (B : Bag G b l) (h : G D = none) : H D = none := by
  obtain ⟨ys, hb⟩ := B.at
  exact k.free hb h
/-- scale = int('1' + '0' * take(bag, 31)) -/
theorem scale_asg {i j : Nat} {D : Ends} {σ : L2.St} {b l : Addr} (hv : σ[i]? = some (some (.ref b))) (B : Bag H b l) (k : ∀ sc H', 1 ≤ sc → sc ≤ 10 ^ 30 → Bag H' b l → Kp b H H' → D.nx (σ.set j (some (.int sc))) H') :
    tAsg (tCB (rIntU) (tCons (tOp (rAddU K) (tC (.str "1")) (tOp (rMulU K) (tC (.str "0")) (tCall (sp_law_take K) [] E0 (tCons (tVar i) (tCons (tC (.int 31)) tNil))))) tNil)) (gName j) D σ H := by
  refine ⟨_, hv, b, l, 31, rfl, B, by decide, by decide, fun e H2 e0 e1 B1 k1 => ?_⟩
  obtain ⟨m, rfl⟩ : ∃ m : Nat, e = (m : Int) := ⟨e.toNat, by omega⟩
  obtain ⟨q1, q2, q3⟩ := scale_text m (by omega)
  refine .inr (.inl ⟨_, _, rfl, rfl, by decide, by omega, by omega, .inr (.inl ⟨_, _, rfl, rfl, ?_, .inr ⟨_, _, rfl, q1, q2, ?_⟩⟩)⟩)
  · have e : ((Str.ofString "1").length) = 1 := rfl
    exact Nat.le_of_lt (small1000 (by omega))
  have sc1 : (1 : Int) ≤ 10 ^ m := Int.pow_pos (by decide)
  have sc2 : (10 : Int) ^ m ≤ 10 ^ 30 := by
    have h := Nat.pow_le_pow_right (n := 10) (by decide) (show m ≤ 30 by omega)
    exact_mod_cast h
  exact k _ _ sc1 sc2 B1 k1
/-! ### thresholds -/
def imin (i j : Int) : Int := if j < i then j else i
def Tr.top : Tr → Int
  | .at t q => imax t q
  | .or a b => imin (top a) (top b)
  | .and a b => imax (top a) (top b)
def Tr.by_ : Tr → List Int
  | .at _ q => [q]
  | .or a b => by_ a ++ by_ b
  | .and a b => by_ a ++ by_ b
theorem Tr.by_len : ∀ T : Tr, T.by_.length = T.lv
  | .at _ _ => rfl
  | .or a b => by show (by_ a ++ by_ b).length = _; rw [List.length_append, by_len a, by_len b]; rfl
  | .and a b => by show (by_ a ++ by_ b).length = _; rw [List.length_append, by_len a, by_len b]; rfl
theorem Tr.by_ok : ∀ {T : Tr}, T.ok → ∀ q ∈ T.by_, 1 ≤ q ∧ q ≤ 6
  | .at t q, h, i, hi => by
    obtain ⟨h1, h2, h3, h4⟩ := h
    rw [List.mem_singleton.mp hi]
    exact ⟨h3, h4⟩
  | .or a b, h, i, hi => (List.mem_append.mp hi).elim (by_ok h.1 i) (by_ok h.2 i)
  | .and a b, h, i, hi => (List.mem_append.mp hi).elim (by_ok h.1 i) (by_ok h.2 i)
theorem Tr.top_ok : ∀ {T : Tr}, T.ok → 1 ≤ T.top ∧ T.top ≤ 10 ^ 50
  | .at t q, h => by
    obtain ⟨h1, h2, h3, h4⟩ := h
    show 1 ≤ imax t q ∧ imax t q ≤ 10 ^ 50
    unfold imax
    split <;> omega
  | .or a b, h => by
    have h1 := top_ok h.1
    have h2 := top_ok h.2
    show 1 ≤ imin a.top b.top ∧ imin a.top b.top ≤ 10 ^ 50
    unfold imin
    split <;> omega
  | .and a b, h => by
    have h1 := top_ok h.1
    have h2 := top_ok h.2
    show 1 ≤ imax a.top b.top ∧ imax a.top b.top ≤ 10 ^ 50
    unfold imax
    split <;> omega
/-- [5]: what rests is below the threshold; nothing is given just below it -/
theorem Tr.rest_lt : ∀ {T : Tr} {i : Int}, T.ok → 0 ≤ i → i - T.give i < T.top ∧ (T.give i = 0 ↔ i < T.top)
  | .at t q, i, h, h0 => by
    obtain ⟨h1, h2, h3, h4⟩ := h
    have e1 := Int.emod_nonneg i (show q ≠ 0 by omega)
    have e2 := Int.emod_lt_of_pos i (show 0 < q by omega)
    have eg : (Tr.at t q).give i = if t ≤ i then i - i % q else 0 := rfl
    have et : (Tr.at t q).top = imax t q := rfl
    rw [eg, et]
    unfold imax
    by_cases c : t ≤ i
    · rw [if_pos c]
      have e3 : i < q → i % q = i := fun z => Int.emod_eq_of_lt h0 z
      constructor
      · split <;> omega
      · constructor
        · intro z
          split <;> omega
        · intro z
          split at z
          · have := e3 z; omega
          · omega
    · rw [if_neg c]
      constructor
      · split <;> omega
      · constructor
        · intro _
          split <;> omega
        · intro _; rfl
  | .or a b, i, h, h0 => by
    have q1 := rest_lt h.1 h0
    have q2 := rest_lt h.2 h0
    have g1 := Tr.give_le h.1 h0
    have g2 := Tr.give_le h.2 h0
    have et : (Tr.or a b).top = imin a.top b.top := rfl
    rw [Tr.give_or, et]
    unfold imin
    obtain ⟨r1, s1⟩ := q1
    obtain ⟨r2, s2⟩ := q2
    constructor
    · split <;> split <;> omega
    · constructor
      · intro z
        split at z <;> split <;> omega
      · intro z
        split at z <;> split <;> omega
  | .and a b, i, h, h0 => by
    have q1 := rest_lt h.1 h0
    have q2 := rest_lt h.2 h0
    have g1 := Tr.give_le h.1 h0
    have g2 := Tr.give_le h.2 h0
    have et : (Tr.and a b).top = imax a.top b.top := rfl
    rw [Tr.give_and, et]
    unfold imax
    obtain ⟨r1, s1⟩ := q1
    obtain ⟨r2, s2⟩ := q2
    constructor
    · split <;> split <;> omega
    · constructor
      · intro z
        split at z <;> split <;> omega
      · intro z
        split at z <;> split <;> omega
/-- from the threshold on a remainder by one of the multiples rests -/
theorem Tr.rest_by : ∀ {T : Tr} {i : Int}, T.ok → 0 ≤ i → T.top ≤ i → ∃ q ∈ T.by_, i - T.give i = i % q
  | .at t q, i, h, h0, hi => by
    obtain ⟨h1, h2, h3, h4⟩ := h
    have et : (Tr.at t q).top = imax t q := rfl
    have eg : (Tr.at t q).give i = if t ≤ i then i - i % q else 0 := rfl
    rw [et] at hi
    unfold imax at hi
    refine ⟨q, List.mem_singleton.mpr rfl, ?_⟩
    rw [eg, if_pos (by split at hi <;> omega)]
    omega
  | .or a b, i, h, h0, hi => by
    have q1 := rest_lt h.1 h0
    have q2 := rest_lt h.2 h0
    have g1 := Tr.give_le h.1 h0
    have g2 := Tr.give_le h.2 h0
    have et : (Tr.or a b).top = imin a.top b.top := rfl
    rw [et] at hi
    unfold imin at hi
    rw [Tr.give_or]
    have left : a.top ≤ i → ∃ q ∈ (Tr.or a b).by_, i - a.give i = i % q := fun z => by
      obtain ⟨q, m, e⟩ := rest_by h.1 h0 z
      exact ⟨q, List.mem_append_left _ m, e⟩
    have right : b.top ≤ i → ∃ q ∈ (Tr.or a b).by_, i - b.give i = i % q := fun z => by
      obtain ⟨q, m, e⟩ := rest_by h.2 h0 z
      exact ⟨q, List.mem_append_right _ m, e⟩
    obtain ⟨r1, s1⟩ := q1
    obtain ⟨r2, s2⟩ := q2
    by_cases c : b.give i > a.give i
    · rw [if_pos c]
      exact right (by omega)
    · rw [if_neg c]
      refine left ?_
      split at hi <;> omega
  | .and a b, i, h, h0, hi => by
    have g1 := Tr.give_le h.1 h0
    have g2 := Tr.give_le h.2 h0
    have et : (Tr.and a b).top = imax a.top b.top := rfl
    rw [et] at hi
    unfold imax at hi
    rw [Tr.give_and]
    by_cases c : b.give i < a.give i
    · rw [if_pos c]
      obtain ⟨q, m, e⟩ := rest_by h.2 h0 (show b.top ≤ i by split at hi <;> omega)
      exact ⟨q, List.mem_append_right _ m, e⟩
    · rw [if_neg c]
      obtain ⟨q, m, e⟩ := rest_by h.1 h0 (show a.top ≤ i by split at hi <;> omega)
      exact ⟨q, List.mem_append_left _ m, e⟩
def sp_threshold_of (K : PySem.W.Frag) (n : Nat) : Sp := fun vs H Q _ => ∃ v T, vs = [v] ∧ TrAt K H v T ∧ T.dp ≤ n ∧ Q (.int T.top) H
def t_threshold_of (K : PySem.W.Frag) (n : Nat) : TS :=
  (tSeq (tAsg (tVar 0) (gTup K 3 (gCons (gName 1) (gCons (gName 2) (gCons (gName 3) gNil)))))
    (tSeq (tIfS (tTest (tOp (rEqU K) (tVar 1) (tC (.str "at")))) (tRet (tCB (rMax2) (tCons (tVar 2) (tCons (tVar 3) tNil)))) tNext)
    (tSeq (tIfS (tTest (tOp (rEqU K) (tVar 1) (tC (.str "or")))) (tRet (tCB (rMin2) (tCons (tCall (sp_threshold_of K n) [] E0 (tCons (tVar 2) tNil)) (tCons (tCall (sp_threshold_of K n) [] E0 (tCons (tVar 3) tNil)) tNil)))) tNext)
    (tRet (tCB (rMax2) (tCons (tCall (sp_threshold_of K n) [] E0 (tCons (tVar 2) tNil)) (tCons (tCall (sp_threshold_of K n) [] E0 (tCons (tVar 3) tNil)) tNil)))))))
theorem no_threshold_of (h : sp_threshold_of K 0 vs H Q E) : False := by
  obtain ⟨_, T, _, _, h, _⟩ := h
  have := T.dp_pos
  omega
theorem ln_threshold_of (h : sp_threshold_of K n vs H Q E) : vs.length = 1 := by obtain ⟨_, _, rfl, _⟩ := h; rfl
theorem rd_threshold_of (h : sp_threshold_of K (n + 1) vs H Q E) : t_threshold_of K n (EndsOf Q) (start ["", "", "", ""] vs) H := by
  obtain ⟨v, T, rfl, hT, hd, k⟩ := h
  obtain ⟨a, w, x, y, rfl, s, cw⟩ := hT.tuple
  refine ⟨_, rfl, g3 s ?_⟩
  refine ⟨_, rfl, .inl ⟨rfl, _, rfl, ?_⟩⟩
  rcases cw with ⟨rfl, t, q, rfl, rfl, rfl⟩ | ⟨rfl, A, B, rfl, hA, hB⟩ | ⟨rfl, A, B, rfl, hA, hB⟩
  · refine ifS (fun _ => ?_) (fun z => absurd rfl z)
    exact ⟨_, rfl, _, rfl, _, _, rfl, k⟩
  · refine ifS (fun z => absurd z or_at) (fun _ => ?_)
    refine ⟨_, rfl, .inl ⟨rfl, _, rfl, ?_⟩⟩
    refine ifS (fun _ => ?_) (fun z => absurd rfl z)
    have hd' : max A.dp B.dp + 1 ≤ n + 1 := hd
    exact ⟨_, rfl, x, A, rfl, hA, by omega, _, rfl, y, B, rfl, hB, by omega, _, _, rfl, k⟩
  · refine ifS (fun z => absurd z and_at) (fun _ => ?_)
    refine ⟨_, rfl, .inl ⟨rfl, _, rfl, ?_⟩⟩
    refine ifS (fun z => absurd z and_or) (fun _ => ?_)
    have hd' : max A.dp B.dp + 1 ≤ n + 1 := hd
    exact ⟨_, rfl, x, A, rfl, hA, by omega, _, rfl, y, B, rfl, hB, by omega, _, _, rfl, k⟩
def sp_Rule_threshold (K : PySem.W.Frag) (C : Cs) : Sp := fun vs H Q _ => ∃ v T, vs = [v] ∧ RuleAt K C H v T ∧ Q (.int T.top) H
def t_Rule_threshold (K : PySem.W.Frag) : TS :=
  (tRet (tCall (sp_threshold_of K 7) [] E0 (tCons (tFld K (tVar 0) "_tree") tNil)))
theorem ln_Rule_threshold (h : sp_Rule_threshold K C vs H Q E) : vs.length = 1 := by obtain ⟨_, _, rfl, _⟩ := h; rfl
theorem rd_Rule_threshold (h : sp_Rule_threshold K C vs H Q E) : t_Rule_threshold K (EndsOf Q) (start [""] vs) H := by
  obtain ⟨v, T, rfl, ⟨a, dx, u, rfl, ha, hT, ok, l6, fx⟩, k⟩ := h
  exact ⟨_, rfl, a, _, dx, _, u, rfl, ha, fx.cl, fx.no, rfl, u, T, rfl, hT, Tr.dp6 l6, k⟩
def sp_law_threshold (K : PySem.W.Frag) (n : Nat) : Sp := fun vs H Q _ => ∃ v T, vs = [v] ∧ TrAt K H v T ∧ T.dp ≤ n ∧ ∀ H', Same H H' → Q (.int T.top) H'
def t_law_threshold (K : PySem.W.Frag) (n : Nat) : TS :=
  (tSeq (tAsg (tVar 0) (gTup K 3 (gCons (gName 1) (gCons (gName 2) (gCons (gName 3) gNil)))))
    (tSeq (tIfS (tTest (tOp (rEqU K) (tVar 1) (tC (.str "at")))) (tRet (tCB (rMax2) (tCons (tVar 2) (tCons (tVar 3) tNil)))) tNext)
    (tSeq (tAsg (tLst (tCons (tCall (sp_law_threshold K n) [] E0 (tCons (tVar 2) tNil)) (tCons (tCall (sp_law_threshold K n) [] E0 (tCons (tVar 3) tNil)) tNil))) (gName 4))
    (tRet (tIf (tTest (tOp (rEqU K) (tVar 1) (tC (.str "or")))) (tCB (rMin K) (tCons (tVar 4) tNil)) (tCB (rMax K) (tCons (tVar 4) tNil)))))))
theorem no_law_threshold (h : sp_law_threshold K 0 vs H Q E) : False := by
  obtain ⟨_, T, _, _, h, _⟩ := h
  have := T.dp_pos
  omega
theorem ln_law_threshold (h : sp_law_threshold K n vs H Q E) : vs.length = 1 := by obtain ⟨_, _, rfl, _⟩ := h; rfl
theorem two_max {x y m : Int} (hm : m ∈ [x, y]) (hy : ∀ z, z ∈ [x, y] → z ≤ m) : m = imax x y := by
  have h1 := hy x (List.mem_cons_self ..)
  have h2 := hy y (List.mem_cons_of_mem _ (List.mem_cons_self ..))
  unfold imax
  rcases List.mem_cons.mp hm with rfl | hm
  · split <;> omega
  · have := List.mem_singleton.mp hm
    split <;> omega
theorem two_min {x y m : Int} (hm : m ∈ [x, y]) (hy : ∀ z, z ∈ [x, y] → m ≤ z) : m = imin x y := by
  have h1 := hy x (List.mem_cons_self ..)
  have h2 := hy y (List.mem_cons_of_mem _ (List.mem_cons_self ..))
  unfold imin
  rcases List.mem_cons.mp hm with rfl | hm
  · split <;> omega
  · have := List.mem_singleton.mp hm
    split <;> omega
theorem rd_law_threshold (h : sp_law_threshold K (n + 1) vs H Q E) : t_law_threshold K n (EndsOf Q) (start ["", "", "", "", ""] vs) H := by
  obtain ⟨v, T, rfl, hT, hd, k⟩ := h
  obtain ⟨a, w, x, y, rfl, s, cw⟩ := hT.tuple
  refine ⟨_, rfl, g3 s ?_⟩
  refine ⟨_, rfl, .inl ⟨rfl, _, rfl, ?_⟩⟩
  rcases cw with ⟨rfl, t, q, rfl, rfl, rfl⟩ | ⟨rfl, A, B, rfl, hA, hB⟩ | ⟨rfl, A, B, rfl, hA, hB⟩
  · refine ifS (fun _ => ?_) (fun z => absurd rfl z)
    exact ⟨_, rfl, _, rfl, _, _, rfl, k H (Same.refl H)⟩
  · refine ifS (fun z => absurd z or_at) (fun _ => ?_)
    have hd' : max A.dp B.dp + 1 ≤ n + 1 := hd
    refine ⟨_, rfl, x, A, rfl, hA, by omega, fun H1 s1 => ⟨_, rfl, y, B, rfl, hB.mono (Tups.same s1), by omega, fun H2 s2 => ⟨two_fit.2.1, fun p hp => ?_⟩⟩⟩
    refine ⟨_, rfl, .inl ⟨rfl, _, rfl, ?_⟩⟩
    refine ifS (fun _ => ?_) (fun z => absurd rfl z)
    refine ⟨_, rfl, p, [A.top, B.top], rfl, SqL.of upd_same, Nat.succ_pos _, fun m hm hy => ?_⟩
    rw [two_min hm hy]
    exact k _ ((s1.trans s2).trans (same_new hp))
  · refine ifS (fun z => absurd z and_at) (fun _ => ?_)
    have hd' : max A.dp B.dp + 1 ≤ n + 1 := hd
    refine ⟨_, rfl, x, A, rfl, hA, by omega, fun H1 s1 => ⟨_, rfl, y, B, rfl, hB.mono (Tups.same s1), by omega, fun H2 s2 => ⟨two_fit.2.1, fun p hp => ?_⟩⟩⟩
    refine ⟨_, rfl, .inl ⟨rfl, _, rfl, ?_⟩⟩
    refine ifS (fun z => absurd z and_or) (fun _ => ?_)
    refine ⟨_, rfl, p, [A.top, B.top], rfl, SqL.of upd_same, Nat.succ_pos _, fun m hm hy => ?_⟩
    rw [two_max hm hy]
    exact k _ ((s1.trans s2).trans (same_new hp))
def sp_law_parts_of (K : PySem.W.Frag) (n : Nat) : Sp := fun vs H Q _ => ∃ v T, vs = [v] ∧ TrAt K H v T ∧ T.dp ≤ n ∧ T.lv ≤ 100 ∧ ∀ p H', H p = none → Same H H' → H' p = some (.lst (T.by_.map V.int)) → Q (.ref p) H'
def t_law_parts_of (K : PySem.W.Frag) (n : Nat) : TS :=
  (tSeq (tAsg (tVar 0) (gTup K 3 (gCons (gName 1) (gCons (gName 2) (gCons (gName 3) gNil)))))
    (tRet (tIf (tTest (tOp (rEqU K) (tVar 1) (tC (.str "at")))) (tLst (tCons (tVar 3) tNil)) (tOp (rAddU K) (tCall (sp_law_parts_of K n) [] E0 (tCons (tVar 2) tNil)) (tCall (sp_law_parts_of K n) [] E0 (tCons (tVar 3) tNil))))))
theorem no_law_parts_of (h : sp_law_parts_of K 0 vs H Q E) : False := by
  obtain ⟨_, T, _, _, h, _⟩ := h
  have := T.dp_pos
  omega
theorem ln_law_parts_of (h : sp_law_parts_of K n vs H Q E) : vs.length = 1 := by obtain ⟨_, _, rfl, _⟩ := h; rfl
theorem rd_law_parts_of (h : sp_law_parts_of K (n + 1) vs H Q E) : t_law_parts_of K n (EndsOf Q) (start ["", "", "", ""] vs) H := by
  obtain ⟨v, T, rfl, hT, hd, hl, k⟩ := h
  obtain ⟨a, w, x, y, rfl, s, cw⟩ := hT.tuple
  refine ⟨_, rfl, g3 s ?_⟩
  refine ⟨_, rfl, .inl ⟨rfl, _, rfl, ?_⟩⟩
  have two : ∀ {A B : Tr}, T.by_ = A.by_ ++ B.by_ → T.lv = A.lv + B.lv → max A.dp B.dp + 1 ≤ n + 1 → TrAt K H x A → TrAt K H y B →
      tOp (rAddU K) (tCall (sp_law_parts_of K n) [] E0 (tCons (tVar 2) tNil)) (tCall (sp_law_parts_of K n) [] E0 (tCons (tVar 3) tNil)) [some (.ref a), some (.str w), some x, some y] H Q := by
    intro A B e1 e2 hd' hA hB
    refine ⟨_, rfl, x, A, rfl, hA, by omega, by omega, fun p H1 hp s1 h1 => ?_⟩
    refine ⟨_, rfl, y, B, rfl, hB.mono (Tups.same s1), by omega, by omega, fun p2 H2 hp2 s2 h2 => ?_⟩
    refine .inr (.inr (.inl ⟨p, p2, _, _, rfl, rfl, s2 _ _ h1, h2, ?_, fun r hr => ?_⟩))
    · rw [List.length_map, List.length_map, A.by_len, B.by_len]
      exact Nat.le_of_lt (small1000 (by omega))
    · refine k r _ ((s1.trans s2).free hr) ((s1.trans s2).trans (same_new hr)) ?_
      rw [upd_same, e1, List.map_append]
  rcases cw with ⟨rfl, t, q, rfl, rfl, rfl⟩ | ⟨rfl, A, B, rfl, hA, hB⟩ | ⟨rfl, A, B, rfl, hA, hB⟩
  · refine ifS (fun _ => ?_) (fun z => absurd rfl z)
    exact ⟨_, rfl, two_fit.1, fun p hp => k p _ hp (same_new hp) upd_same⟩
  · refine ifS (fun z => absurd z or_at) (fun _ => ?_)
    exact two rfl rfl hd hA hB
  · refine ifS (fun z => absurd z and_at) (fun _ => ?_)
    exact two rfl rfl hd hA hB
theorem inV_int {r : Int} {ns : List Int} (h : r ∈ ns) : inV (.int r) (ns.map V.int) = true := by
  unfold inV
  rw [List.any_map]
  exact List.any_eq_true.mpr ⟨r, h, by show (r == r) = true; exact beq_self_eq_true r⟩
theorem flat_ints (ns : List Int) : (ns.map V.int).all flatV = true := by
  induction ns with
  | nil => rfl
  | cons x r ih => exact ih
end
end Pk
set_option Elab.async false
set_option linter.all false
set_option maxRecDepth 100000
set_option maxHeartbeats 2000000
namespace Pk
open PySem PySem.Spec L2 PyProof.Rows
/-! ### amounts of one size, one after another -/
/-- what is withheld behind so many amounts of size z -/
def Tr.kp (T : Tr) (z w : Int) : Nat → Int
  | 0 => w
  | n + 1 => (kp T z w n + z) - T.give (kp T z w n + z)
/-- the greatest that is withheld ahead of one of them -/
def Tr.pk (T : Tr) (z w : Int) : Nat → Int
  | 0 => 0
  | n + 1 => max (pk T z w n) (kp T z w n)
section
variable {T : Tr} {z w : Int}
theorem Tr.kp_s (n : Nat) : T.kp z w (n + 1) = (T.kp z w n + z) - T.give (T.kp z w n + z) := rfl
theorem Tr.pk_s (n : Nat) : T.pk z w (n + 1) = max (T.pk z w n) (T.kp z w n) := rfl
theorem Tr.kp_add (n : Nat) : ∀ m : Nat, T.kp z w (n + m) = T.kp z (T.kp z w n) m
  | 0 => rfl
  | m + 1 => by
    show (T.kp z w (n + m) + z) - T.give (T.kp z w (n + m) + z) = _
    rw [kp_add n m]
    rfl
theorem Tr.pk_nn : ∀ n : Nat, 0 ≤ T.pk z w n
  | 0 => Int.le_refl _
  | n + 1 => by
    have := pk_nn n
    show 0 ≤ max (T.pk z w n) (T.kp z w n)
    omega
theorem Tr.pk_add (n : Nat) : ∀ m : Nat, T.pk z w (n + m) = max (T.pk z w n) (T.pk z (T.kp z w n) m)
  | 0 => by
    have := Tr.pk_nn (T := T) (z := z) (w := w) n
    show T.pk z w n = max (T.pk z w n) 0
    omega
  | m + 1 => by
    show max (T.pk z w (n + m)) (T.kp z w (n + m)) = max (T.pk z w n) (max (T.pk z (T.kp z w n) m) (T.kp z (T.kp z w n) m))
    rw [pk_add n m, Tr.kp_add]
    omega
theorem Tr.kp_ok (ok : T.ok) (z1 : 1 ≤ z) (w0 : 0 ≤ w) (w1 : w < T.top) : ∀ n : Nat, 0 ≤ T.kp z w n ∧ T.kp z w n < T.top
  | 0 => ⟨w0, w1⟩
  | n + 1 => by
    obtain ⟨h1, h2⟩ := kp_ok ok z1 w0 w1 n
    have g := Tr.give_le ok (show 0 ≤ T.kp z w n + z by omega)
    have r := Tr.rest_lt ok (show 0 ≤ T.kp z w n + z by omega)
    rw [Tr.kp_s]
    omega
theorem Tr.pk_lt (ok : T.ok) (z1 : 1 ≤ z) (w0 : 0 ≤ w) (w1 : w < T.top) : ∀ n : Nat, T.pk z w n < T.top
  | 0 => by
    show 0 < T.top
    omega
  | n + 1 => by
    have h := pk_lt ok z1 w0 w1 n
    have h2 := Tr.kp_ok ok z1 w0 w1 n
    rw [Tr.pk_s]
    omega
theorem Tr.kp_le (ok : T.ok) (z1 : 1 ≤ z) (w0 : 0 ≤ w) : ∀ n : Nat, 0 ≤ T.kp z w n ∧ T.kp z w n ≤ w + n * z
  | 0 => by
    show 0 ≤ w ∧ w ≤ w + 0 * z
    omega
  | n + 1 => by
    obtain ⟨h1, h2⟩ := kp_le ok z1 w0 n
    have g := Tr.give_le ok (show 0 ≤ T.kp z w n + z by omega)
    rw [Tr.kp_s, Int.natCast_add, Int.add_mul]
    omega
theorem Tr.kp_few (ok : T.ok) (z1 : 1 ≤ z) (w0 : 0 ≤ w) : ∀ n : Nat, w + (n : Int) * z < T.top → T.kp z w n = w + n * z ∧ T.pk z w (n + 1) = w + n * z
  | 0, h => by
    show w = w + 0 * z ∧ max 0 w = w + 0 * z
    omega
  | n + 1, h => by
    have e : ((n + 1 : Nat) : Int) * z = n * z + z := by rw [Int.natCast_add, Int.add_mul]; omega
    have nz : 0 ≤ (n : Int) * z := Int.mul_nonneg (by omega) (by omega)
    rw [e] at h ⊢
    obtain ⟨h1, h2⟩ := kp_few ok z1 w0 n (by omega)
    have r := (Tr.rest_lt ok (show 0 ≤ w + n * z + z by omega)).2.mpr (by omega)
    have e1 : T.kp z w (n + 1) = w + (n * z + z) := by
      rw [Tr.kp_s, h1, r]
      omega
    refine ⟨e1, ?_⟩
    rw [Tr.pk_s, h2, e1]
    omega
theorem Tr.kp_loop {d : Nat} (h : T.kp z w d = w) : ∀ t : Nat, T.kp z w (t * d) = w ∧ T.pk z w (t * d) ≤ T.pk z w d
  | 0 => by
    have := Tr.pk_nn (T := T) (z := z) (w := w) d
    rw [Nat.zero_mul]
    exact ⟨rfl, this⟩
  | t + 1 => by
    obtain ⟨h1, h2⟩ := kp_loop h t
    rw [Nat.succ_mul, Tr.kp_add, Tr.pk_add, h1, h]
    omega
end
/-- how many amounts, until the rule gives -/
theorem steps_ok {a z : Int} (h : 1 ≤ a) (z1 : 1 ≤ z) : 1 ≤ (a + z - 1) / z ∧ a ≤ (a + z - 1) / z * z ∧ ((a + z - 1) / z - 1) * z < a ∧ (a + z - 1) / z ≤ a + z - 1 := by
  have e := Int.emod_def (a + z - 1) z
  have r0 := Int.emod_nonneg (a + z - 1) (show z ≠ 0 by omega)
  have r1 := Int.emod_lt_of_pos (a + z - 1) (show 0 < z by omega)
  have s := Int.ediv_le_self z (show 0 ≤ a + z - 1 by omega)
  generalize (a + z - 1) / z = q at *
  have e2 : z * q = q * z := Int.mul_comm _ _
  have e3 : (q - 1) * z = q * z - z := by rw [Int.sub_mul]; omega
  refine ⟨?_, by omega, by omega, s⟩
  by_cases c : 1 ≤ q
  · exact c
  · have : q * z ≤ 0 := Int.mul_nonpos_of_nonpos_of_nonneg (by omega) (by omega)
    omega
theorem mul_ok {i j : Int} (h1 : i.natAbs ≤ 10 ^ 100) (h2 : j.natAbs ≤ 10 ^ 100) : CMul i j ∨ CMulW i j := by
  have z2 : (10 : Nat) ^ 100 < 2 ^ 1000 := by decide +kernel
  exact .inr (wide_mul (a := 1000) (b := 1000) (by omega) (by omega) (by decide) (by decide) (by decide))
/-- where the loop stands, by numbers alone -/
structure Rp (T : Tr) (z w : Int) (M L : Nat) (c t p : Int) : Prop where
  c0 : 0 ≤ c
  c1 : c < T.top
  p0 : 0 ≤ p
  le : L ≤ M
  kp : T.kp z w M = T.kp z c L
  tot : w + M * z = t + c + L * z
  pk : max w (T.pk z w M) = max p (T.pk z c L)
section
variable {T : Tr} {z w : Int} {M L : Nat} {c t p : Int}
theorem Rp.give (R : Rp T z w M L c t p) (ok : T.ok) (z1 : 1 ≤ z) {n : Nat} (h1 : c + n * z < T.top) (hL : n + 1 ≤ L) {c' : Int} (hc : c' = c + ((n + 1 : Nat) : Int) * z - T.give (c + ((n + 1 : Nat) : Int) * z)) :
    c' = T.kp z c (n + 1) ∧ T.pk z c (n + 1) = c + n * z ∧ Rp T z w M (L - (n + 1)) c' (t + (c + ((n + 1 : Nat) : Int) * z) - c') (max p (c + n * z)) := by
  obtain ⟨q1, q2⟩ := Tr.kp_few ok z1 R.c0 n h1
  have e : ((n + 1 : Nat) : Int) * z = n * z + z := by rw [Int.natCast_add, Int.add_mul]; omega
  have ec : c' = T.kp z c (n + 1) := by
    rw [Tr.kp_s, q1, hc, e, ← Int.add_assoc]
  obtain ⟨b0, b1⟩ := Tr.kp_ok ok z1 R.c0 R.c1 (n + 1)
  have el : ((L - (n + 1) : Nat) : Int) * z = L * z - ((n + 1 : Nat) : Int) * z := by
    rw [Int.ofNat_sub hL, Int.sub_mul]
  have sp : L = (n + 1) + (L - (n + 1)) := by omega
  refine ⟨ec, q2, ⟨by omega, by omega, ?_, by have := R.le; omega, ?_, ?_, ?_⟩⟩
  · have := R.p0; omega
  · rw [R.kp, ec, ← Tr.kp_add, ← sp]
  · have := R.tot
    rw [el]
    omega
  · rw [R.pk, ec]
    have h : T.pk z c L = max (T.pk z c (n + 1)) (T.pk z (T.kp z c (n + 1)) (L - (n + 1))) := by
      rw [← Tr.pk_add, ← sp]
    rw [h, q2]
    omega
theorem Rp.skip (R : Rp T z w M L c t p) {d : Nat} (hk : T.kp z c d = c) (hp : T.pk z c d ≤ p) (d1 : 1 ≤ d) : Rp T z w M (L - L / d * d) c (t + (((L / d * d : Nat) : Int)) * z) p := by
  have le : L / d * d ≤ L := Nat.div_mul_le_self L d
  obtain ⟨h1, h2⟩ := Tr.kp_loop hk (L / d)
  have sp : L = L / d * d + (L - L / d * d) := by omega
  refine ⟨R.c0, R.c1, R.p0, by have := R.le; omega, ?_, ?_, ?_⟩
  · have h : T.kp z c L = T.kp z (T.kp z c (L / d * d)) (L - L / d * d) := by rw [← Tr.kp_add, ← sp]
    rw [R.kp, h, h1]
  · have := R.tot
    rw [Int.ofNat_sub le, Int.sub_mul]
    omega
  · have h : T.pk z c L = max (T.pk z c (L / d * d)) (T.pk z (T.kp z c (L / d * d)) (L - L / d * d)) := by rw [← Tr.pk_add, ← sp]
    have := Tr.pk_nn (T := T) (z := z) (w := c) (L - L / d * d)
    rw [R.pk, h, h1]
    omega
end
/-! ### what was seen -/
def Seen (lo : Nat) (K : PySem.W.Frag) (T : Tr) (z : Int) (G : Hp) (kvs : List (Key × V)) (L : Nat) (c t p : Int) : Prop :=
  ∀ i v, valV kvs (.inl i) = some v → ∃ (a : Addr) (l' t' : Int) (e : Nat), v = .ref a ∧ SqT K G a [.int l', .int t'] ∧ l' = (L : Int) + e ∧ T.kp z i e = c ∧ i + e * z = t - t' + c ∧ T.pk z i e ≤ p ∧ lo ≤ e ∧ l' ≤ 10 ^ 40
section
variable {K : PySem.W.Frag} {T : Tr} {z w : Int} {M L : Nat} {c t p : Int} {G G' : Hp} {kvs : List (Key × V)}
theorem Seen.weak {lo : Nat} (S : Seen lo K T z G kvs L c t p) : Seen 0 K T z G kvs L c t p := fun i v h => by
  obtain ⟨a, l', t', e, h1, h2, h3, h4, h5, h6, h7, h8⟩ := S i v h
  exact ⟨a, l', t', e, h1, h2, h3, h4, h5, h6, Nat.zero_le _, h8⟩
theorem Seen.mono {lo : Nat} (S : Seen lo K T z G kvs L c t p) (s : Tups K G G') : Seen lo K T z G' kvs L c t p := fun i v h => by
  obtain ⟨a, l', t', e, h1, h2, r⟩ := S i v h
  exact ⟨a, l', t', e, h1, s _ _ h2, r⟩
/-- from here so many amounts on -/
theorem Seen.go {lo : Nat} (S : Seen lo K T z G kvs L c t p) {n : Nat} {c' t' p' : Int} (hL : n ≤ L) (hc : c' = T.kp z c n) (hp : p ≤ p') (hp2 : T.pk z c n ≤ p') (ht : c + n * z = t' - t + c') : Seen n K T z G kvs (L - n) c' t' p' := fun i v h => by
  obtain ⟨a, l', t0, e, h1, h2, h3, h4, h5, h6, h7, h8⟩ := S i v h
  refine ⟨a, l', t0, e + n, h1, h2, by omega, ?_, ?_, ?_, by omega, h8⟩
  · rw [Tr.kp_add, h4, hc]
  · rw [Int.natCast_add, Int.add_mul]
    omega
  · rw [Tr.pk_add, h4]
    omega
theorem Seen.put (S : Seen 0 K T z G kvs L c t p) (hp : 0 ≤ p) (hL : (L : Int) ≤ 10 ^ 40) {a : Addr} (ha : SqT K G a [.int L, .int t]) : Seen 0 K T z G (putK kvs (.inl c) (.ref a)) L c t p := fun i v h => by
  rw [valV_put] at h
  by_cases e : i = c
  · subst e
    rw [if_pos rfl] at h
    cases h
    exact ⟨a, L, t, 0, rfl, ha, by omega, rfl, by omega, hp, Nat.le_refl _, hL⟩
  · rw [if_neg (fun z => e (Sum.inl.inj z))] at h
    exact S i v h
def bit (o : Option V) : Nat := if o.isSome = true then 1 else 0
def cnt (kvs : List (Key × V)) : Nat := bit (valV kvs (.inl 0)) + bit (valV kvs (.inl 1)) + bit (valV kvs (.inl 2)) + bit (valV kvs (.inl 3)) + bit (valV kvs (.inl 4)) + bit (valV kvs (.inl 5))
theorem bit_le (o : Option V) : bit o ≤ 1 := by unfold bit; split <;> omega
theorem cnt_le (kvs : List (Key × V)) : cnt kvs ≤ 6 := by
  unfold cnt
  have h0 := bit_le (valV kvs (.inl 0))
  have h1 := bit_le (valV kvs (.inl 1))
  have h2 := bit_le (valV kvs (.inl 2))
  have h3 := bit_le (valV kvs (.inl 3))
  have h4 := bit_le (valV kvs (.inl 4))
  have h5 := bit_le (valV kvs (.inl 5))
  omega
theorem cnt_put {v : V} (h : valV kvs (.inl c) = none) (h0 : 0 ≤ c) (h1 : c < 6) (hl : kvs.length ≤ cnt kvs) : (putK kvs (.inl c) v).length ≤ cnt (putK kvs (.inl c) v) := by
  have e : (putK kvs (.inl c) v).length = kvs.length + 1 := by rw [putK_new v h, List.length_append]; rfl
  have b : ∀ j : Int, bit (valV (putK kvs (.inl c) v) (.inl j)) = if j = c then 1 else bit (valV kvs (.inl j)) := fun j => by
    rw [valV_put]
    by_cases q : j = c
    · rw [if_pos q, if_pos (congrArg Sum.inl q)]; rfl
    · rw [if_neg q, if_neg (fun z => q (Sum.inl.inj z))]
  have n : bit (valV kvs (.inl c)) = 0 := by rw [h]; rfl
  rw [e]
  unfold cnt at hl ⊢
  rw [b, b, b, b, b, b]
  rcases (by omega : c = 0 ∨ c = 1 ∨ c = 2 ∨ c = 3 ∨ c = 4 ∨ c = 5) with rfl | rfl | rfl | rfl | rfl | rfl <;> (simp only [if_true, reduceIte, Int.reduceEq] ; omega)
end
section
variable {K : PySem.W.Frag} {C : Cs} {vs : List V} {H H' G G' : Hp} {Q : VK} {E : XK} {n : Nat}
theorem g2 {i j : Nat} {a : Addr} {σ : L2.St} {R : L2.St → Hp → Prop} {x y : V} (s : SqT K H a [x, y]) (h : R ((σ.set i (some x)).set j (some y)) H) :
    gTup K 2 (gCons (gName i) (gCons (gName j) gNil)) (.ref a) σ H R := ⟨a, _, rfl, s, rfl, _, _, rfl, _, _, rfl, rfl, h⟩
def sp_steps_to_give (K : PySem.W.Frag) (C : Cs) : Sp := fun vs H Q _ => ∃ u T w z, vs = [u, .int w, .int z] ∧ RuleAt K C H u T ∧ 1 ≤ z ∧ z ≤ 10 ^ 40 ∧ Q (.int ((T.top - w + z - 1) / z)) H
def t_steps_to_give (K : PySem.W.Frag) (C : Cs) : TS :=
  (tRet (tOp (rDivI) (tOp (rSubI) (tOp (rAddU K) (tOp (rSubI) (tProp C.Rule (sp_Rule_threshold K C) [] E0 (tVar 0)) (tVar 1)) (tVar 2)) (tC (.int 1))) (tVar 2)))
theorem ln_steps_to_give (h : sp_steps_to_give K C vs H Q E) : vs.length = 3 := by obtain ⟨_, _, _, _, rfl, _⟩ := h; rfl
theorem rd_steps_to_give (h : sp_steps_to_give K C vs H Q E) : t_steps_to_give K C (EndsOf Q) (start ["", "", ""] vs) H := by
  obtain ⟨u, T, w, z, rfl, R, z1, z2, k⟩ := h
  obtain ⟨ua, ud, uu, rfl, hu1, _⟩ := id R
  refine ⟨_, rfl, ua, ud, _, rfl, hu1, _, T, rfl, R, _, rfl, _, _, rfl, rfl, _, rfl, .inl ⟨_, _, rfl, rfl, _, _, rfl, rfl, _, rfl, _, _, rfl, rfl, div_ok (by omega) (by omega), k⟩⟩
def sp_repeated (K : PySem.W.Frag) (C : Cs) : Sp := fun vs H Q _ => ∃ u T w z m, vs = [u, .int w, .int z, .int m] ∧ RuleAt K C H u T ∧ 0 ≤ w ∧ w < T.top ∧ 1 ≤ z ∧ z ≤ 10 ^ 40 ∧ 0 ≤ m ∧ m ≤ 10 ^ 40 ∧
  ∀ p H', H p = none → Same H H' → SqT K H' p [.int (T.kp z w m.toNat), .int (w + m * z - T.kp z w m.toNat), .int (max w (T.pk z w m.toNat))] → Q (.ref p) H'
def t_repeated (K : PySem.W.Frag) (C : Cs) : TS :=
  (tSeq (tAsg tDNewK (gName 4))
    (tSeq (tPar3 5 6 7 (tCons (tVar 3) (tCons (tC (.int 0)) (tCons (tVar 1) tNil))))
    (tSeq (tAsg (tCall (sp_steps_to_give K C) [] E0 (tCons (tVar 0) (tCons (tVar 1) (tCons (tVar 2) tNil)))) (gName 8))
    (tSeq (tWhile (tTest (tOp (rGeI) (tVar 5) (tVar 8))) (tSeq (tAsg (tCB (rMax2) (tCons (tVar 7) (tCons (tOp (rAddU K) (tVar 1) (tOp (rMulU K) (tOp (rSubI) (tVar 8) (tC (.int 1))) (tVar 2))) tNil))) (gName 7))
    (tSeq (tAsg (tOp (rAddU K) (tVar 1) (tOp (rMulU K) (tVar 8) (tVar 2))) (gName 9))
    (tSeq (tAsg (tMeth C.Rule "rest" (sp_Rule_rest K C) [] E0 (tVar 0) (tCons (tVar 9) tNil)) (gName 1))
    (tSeq (tPar 5 6 (tCons (tOp (rSubI) (tVar 5) (tVar 8)) (tCons (tOp (rSubI) (tOp (rAddU K) (tVar 6) (tVar 9)) (tVar 1)) tNil)))
    (Evl.tCut (tIfS (tB (tDIn (tVar 1) (tVar 4))) (tSeq (tAsg (tDGet (tVar 4) (tVar 1)) (gTup K 2 (gCons (gName 10) (gCons (gName 11) gNil))))
    (tSeq (tAsg (tOp (rDivI) (tVar 5) (tOp (rSubI) (tVar 10) (tVar 5))) (gName 12))
    (tPar 5 6 (tCons (tOp (rSubI) (tVar 5) (tOp (rMulU K) (tVar 12) (tOp (rSubI) (tVar 10) (tVar 5)))) (tCons (tOp (rAddU K) (tVar 6) (tOp (rMulU K) (tVar 12) (tOp (rSubI) (tVar 6) (tVar 11)))) tNil))))) (tAsg (tTup (tCons (tVar 5) (tCons (tVar 6) tNil))) (gSub (tVar 4) (tVar 1) rSetD)))
    (tAsg (tCall (sp_steps_to_give K C) [] E0 (tCons (tVar 0) (tCons (tVar 1) (tCons (tVar 2) tNil)))) (gName 8))))))))
    (Evl.tCut (tIfS (tTest (tOp (rGtI) (tVar 5) (tC (.int 0)))) (tAsg (tCB (rMax2) (tCons (tVar 7) (tCons (tOp (rAddU K) (tVar 1) (tOp (rMulU K) (tOp (rSubI) (tVar 5) (tC (.int 1))) (tVar 2))) tNil))) (gName 7)) tNext)
    (tRet (tTup (tCons (tOp (rAddU K) (tVar 1) (tOp (rMulU K) (tVar 5) (tVar 2))) (tCons (tVar 6) (tCons (tVar 7) tNil))))))))))
theorem ln_repeated (h : sp_repeated K C vs H Q E) : vs.length = 4 := by obtain ⟨_, _, _, _, _, rfl, _⟩ := h; rfl
theorem other_same {D : Addr} {o : HO} (s : Same H G) (h : H D = none) : Same H (upd G D o) := fun b u q => by
  rw [upd_ne (ne_of_none q h)]
  exact s b u q
theorem dk_tups {D : Addr} {o : HO} {kvs : List (Key × V)} (h : G D = some (.dK kvs)) : Tups K G (upd G D o) := Tups.put h (fun _ z => nomatch z) fun _ _ z => nomatch z
theorem imax_eq (i j : Int) : (if j > i then j else i) = max i j := by
  split <;> omega
theorem rd_repeated (h : sp_repeated K C vs H Q E) : t_repeated K C (EndsOf Q) (start ["", "", "", "", "", "", "", "", "", "", "", "", ""] vs) H := by
  obtain ⟨u, T, w, z, m, rfl, R, w0, w1, z1, z2, m0, m2, k⟩ := h
  obtain ⟨M, rfl⟩ : ∃ M : Nat, m = M := ⟨m.toNat, by omega⟩
  obtain ⟨ua, ud, uu, rfl, hu1, hT, ok, l6, fx⟩ := id R
  obtain ⟨t1, t2⟩ := Tr.top_ok ok
  refine fun D hD => ⟨_, rfl, _, rfl, _, _, _, rfl, ?_⟩
  have s1 := same_new (o := .dK []) hD
  refine ⟨_, rfl, _, rfl, _, rfl, .ref ua, T, w, z, rfl, R.same s1, z1, z2, ?_⟩
  refine ⟨fun mm σ' G => ∃ (L : Nat) (c t p : Int) (kvs : List (Key × V)) (s9 s10 s11 s12 : Option V), σ' = [some (.ref ua), some (.int c), some (.int z), some (.int M), some (.ref D), some (.int L), some (.int t), some (.int p), some (.int ((T.top - c + z - 1) / z)), s9, s10, s11, s12] ∧
    L = mm ∧ Same H G ∧ G D = some (.dK kvs) ∧ kvs.length ≤ cnt kvs ∧ Rp T z w M L c t p ∧ Seen 0 K T z G kvs L c t p,
    ⟨_, M, w, 0, w, [], none, none, none, none, rfl, rfl, s1, upd_same, Nat.zero_le _, ⟨w0, w1, w0, Nat.le_refl _, rfl, by omega, rfl⟩, fun i v h => nomatch h⟩, ?_⟩
  clear s1
  rintro mm σ' G ⟨L, c, t, p, kvs, s9, s10, s11, s12, rfl, rfl, s, hG, hl, P, S⟩
  obtain ⟨q1, q2, q3, q4⟩ := steps_ok (a := T.top - c) (z := z) (by have := P.c1; omega) z1
  have c0 := P.c0
  have c1 := P.c1
  have lM := P.le
  have hM : (M : Int) ≤ 10 ^ 40 := m2
  have lims : (10 : Int) ^ 50 + 10 ^ 40 ≤ 10 ^ 100 := by decide
  refine ⟨_, rfl, _, rfl, _, _, rfl, rfl, _, rfl, ?_⟩
  generalize hS : (T.top - c + z - 1) / z = S0 at q1 q2 q3 q4 ⊢
  refine ifD (fun cc => ?_) (fun cc => ?_)
  · -- it gives, once
    obtain ⟨n, rfl⟩ : ∃ n : Nat, S0 = ((n + 1 : Nat) : Int) := ⟨S0.toNat - 1, by omega⟩
    have en : ((n + 1 : Nat) : Int) - 1 = (n : Int) := by omega
    rw [en] at q3
    have am0 : 0 ≤ c + ((n + 1 : Nat) : Int) * z := by
      have : 0 ≤ ((n + 1 : Nat) : Int) * z := Int.mul_nonneg (by omega) (by omega)
      omega
    obtain ⟨r1, r2⟩ := Tr.rest_lt ok am0
    obtain ⟨g1, g2'⟩ := Tr.give_le ok am0
    obtain ⟨e1, e2, P1⟩ := P.give ok z1 (n := n) (by omega) (by omega) rfl
    have S1 := S.go (n := n + 1) (c' := c + ((n + 1 : Nat) : Int) * z - T.give (c + ((n + 1 : Nat) : Int) * z)) (t' := t + (c + ((n + 1 : Nat) : Int) * z) - (c + ((n + 1 : Nat) : Int) * z - T.give (c + ((n + 1 : Nat) : Int) * z))) (p' := max p (c + n * z)) (by omega) e1 (by omega) (by omega) (by omega)
    obtain ⟨by1, by2, by3⟩ := Tr.rest_by ok am0 (by omega)
    obtain ⟨by4, by5⟩ := Tr.by_ok ok _ by2
    have small : c + ((n + 1 : Nat) : Int) * z - T.give (c + ((n + 1 : Nat) : Int) * z) < 6 := by
      rw [by3]
      have := Int.emod_lt_of_pos (c + ((n + 1 : Nat) : Int) * z) (show 0 < by1 by omega)
      omega
    have eL : ((L - (n + 1) : Nat) : Int) = (L : Int) - ((n + 1 : Nat) : Int) := by omega
    have R1 := R.same s
    obtain ⟨va, vd, vu, eq, hv1, _⟩ := id R1
    cases eq
    refine ⟨fun σ2 H2 => ∃ (L2 : Nat) (c t p : Int) (kvs : List (Key × V)) (s9 s10 s11 s12 : Option V), σ2 = [some (.ref ua), some (.int c), some (.int z), some (.int M), some (.ref D), some (.int L2), some (.int t), some (.int p), some (.int ((T.top - c + z - 1) / z)), s9, s10, s11, s12] ∧
      L2 < L ∧ Same H H2 ∧ H2 D = some (.dK kvs) ∧ kvs.length ≤ cnt kvs ∧ Rp T z w M L2 c t p ∧ Seen 0 K T z H2 kvs L2 c t p,
      fun σ2 H2 ⟨L2, c, t, p, kvs, s9, s10, s11, s12, a1, a2, a3, a4, a5, a6, a7⟩ => ⟨_, a2, L2, c, t, p, kvs, s9, s10, s11, s12, a1, rfl, a3, a4, a5, a6, a7⟩, ?_⟩
    refine ⟨_, rfl, _, rfl, _, rfl, _, _, rfl, rfl, _, rfl, .inl ⟨_, _, rfl, rfl, mul_ok (by omega) (by omega), .inl ⟨_, _, rfl, rfl, _, _, rfl, ?_⟩⟩⟩
    refine ⟨_, rfl, _, rfl, _, rfl, .inl ⟨_, _, rfl, rfl, mul_ok (by omega) (by omega), .inl ⟨_, _, rfl, rfl, ?_⟩⟩⟩
    refine ⟨_, rfl, ua, vd, _, rfl, hv1, lk_tree (by decide +kernel), _, rfl, _, T, _, rfl, R1, ?_⟩
    refine ⟨_, rfl, _, rfl, _, _, rfl, rfl, _, rfl, _, rfl, .inl ⟨_, _, rfl, rfl, _, rfl, _, _, rfl, rfl, _, _, rfl, ?_⟩⟩
    dsimp only
    rw [imax_eq, en, ← eL]
    have hLL : L - (n + 1) < L := by omega
    clear e1 e2 r1 r2 g1 g2' by1 by2 by3 by4 by5 S P cc q2 q3 q4 am0 c0 c1 hS en eL q1
    have c0' := P1.c0
    generalize c + ((n + 1 : Nat) : Int) * z - T.give (c + ((n + 1 : Nat) : Int) * z) = c' at *
    generalize t + (c + ((n + 1 : Nat) : Int) * z) - c' = t' at *
    generalize max p (c + n * z) = p' at *
    generalize L - (n + 1) = L1 at *
    refine ⟨fun σ2 H2 => ∃ (L2 : Nat) (t p : Int) (kvs : List (Key × V)) (s8 s9 s10 s11 s12 : Option V), σ2 = [some (.ref ua), some (.int c'), some (.int z), some (.int M), some (.ref D), some (.int L2), some (.int t), some (.int p), s8, s9, s10, s11, s12] ∧
      L2 < L ∧ Same H H2 ∧ H2 D = some (.dK kvs) ∧ kvs.length ≤ cnt kvs ∧ Rp T z w M L2 c' t p ∧ Seen 0 K T z H2 kvs L2 c' t p, ?_, ?_⟩
    · refine ⟨_, rfl, _, rfl, D, valV kvs (.inl c'), rfl, DGet.k (k := .inl c') hG, _, rfl, ?_⟩
      cases ev : valV kvs (.inl c') with
      | some v =>
        -- it was here before: turns are skipped
        refine iteT' rfl ?_
        obtain ⟨a, l', t0, d, rfl, ha, h3, h4, h5, h6, h7, h8⟩ := S1 c' v ev
        have d1 : 1 ≤ d := by omega
        have et : (L1 : Int) / (l' - L1) = ((L1 / d : Nat) : Int) := by
          rw [show l' - (L1 : Int) = (d : Int) by omega]
          exact (Int.natCast_ediv _ _).symm
        have le : L1 / d * d ≤ L1 := Nat.div_mul_le_self L1 d
        have le2 : L1 / d ≤ L1 := Nat.div_le_self L1 d
        have e1 : (L1 : Int) - (L1 : Int) / (l' - L1) * (l' - L1) = ((L1 - L1 / d * d : Nat) : Int) := by
          rw [et, show l' - (L1 : Int) = (d : Int) by omega, Int.ofNat_sub le, Int.natCast_mul]
        have ed : t' - t0 = d * z := by omega
        have e2 : t' + (L1 : Int) / (l' - L1) * (t' - t0) = t' + ((L1 / d * d : Nat) : Int) * z := by
          rw [et, ed, Int.natCast_mul, Int.mul_assoc]
        have dz : (d : Int) * z ≤ 10 ^ 40 * 10 ^ 40 := Int.mul_le_mul (by omega) z2 (by omega) (by decide)
        have dz0 : 0 ≤ (d : Int) * z := Int.mul_nonneg (by omega) (by omega)
        have lim2 : (10 : Int) ^ 40 * 10 ^ 40 ≤ 10 ^ 100 := by decide
        have b1 : ((L1 : Int) / (l' - L1)).natAbs ≤ 10 ^ 100 := by
          rw [et]
          clear e1 e2 et
          generalize L1 / d = tt at le2
          omega
        have b2 : (l' - (L1 : Int)).natAbs ≤ 10 ^ 100 := by clear e1 e2 et b1; omega
        have b3 : (t' - t0).natAbs ≤ 10 ^ 100 := by rw [ed]; clear e1 e2 et b1; omega
        refine ⟨_, rfl, _, rfl, D, .ref a, rfl, (by rw [← ev]; exact DGet.k (k := .inl c') hG), g2 ha ?_⟩
        refine ⟨_, rfl, _, rfl, _, rfl, _, _, rfl, rfl, _, _, rfl, rfl, div_ok (by omega) (by omega), ?_⟩
        refine ⟨_, rfl, _, rfl, _, rfl, _, rfl, _, _, rfl, rfl, .inl ⟨_, _, rfl, rfl, mul_ok b1 b2, _, _, rfl, rfl, _, rfl, _, rfl, _, rfl, _, rfl, _, _, rfl, rfl, .inl ⟨_, _, rfl, rfl, mul_ok b1 b3, .inl ⟨_, _, rfl, rfl, _, _, rfl, ?_⟩⟩⟩⟩
        obtain ⟨k1, k2⟩ := Tr.kp_loop h4 (L1 / d)
        refine ⟨L1 - L1 / d * d, t' + ((L1 / d * d : Nat) : Int) * z, p', kvs, some (.int ((n + 1 : Nat) : Int)), some (.int (c + ((n + 1 : Nat) : Int) * z)), some (.int l'), some (.int t0), some (.int ((L1 : Int) / (l' - L1))), ?_, by omega, s, hG, hl, P1.skip h4 h6 d1, (S1.go le k1.symm (Int.le_refl _) (by omega) (by omega)).weak⟩
        rw [← e1, ← e2]
        rfl
      | none =>
        refine iteF' rfl ?_
        refine ⟨_, rfl, _, rfl, two_fit.2.1, fun q hq => ?_⟩
        have s2 := same_new (o := .tup [.int L1, .int t']) hq
        refine ⟨_, rfl, _, rfl, D, _, rfl, DPut.k (k := .inl c') (s2 _ _ hG) (by have := cnt_le kvs; exact small1000 (by omega)), ?_⟩
        exact ⟨L1, t', p', _, _, _, _, _, _, rfl, hLL, other_same (s.trans s2) hD, upd_same, cnt_put ev c0' small hl, P1, ((S1.weak.mono (Tups.same s2)).put P1.p0 (by omega) (SqT.of upd_same)).mono (dk_tups (s2 _ _ hG))⟩
    · rintro σ2 H2 ⟨L2, t2, p2, kvs2, b8, b9, b10, b11, b12, rfl, a2, a3, a4, a5, a6, a7⟩
      refine ⟨_, rfl, _, rfl, _, rfl, .ref ua, T, c', z, rfl, R.same a3, z1, z2, ?_⟩
      exact ⟨L2, c', t2, p2, kvs2, _, _, _, _, rfl, a2, a3, a4, a5, a6, a7⟩
  · -- the rest, without giving
    have few : c + (L : Int) * z < T.top := by
      have h : (L : Int) * z ≤ (S0 - 1) * z := Int.mul_le_mul_of_nonneg_right (by omega) (by omega)
      omega
    obtain ⟨f1, f2⟩ := Tr.kp_few ok z1 c0 L few
    have Lz0 : 0 ≤ (L : Int) * z := Int.mul_nonneg (by omega) (by omega)
    have eM : ((M : Int)).toNat = M := by omega
    rw [eM] at k
    have tot := P.tot
    have pk := P.pk
    refine ⟨fun σ2 H2 => H2 = G ∧ σ2 = [some (.ref ua), some (.int c), some (.int z), some (.int M), some (.ref D), some (.int L), some (.int t), some (.int (max w (T.pk z w M))), some (.int S0), s9, s10, s11, s12], ?_, ?_⟩
    · refine ⟨_, rfl, _, _, rfl, rfl, _, rfl, ?_⟩
      refine ifD (fun c2 => ?_) (fun c2 => ?_)
      · obtain ⟨n, rfl⟩ : ∃ n : Nat, L = n + 1 := ⟨L - 1, by omega⟩
        have en : ((n + 1 : Nat) : Int) - 1 = (n : Int) := by omega
        have e : ((n + 1 : Nat) : Int) * z = n * z + z := by rw [Int.natCast_add, Int.add_mul]; omega
        have nz : 0 ≤ (n : Int) * z := Int.mul_nonneg (by omega) (by omega)
        obtain ⟨f3, f4⟩ := Tr.kp_few ok z1 c0 n (by omega)
        refine ⟨_, rfl, _, rfl, _, rfl, _, _, rfl, rfl, _, rfl, .inl ⟨_, _, rfl, rfl, mul_ok (by omega) (by omega), .inl ⟨_, _, rfl, rfl, _, _, rfl, rfl, ?_⟩⟩⟩
        rw [pk, f4, ← imax_eq, ← en]
        rfl
      · obtain rfl : L = 0 := by omega
        refine ⟨rfl, ?_⟩
        have p0 := P.p0
        have : max p (T.pk z c 0) = p := by
          show max p 0 = p
          omega
        rw [pk, this]
    · rintro σ2 H2 ⟨rfl, rfl⟩
      refine ⟨_, rfl, _, rfl, _, rfl, .inl ⟨_, _, rfl, rfl, mul_ok (by omega) (by omega), .inl ⟨_, _, rfl, rfl, _, rfl, _, rfl, two_fit.2.2.1, fun q hq => ?_⟩⟩⟩
      have s2 := same_new (o := .tup [.int (c + L * z), .int t, .int (max w (T.pk z w M))]) hq
      refine k q _ (s.free hq) (s.trans s2) ?_
      rw [P.kp, f1, show w + (M : Int) * z - (c + L * z) = t by omega]
      exact SqT.of upd_same
/-- a tree and a Rule of it -/
structure St13 (K : PySem.W.Frag) (C : Cs) (G : Hp) (b l : Addr) (v u : V) (T : Tr) : Prop where
  bag : Bag G b l
  tr : TrAt K G v T
  ru : RuleAt K C G u T
theorem St13.step {b l : Addr} {v u : V} {T : Tr} (S : St13 K C G b l v u T) (k : Kp b G G') (B : Bag G' b l) : St13 K C G' b l v u T :=
  ⟨B, S.tr.mono (S.bag.tups k), S.ru.kpB S.bag k⟩
theorem St13.same {b l : Addr} {v u : V} {T : Tr} (S : St13 K C G b l v u T) (s : Same G G') : St13 K C G' b l v u T := S.step (Kp.of s) (S.bag.same s)
/-- not alike(rule.threshold, top) -/
theorem top_alike {i j : Nat} {σ : L2.St} {b l : Addr} {v u : V} {T : Tr} {D : Ends} (hi : σ[i]? = some (some u)) (hj : σ[j]? = some (some (.int T.top))) (S : St13 K C G b l v u T) (k : D.nx σ G) :
    tIfS (tNot (tB (tCall (sp_law_alike K) [] E0 (tCons (tProp C.Rule (sp_Rule_threshold K C) [] E0 (tVar i)) (tCons (tVar j) tNil))))) (tRet (tC (.bl false))) tNext D σ G := by
  obtain ⟨ua, ud, uu, rfl, hu1, r⟩ := id S.ru
  refine ⟨_, hi, ua, ud, _, rfl, hu1, _, T, rfl, S.ru, ?_⟩
  obtain ⟨t1, t2⟩ := Tr.top_ok r.2.1
  have g : GoodTo 0 2000 (.int T.top) := gt_int (by
    have : (10 : Int) ^ 50 ≤ 10 ^ 100 := by decide
    omega)
  exact ⟨_, hj, _, _, .int T.top, rfl, .int _, .int _, g.good, true, rfl, k⟩
end
end Pk
set_option Elab.async false
set_option linter.all false
set_option maxRecDepth 100000
set_option maxHeartbeats 2000000
/-! == and != of instances by an own __eq__ -/
namespace Pk
open PySem PySem.Spec PyProof.Rows PySem.SeqAt
section
variable {prog : Program} {w : World} {A : Around} {E : Value → Shared → Prop} {s : Shared} {K : PySem.W.Frag} {x C f : Addr} {ox : Obj} {od : Option Obj} {b : Value}
theorem ifBound_ne {M : Model} {args : List Value} {Q : Option Value → Shared → Prop} (I : PySem.W.InstAt s.heap x ox C od) (X : K.In s.heap) (hn : PySem.W.findIn K (.ref C) "__ne__" = some (some (.builtin "object.__ne__")))
    (h : wpAny M A (call (.builtin "object.__ne__") (.ref x :: args)) (fun v => Q (some v)) E s) : wpAny M A (callSpecialIfBound? (.ref x) "__ne__" args) Q E s := by
  simp only [callSpecialIfBound?, bindSpecialIfBound?]
  have last : wpAny M A (call (.builtin "object.__ne__") ([.ref x] ++ args) >>= fun v => pure (some v)) Q E s := wpAny_bind (wpAny_mono h (fun _ _ z => wpAny_pure z) fun _ _ z => z)
  refine wpAny_holding (wpAny_bind (wpAny_bind (wpAny_bind (I.type.here ((PySem.W.looks_findIn X hn).here (wpAny_bind (wpAny_askSetting (wpAny_ite ?_))))))))
  split
  · exact wpAny_bind (wpAny_of_eq (F.cmp_object.ne.bind _) (wpAny_pure (by exact last)))
  · exact wpAny_tryCatch (wpAny_bind (wpAny_of_eq (F.cmp_object.ne.bind _) (wpAny_pure (by exact last))))
theorem obj_ne {Q : Value → Shared → Prop} (hu : A.units + 1 < cLine) (X : K.In s.heap) (I : PySem.W.InstAt s.heap x ox C od) (hm : PySem.W.mroIn K C (.type "object") = some true)
    (hn : PySem.W.findIn K (.ref C) "__ne__" = some (some (.builtin "object.__ne__"))) (hs : PySem.W.findIn K (.ref C) "__eq__" = some (some (.ref f))) (hf : PySem.W.isFn K (.ref f) = true)
    (h : codeAny (model prog w) A.in1 (.call (.ref f) ⟨[.ref x, b], []⟩) (fun r s' => match r with | .ok (.ret v) => ∃ c, v = .bool c ∧ Q (.bool (!c)) s' | .ok _ => False | .error e => E e s') s) :
    wpAny (model prog w) A (tryCompare (.ref x) "__ne__" b) (fun r s' => ∃ v, r = some v ∧ Q v s') E s := by
  unfold tryCompare
  refine wpAny_bind (ifBound_ne I X hn (wpAny_call (codeAny_call_builtin F.cmp_object.ne.plain F.cmpEntry_ne
    (PySem.W.check_slot F.cmpKind_ne F.cmpSplit_ne (I.type.andThen (PySem.W.looks_mroIn X hm)) (F.cmpArgs_ne _ _) ?_))))
  unfold Builtin.«object.__ne__»
  repeat (first | with_reducible refine wpAny_cRoomFor hu ?_ | with_reducible refine wpAny_bind (PySem.W.ifBound_K X I hs hf ?_) | wp_step)
  refine codeAny_mono h fun r s' hr => ?_
  match r, hr with
  | .error e, hr => exact hr
  | .ok (.ret v), hr =>
    obtain ⟨c, rfl, q⟩ := hr
    refine wpAny_bind (wpAny_truthy_bool ?_)
    exact wpAny_pure (wpAny_pure ⟨_, rfl, q⟩)
/-- x != b by what is tried first -/
theorem rich_ne {tb : Value} {Q : Value → Shared → Prop} (hu : A.units < cLine) (X : K.In s.heap) (I : PySem.W.InstAt s.heap x ox C od) (hb : PySem.W.Looks (model prog w) s.heap (typeOf b) tb) (hn : PySem.W.notFirst K C tb = true)
    (one : wpAny (model prog w) A (tryCompare (.ref x) "__ne__" b) (fun r s' => ∃ v, r = some v ∧ Q v s') E s) : wpAny (model prog w) A (richCompare .NotEq (.ref x) b) Q E s := by
  unfold richCompare
  simp only [oneThing_ref]
  refine wpAny_holding (wpAny_bind (wpAny_cRoomFor hu (wpAny_bind (I.type.here (wpAny_bind (hb.here ?_))))))
  split
  · rename_i q
    have e : PySem.W.subIn K tb (.ref C) = some false := by
      rcases Bool.or_eq_true_iff.mp hn with e | e
      · exact absurd (beq_iff_eq.mp e) (by intro z; rw [z] at q; simp at q)
      · exact beq_iff_eq.mp e
    refine wpAny_bind ((PySem.W.looks_subIn X e).here ?_)
    simp only [Bool.false_eq_true, if_false]
    exact wpAny_bind (wpAny_mono one (fun r s1 ⟨v, ev, qv⟩ => by subst ev; exact wpAny_pure qv) fun _ _ y => y)
  · refine wpAny_bind (wpAny_pure ?_)
    simp only [Bool.false_eq_true, if_false]
    exact wpAny_bind (wpAny_mono one (fun r s1 ⟨v, ev, qv⟩ => by subst ev; exact wpAny_pure qv) fun _ _ y => y)
end
end Pk
namespace Pk
open PySem PySem.Spec L2 PyProof.Rows
section
variable {X : Cx} {CX : CXT} {k j : Nat} {C : Addr} {ps : List Str} {sp : Sp} {E : XK} {x : Str}
/-- x == y, x != y, both instances of the class at C -/
def rOwnEq (C : Addr) (sp : Sp) (E : XK) : R2 := fun x y H Q => ∃ a b dx fs dy gs, x = .ref a ∧ y = .ref b ∧ H a = some (.ins C dx fs) ∧ H b = some (.ins C dy gs) ∧ sp [x, y] H (fun v H' => ∃ c, v = .bl c ∧ Q (.bl c) H') E
def rOwnNe (C : Addr) (sp : Sp) (E : XK) : R2 := fun x y H Q => ∃ a b dx fs dy gs, x = .ref a ∧ y = .ref b ∧ H a = some (.ins C dx fs) ∧ H b = some (.ins C dy gs) ∧ sp [x, y] H (fun v H' => ∃ c, v = .bl c ∧ Q (.bl (!c)) H') E
theorem op_eqOwn (c : Kls X.K X.mg x C) (F : Own X.prog X.w X.K X.mg X.base CX k C "__eq__" ps sp) (hr : Room j X.A) (hx : Passes CX X E) (hj : k ≤ j := by first | decide | omega) : OpR X (compareOp .Eq) (rOwnEq C sp E) := by
  obtain ⟨f, fd, G, a1, a2, a3, a4, bb⟩ := F.ex
  intro pins s σ H u v ov iv Q I ru rv h
  obtain ⟨a, b, dx, fs, dy, gs, rfl, rfl, ha, hb, q⟩ := h
  cases (show ov = Value.ref a from ru)
  cases (show iv = Value.ref b from rv)
  obtain ⟨_, O, _⟩ := ins_get I.hok ha
  obtain ⟨od, J, _⟩ := O.look
  obtain ⟨_, O', _⟩ := ins_get I.hok hb
  obtain ⟨od', J', _⟩ := O'.look
  obtain ⟨_, hF⟩ := I.fr
  show wpAny (model X.prog X.w) X.A (richCompare .Eq (.ref a) (.ref b)) (EP X pins σ Q) X.xe s
  refine PySem.W.cmp_K (op := .Eq) (tb := .ref C) (Nat.lt_of_le_of_lt (Nat.le_add_right _ 64) hr.units) hF I.ok.mod.kin J J'.type (by simp [PySem.W.notFirst]) a1 a2 ?_
  refine wpAny_mono (run_fn (us := [.ref a, .ref b]) (vs := [.ref a, .ref b]) G (hr.mono hj) bb .nil hx I (.cons rfl (.cons rfl .nil)) q) ?_ fun _ _ z => z
  rintro w s' ⟨z, H', I', rz, d, rfl, qz⟩
  cases rz
  exact ⟨.bl d, H', I', rfl, qz⟩
theorem op_neOwn (c : Kls X.K X.mg x C) (F : Own X.prog X.w X.K X.mg X.base CX k C "__eq__" ps sp) (hr : Room j X.A) (hx : Passes CX X E) (hj : k + 1 ≤ j := by first | decide | omega) : OpR X (compareOp .NotEq) (rOwnNe C sp E) := by
  obtain ⟨f, fd, G, a1, a2, a3, a4, bb⟩ := F.ex
  intro pins s σ H u v ov iv Q I ru rv h
  obtain ⟨a, b, dx, fs, dy, gs, rfl, rfl, ha, hb, q⟩ := h
  cases (show ov = Value.ref a from ru)
  cases (show iv = Value.ref b from rv)
  obtain ⟨_, O, _⟩ := ins_get I.hok ha
  obtain ⟨od, J, _⟩ := O.look
  obtain ⟨_, O', _⟩ := ins_get I.hok hb
  obtain ⟨od', J', _⟩ := O'.look
  obtain ⟨_, hF⟩ := I.fr
  show wpAny (model X.prog X.w) X.A (richCompare .NotEq (.ref a) (.ref b)) (EP X pins σ Q) X.xe s
  have hu := hr.units
  refine rich_ne (tb := .ref C) (by omega) I.kIn J J'.type (by simp [PySem.W.notFirst]) (obj_ne (by omega) I.kIn J c.ic.hm c.ne a1 a2 ?_)
  have e := I.env0
  have e0 : Env0 X.prog X.w X.K X.mg X.base X.A.in1 X.stack s H := ⟨e.frames, e.mod, e.bs, e.bsz, e.funs, e.frf, e.hok, e.bare⟩
  have hl := G.len _ _ _ _ q
  refine codeAny_mono (G.run X.A.in1 X.stack s H ⟨[.ref a, .ref b], []⟩ [.ref a, .ref b] [.ref a, .ref b] _ E (hr.mono hj).in1 e0 (by
    have := bb s [.ref a, .ref b] I.kIn (by simpa using hl)
    simpa using this) (.cons rfl (.cons rfl .nil)) q) fun r s' z => ?_
  match r, z with
  | .error e, z => exact hx pins σ H s e s' I z
  | .ok (.ret w), z =>
    obtain ⟨y, H', I', rz, d, rfl, qz⟩ := I.after z
    cases rz
    exact ⟨d, rfl, .bl (!d), H', I', rfl, qz⟩
/-- what is never come to -/
def tNone : TE := fun _ _ _ => False
theorem pe_none {e : Expr} : PE X e tNone := ⟨fun _ _ _ _ _ _ h => h.elim⟩
end
end Pk
set_option Elab.async false
set_option linter.all false
set_option maxRecDepth 100000
set_option maxHeartbeats 2000000
namespace Pk
open PySem PySem.Spec L2 PyProof.Rows
/-! ### Accounts -/
structure FxAccount (K : PySem.W.Frag) (C : Cs) : Prop where
  cl : Cls K C.Account
  n1 : NoAttr K C.Account "_credit"
  n2 : NoAttr K C.Account "_rule"
  n3 : NoAttr K C.Account "_unpassed"
  n4 : NoAttr K C.Account "_withheld"
  ic : C8.InsC K C.Account
def accF (cr : Int) (r : V) (u w : Int) : List (Str × V) := [("_credit", .int cr), ("_rule", r), ("_unpassed", .int u), ("_withheld", .int w)]
theorem nm_cr : (("_credit" : Str) == "_rule") = false ∧ (("_credit" : Str) == "_unpassed") = false ∧ (("_credit" : Str) == "_withheld") = false ∧ (("_rule" : Str) == "_unpassed") = false ∧ (("_rule" : Str) == "_withheld") = false ∧ (("_unpassed" : Str) == "_withheld") = false := by decide +kernel
theorem nm_rc : (("_rule" : Str) == "_credit") = false ∧ (("_unpassed" : Str) == "_credit") = false ∧ (("_withheld" : Str) == "_credit") = false ∧ (("_unpassed" : Str) == "_rule") = false ∧ (("_withheld" : Str) == "_rule") = false ∧ (("_withheld" : Str) == "_unpassed") = false := by decide +kernel
theorem nm_ne : ("_credit" : Str) ≠ "_rule" ∧ ("_credit" : Str) ≠ "_unpassed" ∧ ("_credit" : Str) ≠ "_withheld" ∧ ("_rule" : Str) ≠ "_unpassed" ∧ ("_rule" : Str) ≠ "_withheld" ∧ ("_unpassed" : Str) ≠ "_withheld" := by decide +kernel
section
variable {cr u w : Int} {r : V}
theorem lk_cr : List.lookup ("_credit" : Str) (accF cr r u w) = some (.int cr) := by unfold accF; rw [List.lookup, beq_self_eq_true]
theorem lk_ru : List.lookup ("_rule" : Str) (accF cr r u w) = some r := by unfold accF; rw [List.lookup, nm_rc.1, List.lookup, beq_self_eq_true]
theorem lk_un : List.lookup ("_unpassed" : Str) (accF cr r u w) = some (.int u) := by unfold accF; rw [List.lookup, nm_rc.2.1, List.lookup, nm_rc.2.2.2.1, List.lookup, beq_self_eq_true]
theorem lk_wi : List.lookup ("_withheld" : Str) (accF cr r u w) = some (.int w) := by unfold accF; rw [List.lookup, nm_rc.2.2.1, List.lookup, nm_rc.2.2.2.2.1, List.lookup, nm_rc.2.2.2.2.2, List.lookup, beq_self_eq_true]
theorem lk_no {f : Str} (h1 : (f == ("_credit" : Str)) = false) (h2 : (f == ("_rule" : Str)) = false) (h3 : (f == ("_unpassed" : Str)) = false) (h4 : (f == ("_withheld" : Str)) = false) : (accF cr r u w).lookup f = none := by
  unfold accF
  rw [List.lookup, h1, List.lookup, h2, List.lookup, h3, List.lookup, h4, List.lookup]
theorem put_un {x : Int} : putF "_unpassed" (.int x) (accF cr r u w) = accF cr r x w := by
  unfold accF
  rw [putF, if_neg nm_ne.2.1, putF, if_neg nm_ne.2.2.2.1, putF, if_pos rfl]
theorem put_wi {x : Int} : putF "_withheld" (.int x) (accF cr r u w) = accF cr r u x := by
  unfold accF
  rw [putF, if_neg nm_ne.2.2.1, putF, if_neg nm_ne.2.2.2.2.1, putF, if_neg nm_ne.2.2.2.2.2, putF, if_pos rfl]
theorem put_all : putF "_withheld" (.int w) (putF "_unpassed" (.int u) (putF "_rule" r (putF "_credit" (.int cr) []))) = accF cr r u w := by
  unfold accF
  simp only [putF, if_neg nm_ne.1, if_neg nm_ne.2.1, if_neg nm_ne.2.2.1, if_neg nm_ne.2.2.2.1, if_neg nm_ne.2.2.2.2.1, if_neg nm_ne.2.2.2.2.2]
theorem no_tree {C D dx dy : Addr} {x : V} {fs : List (Str × V)} (h : fs.length = 4) (z : HO.ins C dx fs = HO.ins D dy [("_tree", x)]) : False := by
  have e := congrArg List.length (HO.ins.inj z).2.2
  rw [h] at e
  cases e
end
/-- an Account: its credit, the tree of its Rule, what is unpassed, withheld -/
def AccAt (K : PySem.W.Frag) (C : Cs) (H : Hp) (v : V) (cr : Int) (T : Tr) (u w : Int) : Prop := ∃ a dx r, v = .ref a ∧ H a = some (.ins C.Account dx (accF cr r u w)) ∧ RuleAt K C H r T ∧ FxAccount K C
section
variable {K : PySem.W.Frag} {C : Cs} {vs : List V} {H H' G G' : Hp} {Q : VK} {E : XK} {n : Nat} {v : V} {cr u w : Int} {T : Tr} {a b : Addr}
theorem RuleAt.keep {r : V} {o : HO} (h : RuleAt K C H r T) (ha : H b = some o) (n1 : ∀ dx x, o ≠ .ins C.Rule dx [("_tree", x)]) (n2 : ∀ xs, o ≠ .tup xs) (n3 : ∀ ob xs, o ≠ .frz ob (.tup xs)) (k : Kp b H H') : RuleAt K C H' r T := by
  obtain ⟨a, dx, x, e, h1, h2, q⟩ := h
  refine ⟨a, dx, x, e, k _ _ h1 (ne_of h1 ha fun z => n1 dx x z.symm), h2.mono fun c xs q => ?_, q⟩
  rcases q with (q | ⟨ob, q⟩) | q
  · exact .inl (.inl (k _ _ q (ne_of q ha fun z => n2 _ z.symm)))
  · exact .inl (.inr ⟨ob, k _ _ q (ne_of q ha fun z => n3 _ _ z.symm)⟩)
  · exact .inr q
theorem AccAt.same (h : AccAt K C H v cr T u w) (s : Same H H') : AccAt K C H' v cr T u w := by
  obtain ⟨a, dx, r, e, h1, h2, fa⟩ := h
  exact ⟨a, dx, r, e, s _ _ h1, h2.same s, fa⟩
/-- an Account stays when a list is written -/
theorem AccAt.kp {ys : List V} (h : AccAt K C H v cr T u w) (k : Kp b H H') (hb : H b = some (.lst ys)) : AccAt K C H' v cr T u w := by
  obtain ⟨a, dx, r, e, h1, h2, fa⟩ := h
  exact ⟨a, dx, r, e, k _ _ h1 (ne_of h1 hb fun z => nomatch z), h2.kp k hb, fa⟩
/-- an Account stays when another one is written -/
theorem AccAt.kpA {dx : Addr} {fs : List (Str × V)} (h : AccAt K C H (.ref b) cr T u w) (k : Kp a H H') (ha : H a = some (.ins C.Account dx fs)) (hl : fs.length = 4) (ne : b ≠ a) : AccAt K C H' (.ref b) cr T u w := by
  obtain ⟨c, dy, r, e, h1, h2, fa⟩ := h
  cases e
  exact ⟨_, dy, r, rfl, k _ _ h1 ne, h2.keep ha (fun d x z => no_tree hl z) (fun _ z => nomatch z) (fun _ _ z => nomatch z) k, fa⟩
/-- written itself -/
theorem AccAt.put {dx : Addr} {r : V} (h1 : H a = some (.ins C.Account dx (accF cr r u w))) (h2 : RuleAt K C H r T) (fa : FxAccount K C) {u' w' : Int} : AccAt K C (upd H a (.ins C.Account dx (accF cr r u' w'))) (.ref a) cr T u' w' :=
  ⟨a, dx, r, rfl, upd_same, h2.keep h1 (fun d x z => no_tree rfl z) (fun _ z => nomatch z) (fun _ _ z => nomatch z) kp_put, fa⟩
def sp_Account_left (K : PySem.W.Frag) (C : Cs) : Sp := fun vs H Q _ => ∃ v cr T u w, vs = [v] ∧ AccAt K C H v cr T u w ∧ Q (.int (cr - u - w)) H
def sp_Account_unpassed (K : PySem.W.Frag) (C : Cs) : Sp := fun vs H Q _ => ∃ v cr T u w, vs = [v] ∧ AccAt K C H v cr T u w ∧ Q (.int u) H
def sp_Account_withheld (K : PySem.W.Frag) (C : Cs) : Sp := fun vs H Q _ => ∃ v cr T u w, vs = [v] ∧ AccAt K C H v cr T u w ∧ Q (.int w) H
def t_Account_left (K : PySem.W.Frag) : TS :=
  (tRet (tOp (rSubI) (tOp (rSubI) (tFld K (tVar 0) "_credit") (tFld K (tVar 0) "_unpassed")) (tFld K (tVar 0) "_withheld")))
def t_Account_unpassed (K : PySem.W.Frag) : TS :=
  (tRet (tFld K (tVar 0) "_unpassed"))
def t_Account_withheld (K : PySem.W.Frag) : TS :=
  (tRet (tFld K (tVar 0) "_withheld"))
theorem ln_Account_left (h : sp_Account_left K C vs H Q E) : vs.length = 1 := by obtain ⟨_, _, _, _, _, rfl, _⟩ := h; rfl
theorem ln_Account_unpassed (h : sp_Account_unpassed K C vs H Q E) : vs.length = 1 := by obtain ⟨_, _, _, _, _, rfl, _⟩ := h; rfl
theorem ln_Account_withheld (h : sp_Account_withheld K C vs H Q E) : vs.length = 1 := by obtain ⟨_, _, _, _, _, rfl, _⟩ := h; rfl
theorem rd_Account_left (h : sp_Account_left K C vs H Q E) : t_Account_left K (EndsOf Q) (start [""] vs) H := by
  obtain ⟨v, cr, T, u, w, rfl, ⟨a, dx, r, rfl, ha, _, fa⟩, k⟩ := h
  exact ⟨_, rfl, a, _, dx, _, _, rfl, ha, fa.cl, fa.n1, lk_cr, _, rfl, a, _, dx, _, _, rfl, ha, fa.cl, fa.n3, lk_un, _, _, rfl, rfl, _, rfl, a, _, dx, _, _, rfl, ha, fa.cl, fa.n4, lk_wi, _, _, rfl, rfl, k⟩
theorem rd_Account_unpassed (h : sp_Account_unpassed K C vs H Q E) : t_Account_unpassed K (EndsOf Q) (start [""] vs) H := by
  obtain ⟨v, cr, T, u, w, rfl, ⟨a, dx, r, rfl, ha, _, fa⟩, k⟩ := h
  exact ⟨_, rfl, a, _, dx, _, _, rfl, ha, fa.cl, fa.n3, lk_un, k⟩
theorem rd_Account_withheld (h : sp_Account_withheld K C vs H Q E) : t_Account_withheld K (EndsOf Q) (start [""] vs) H := by
  obtain ⟨v, cr, T, u, w, rfl, ⟨a, dx, r, rfl, ha, _, fa⟩, k⟩ := h
  exact ⟨_, rfl, a, _, dx, _, _, rfl, ha, fa.cl, fa.n4, lk_wi, k⟩
theorem rfl4 {r : V} : (accF cr r u w).length < 1000 := by show 4 < 1000; decide
def sp_Account___isub__ (K : PySem.W.Frag) (C : Cs) : Sp := fun vs H Q _ => ∃ a cr T u w m, vs = [.ref a, .int m] ∧ AccAt K C H (.ref a) cr T u w ∧ m ≤ cr - u - w ∧ ∀ H', Kp a H H' → AccAt K C H' (.ref a) cr T (u + m) w → Q (.ref a) H'
def sp_Account___iadd__ (K : PySem.W.Frag) (C : Cs) : Sp := fun vs H Q _ => ∃ a cr T u w m, vs = [.ref a, .int m] ∧ AccAt K C H (.ref a) cr T u w ∧ m ≤ u ∧ ∀ H', Kp a H H' → AccAt K C H' (.ref a) cr T (u - m) (w + m - T.give (w + m)) → Q (.ref a) H'
def t_Account___isub__ (K : PySem.W.Frag) (C : Cs) : TS :=
  (tSeq (tIfS (tTest (tOp (rGtI) (tVar 1) (tProp C.Account (sp_Account_left K C) [] E0 (tVar 0)))) tNever tNext)
    (tSeq (sFld K (tVar 0) (tOp (rAddU K) (tFld K (tVar 0) "_unpassed") (tVar 1)) "_unpassed")
    (tRet (tVar 0))))
def t_Account___iadd__ (K : PySem.W.Frag) (C : Cs) : TS :=
  (tSeq (tIfS (tTest (tOp (rGtI) (tVar 1) (tFld K (tVar 0) "_unpassed"))) tNever tNext)
    (tSeq (sFld K (tVar 0) (tOp (rSubI) (tFld K (tVar 0) "_unpassed") (tVar 1)) "_unpassed")
    (tSeq (sFld K (tVar 0) (tMeth C.Rule "rest" (sp_Rule_rest K C) [] E0 (tFld K (tVar 0) "_rule") (tCons (tOp (rAddU K) (tFld K (tVar 0) "_withheld") (tVar 1)) tNil)) "_withheld")
    (tRet (tVar 0)))))
theorem ln_Account___isub__ (h : sp_Account___isub__ K C vs H Q E) : vs.length = 2 := by obtain ⟨_, _, _, _, _, _, rfl, _⟩ := h; rfl
theorem ln_Account___iadd__ (h : sp_Account___iadd__ K C vs H Q E) : vs.length = 2 := by obtain ⟨_, _, _, _, _, _, rfl, _⟩ := h; rfl
theorem rd_Account___isub__ (h : sp_Account___isub__ K C vs H Q E) : t_Account___isub__ K C (EndsOf Q) (start ["", ""] vs) H := by
  obtain ⟨a, cr, T, u, w, m, rfl, A, hm, k⟩ := h
  obtain ⟨_, dx, r, e, ha, hr, fa⟩ := id A
  cases e
  refine ⟨_, rfl, _, rfl, a, dx, _, rfl, ha, _, cr, T, u, w, rfl, A, _, _, rfl, rfl, _, rfl, ?_⟩
  refine iteF' (decide_eq_false (by omega)) ?_
  refine ⟨_, rfl, a, _, dx, _, _, rfl, ha, fa.cl, fa.n3, lk_un, _, rfl, .inl ⟨_, _, rfl, rfl, _, rfl, a, _, dx, _, rfl, ha, fa.cl, fa.n3, rfl4, ?_⟩⟩
  rw [put_un]
  exact ⟨_, rfl, k _ kp_put (AccAt.put ha hr fa)⟩
theorem rd_Account___iadd__ (h : sp_Account___iadd__ K C vs H Q E) : t_Account___iadd__ K C (EndsOf Q) (start ["", ""] vs) H := by
  obtain ⟨a, cr, T, u, w, m, rfl, A, hm, k⟩ := h
  obtain ⟨_, dx, r, e, ha, hr, fa⟩ := id A
  cases e
  refine ⟨_, rfl, _, rfl, a, _, dx, _, _, rfl, ha, fa.cl, fa.n3, lk_un, _, _, rfl, rfl, _, rfl, ?_⟩
  refine iteF' (decide_eq_false (by omega)) ?_
  refine ⟨_, rfl, a, _, dx, _, _, rfl, ha, fa.cl, fa.n3, lk_un, _, rfl, _, _, rfl, rfl, _, rfl, a, _, dx, _, rfl, ha, fa.cl, fa.n3, rfl4, ?_⟩
  rw [put_un]
  have hr1 := hr.keep (H' := upd H a (.ins C.Account dx (accF cr r (u - m) w))) ha (fun d x z => no_tree rfl z) (fun _ z => nomatch z) (fun _ _ z => nomatch z) kp_put
  have ha1 : (upd H a (.ins C.Account dx (accF cr r (u - m) w))) a = some (.ins C.Account dx (accF cr r (u - m) w)) := upd_same
  have k1 : Kp a H (upd H a (.ins C.Account dx (accF cr r (u - m) w))) := kp_put
  show tSeq _ _ _ _ (upd H a (.ins C.Account dx (accF cr r (u - m) w)))
  generalize upd H a (.ins C.Account dx (accF cr r (u - m) w)) = G at hr1 ha1 k1 ⊢
  obtain ⟨ra, rd, ru, rfl, hra, _⟩ := id hr1
  refine ⟨_, rfl, a, _, dx, _, _, rfl, ha1, fa.cl, fa.n2, lk_ru, ra, rd, _, rfl, hra, lk_tree (by decide +kernel), ?_⟩
  refine ⟨_, rfl, a, _, dx, _, _, rfl, ha1, fa.cl, fa.n4, lk_wi, _, rfl, .inl ⟨_, _, rfl, rfl, ?_⟩⟩
  refine ⟨_, T, _, rfl, hr1, _, rfl, a, _, dx, _, rfl, ha1, fa.cl, fa.n4, rfl4, ?_⟩
  rw [put_wi]
  exact ⟨_, rfl, k _ k1.put (AccAt.put ha1 hr1 fa)⟩
def sp_Account_passes (K : PySem.W.Frag) (C : Cs) : Sp := fun vs H Q _ => ∃ a cr T u w z m, vs = [.ref a, .int z, .int m] ∧ AccAt K C H (.ref a) cr T u w ∧ 0 ≤ w ∧ w < T.top ∧ 1 ≤ z ∧ z ≤ 10 ^ 40 ∧ 0 ≤ m ∧ m ≤ 10 ^ 40 ∧ z * m ≤ u ∧
  ∀ H', Kp a H H' → AccAt K C H' (.ref a) cr T (u - z * m) (T.kp z w m.toNat) → Q (.int (w + m * z - T.kp z w m.toNat)) H'
def sp_Account_flows (K : PySem.W.Frag) (C : Cs) : Sp := fun vs H Q _ => ∃ a cr T u w z m, vs = [.ref a, .int z, .int m] ∧ AccAt K C H (.ref a) cr T u w ∧ 0 ≤ w ∧ w < T.top ∧ 1 ≤ z ∧ z ≤ 10 ^ 40 ∧ 0 ≤ m ∧ m ≤ 10 ^ 40 ∧ z ≤ cr - u - max w (T.pk z w m.toNat) ∧
  ∀ H', Kp a H H' → AccAt K C H' (.ref a) cr T u (T.kp z w m.toNat) → Q (.int (w + m * z - T.kp z w m.toNat)) H'
def t_Account_passes (K : PySem.W.Frag) (C : Cs) : TS :=
  (tSeq (tIfS (tTest (tOp (rGtI) (tOp (rMulU K) (tVar 1) (tVar 2)) (tFld K (tVar 0) "_unpassed"))) tNever tNext)
    (tSeq (tAsg (tCall (sp_repeated K C) [] E0 (tCons (tFld K (tVar 0) "_rule") (tCons (tFld K (tVar 0) "_withheld") (tCons (tVar 1) (tCons (tVar 2) tNil))))) (gTup K 3 (gCons (gName 3) (gCons (gName 4) (gCons (gName 5) gNil)))))
    (tSeq (sFld K (tVar 0) (tOp (rSubI) (tFld K (tVar 0) "_unpassed") (tOp (rMulU K) (tVar 1) (tVar 2))) "_unpassed")
    (tSeq (sFld K (tVar 0) (tVar 3) "_withheld")
    (tRet (tVar 4))))))
def t_Account_flows (K : PySem.W.Frag) (C : Cs) : TS :=
  (tSeq (tAsg (tCall (sp_repeated K C) [] E0 (tCons (tFld K (tVar 0) "_rule") (tCons (tFld K (tVar 0) "_withheld") (tCons (tVar 1) (tCons (tVar 2) tNil))))) (gTup K 3 (gCons (gName 3) (gCons (gName 4) (gCons (gName 5) gNil)))))
    (tSeq (tIfS (tTest (tOp (rLtI) (tOp (rSubI) (tOp (rSubI) (tFld K (tVar 0) "_credit") (tFld K (tVar 0) "_unpassed")) (tVar 5)) (tVar 1))) tNever tNext)
    (tSeq (sFld K (tVar 0) (tVar 3) "_withheld")
    (tRet (tVar 4)))))
theorem ln_Account_passes (h : sp_Account_passes K C vs H Q E) : vs.length = 3 := by obtain ⟨_, _, _, _, _, _, _, rfl, _⟩ := h; rfl
theorem ln_Account_flows (h : sp_Account_flows K C vs H Q E) : vs.length = 3 := by obtain ⟨_, _, _, _, _, _, _, rfl, _⟩ := h; rfl
theorem RuleAt.okk {r : V} (h : RuleAt K C H r T) : T.ok := by obtain ⟨_, _, _, _, _, _, ok, _⟩ := h; exact ok
theorem rd_Account_passes (h : sp_Account_passes K C vs H Q E) : t_Account_passes K C (EndsOf Q) (start ["", "", "", "", "", ""] vs) H := by
  obtain ⟨a, cr, T, u, w, z, m, rfl, A, w0, w1, z1, z2, m0, m2, hm, k⟩ := h
  obtain ⟨_, dx, r, e, ha, hr, fa⟩ := id A
  cases e
  have lim : (10 : Int) ^ 40 ≤ 10 ^ 100 := by decide
  have mk := mul_ok (i := z) (j := m) (by omega) (by omega)
  refine ⟨_, rfl, _, rfl, .inl ⟨_, _, rfl, rfl, mk, _, rfl, a, _, dx, _, _, rfl, ha, fa.cl, fa.n3, lk_un, _, _, rfl, rfl, _, rfl, ?_⟩⟩
  refine iteF' (decide_eq_false (by omega)) ?_
  refine ⟨_, rfl, a, _, dx, _, _, rfl, ha, fa.cl, fa.n2, lk_ru, _, rfl, a, _, dx, _, _, rfl, ha, fa.cl, fa.n4, lk_wi, _, rfl, _, rfl, ?_⟩
  refine ⟨r, T, w, z, m, rfl, hr, w0, w1, z1, z2, m0, m2, fun p G hp s hq => g3 hq ?_⟩
  have ha1 := s _ _ ha
  have hr1 := hr.same s
  refine ⟨_, rfl, a, _, dx, _, _, rfl, ha1, fa.cl, fa.n3, lk_un, _, rfl, _, rfl, .inl ⟨_, _, rfl, rfl, mk, _, _, rfl, rfl, _, rfl, a, _, dx, _, rfl, ha1, fa.cl, fa.n3, rfl4, ?_⟩⟩
  rw [put_un]
  have hr2 := hr1.keep (H' := upd G a (.ins C.Account dx (accF cr r (u - z * m) w))) ha1 (fun d x z => no_tree rfl z) (fun _ z => nomatch z) (fun _ _ z => nomatch z) kp_put
  have ha2 : (upd G a (.ins C.Account dx (accF cr r (u - z * m) w))) a = some (.ins C.Account dx (accF cr r (u - z * m) w)) := upd_same
  have k2 : Kp a H (upd G a (.ins C.Account dx (accF cr r (u - z * m) w))) := (Kp.of s).put
  show tSeq _ _ _ _ (upd G a (.ins C.Account dx (accF cr r (u - z * m) w)))
  generalize upd G a (.ins C.Account dx (accF cr r (u - z * m) w)) = G2 at hr2 ha2 k2 ⊢
  refine ⟨_, rfl, _, rfl, a, _, dx, _, rfl, ha2, fa.cl, fa.n4, rfl4, ?_⟩
  rw [put_wi]
  exact ⟨_, rfl, k _ k2.put (AccAt.put ha2 hr2 fa)⟩
theorem rd_Account_flows (h : sp_Account_flows K C vs H Q E) : t_Account_flows K C (EndsOf Q) (start ["", "", "", "", "", ""] vs) H := by
  obtain ⟨a, cr, T, u, w, z, m, rfl, A, w0, w1, z1, z2, m0, m2, hm, k⟩ := h
  obtain ⟨_, dx, r, e, ha, hr, fa⟩ := id A
  cases e
  refine ⟨_, rfl, a, _, dx, _, _, rfl, ha, fa.cl, fa.n2, lk_ru, _, rfl, a, _, dx, _, _, rfl, ha, fa.cl, fa.n4, lk_wi, _, rfl, _, rfl, ?_⟩
  refine ⟨r, T, w, z, m, rfl, hr, w0, w1, z1, z2, m0, m2, fun p G hp s hq => g3 hq ?_⟩
  have ha1 := s _ _ ha
  have hr1 := hr.same s
  refine ⟨_, rfl, a, _, dx, _, _, rfl, ha1, fa.cl, fa.n1, lk_cr, _, rfl, a, _, dx, _, _, rfl, ha1, fa.cl, fa.n3, lk_un, _, _, rfl, rfl, _, rfl, _, _, rfl, rfl, _, rfl, _, _, rfl, rfl, _, rfl, ?_⟩
  refine iteF' (decide_eq_false (by omega)) ?_
  refine ⟨_, rfl, _, rfl, a, _, dx, _, rfl, ha1, fa.cl, fa.n4, rfl4, ?_⟩
  rw [put_wi]
  exact ⟨_, rfl, k _ (Kp.of s).put (AccAt.put ha1 hr1 fa)⟩
def sp_Account___init__ (K : PySem.W.Frag) (C : Cs) : Sp := fun vs H Q _ => ∃ p dx cr r T, vs = [.ref p, .int cr, r] ∧ H p = some (.ins C.Account dx []) ∧ RuleAt K C H r T ∧ 1 ≤ cr ∧ FxAccount K C ∧ ∀ H', Kp p H H' → AccAt K C H' (.ref p) cr T 0 0 → Q .non H'
def t_Account___init__ (K : PySem.W.Frag) (C : Cs) : TS :=
  (tSeq (tIfS (tNot (tB (tCall (sp_is_number K) [] E0 (tCons (tC (.int 1)) (tCons (tVar 1) tNil))))) tNever tNext)
    (tSeq (tIfS (tNot (tB (tCB (rIsi K) (tCons (tVar 2) (tCons (tC (.ref C.Rule)) tNil))))) tNever tNext)
    (tSeq (sFld K (tVar 0) (tVar 1) "_credit")
    (tSeq (sFld K (tVar 0) (tVar 2) "_rule")
    (tSeq (sFld K (tVar 0) (tC (.int 0)) "_unpassed")
    (sFld K (tVar 0) (tC (.int 0)) "_withheld"))))))
theorem ln_Account___init__ (h : sp_Account___init__ K C vs H Q E) : vs.length = 3 := by obtain ⟨_, _, _, _, _, rfl, _⟩ := h; rfl
theorem rd_Account___init__ (h : sp_Account___init__ K C vs H Q E) : t_Account___init__ K C (EndsOf Q) (start ["", "", ""] vs) H := by
  obtain ⟨p, dx, cr, r, T, rfl, hp, hr, c1, fa, k⟩ := h
  obtain ⟨ra, rd, ru, rfl, hra, hru⟩ := id hr
  refine ⟨_, rfl, 1, cr, rfl, _, rfl, ?_⟩
  rw [decide_eq_true c1]
  have ic := hru.2.2.2.ic
  refine ⟨_, rfl, _, _, _, _, true, rfl, .own _, .base (.ins hra ic.cl ic.ha ic.hn ic.htk ic.hm), ic.me, true, rfl, ?_⟩
  refine ⟨_, rfl, _, rfl, p, _, dx, _, rfl, hp, fa.cl, fa.n1, by show 0 < 1000; decide, ?_⟩
  refine ⟨_, rfl, _, rfl, p, _, dx, _, rfl, upd_same, fa.cl, fa.n2, by show 1 < 1000; decide, ?_⟩
  refine ⟨_, rfl, p, _, dx, _, rfl, upd_same, fa.cl, fa.n3, by show 2 < 1000; decide, ?_⟩
  refine ⟨_, rfl, p, _, dx, _, rfl, upd_same, fa.cl, fa.n4, by show 3 < 1000; decide, ?_⟩
  rw [put_all]
  have kk : Kp p H (upd (upd (upd (upd H p (.ins C.Account dx (putF "_credit" (.int cr) []))) p (.ins C.Account dx (putF "_rule" (.ref ra) (putF "_credit" (.int cr) [])))) p (.ins C.Account dx (putF "_unpassed" (.int 0) (putF "_rule" (.ref ra) (putF "_credit" (.int cr) []))))) p (.ins C.Account dx (accF cr (.ref ra) 0 0))) := kp_put.put.put.put
  refine k _ kk ⟨p, dx, _, rfl, upd_same, hr.keep hp (fun d x z => ?_) (fun _ z => nomatch z) (fun _ _ z => nomatch z) kk, fa⟩
  exact nomatch (HO.ins.inj z).2.2
/-- Account(credit, rule) -/
theorem make_acc {u : V} (fa : FxAccount K C) (c1 : 1 ≤ cr) (hr : RuleAt K C G u T) (k : ∀ x H', G x = none → Same G H' → AccAt K C H' (.ref x) cr T 0 0 → Q (.ref x) H') :
    ∀ x dx, G x = none → G dx = none → dx ≠ x → sp_Account___init__ K C (.ref x :: ([.int cr, u] ++ [])) (upd (upd G dx (.own x)) x (.ins C.Account dx [])) (fun v H2 => v = .non ∧ Q (.ref x) H2) E := by
  intro x dx hx hd ne
  have s : Same G (upd (upd G dx (.own x)) x (.ins C.Account dx [])) := fun b o e => by
    rw [upd_ne (ne_of_none e hx), upd_ne (ne_of_none e hd)]
    exact e
  refine ⟨x, dx, cr, u, T, rfl, upd_same, hr.same s, c1, fa, fun H' k1 A => ⟨rfl, k x H' hx (fun b o e => k1 b o (s b o e) (ne_of_none e hx)) A⟩⟩
def sp_Rule___eq__ (K : PySem.W.Frag) (C : Cs) : Sp := fun vs H Q _ => ∃ x y T, vs = [x, y] ∧ RuleAt K C H x T ∧ RuleAt K C H y T ∧ Q (.bl true) H
def sp_Account___eq__ (K : PySem.W.Frag) (C : Cs) : Sp := fun vs H Q _ => ∃ x y cr T u w, vs = [x, y] ∧ AccAt K C H x cr T u w ∧ AccAt K C H y cr T u w ∧ 0 ≤ cr ∧ cr ≤ 10 ^ 100 ∧ 0 ≤ u ∧ u ≤ 10 ^ 100 ∧ 0 ≤ w ∧ w ≤ 10 ^ 100 ∧ ∀ H', Same H H' → Q (.bl true) H'
def t_Rule___eq__ (K : PySem.W.Frag) (C : Cs) : TS :=
  (tSeq (tIfS (tNot (tB (tCB (rIsi K) (tCons (tVar 1) (tCons (tC (.ref C.Rule)) tNil))))) (tRet (tC (.bl false))) tNext)
    (tRet (tOrV (tOp (rEqU K) (tFld K (tVar 0) "_tree") (tFld K (tVar 1) "_tree")) tNone)))
def t_Account___eq__ (K : PySem.W.Frag) (C : Cs) : TS :=
  (tSeq (tIfS (tNot (tB (tCB (rIsi K) (tCons (tVar 1) (tCons (tC (.ref C.Account)) tNil))))) (tRet (tC (.bl false))) tNext)
    (tSeq (tAsg (tTup (tCons (tFld K (tVar 0) "_credit") (tCons (tFld K (tVar 0) "_unpassed") (tCons (tFld K (tVar 0) "_withheld") tNil)))) (gName 2))
    (tRet (tAndV (tOp (rEqU K) (tVar 2) (tTup (tCons (tFld K (tVar 1) "_credit") (tCons (tFld K (tVar 1) "_unpassed") (tCons (tFld K (tVar 1) "_withheld") tNil))))) (tOp (rOwnEq C.Rule (sp_Rule___eq__ K C) E0) (tFld K (tVar 0) "_rule") (tFld K (tVar 1) "_rule"))))))
theorem ln_Rule___eq__ (h : sp_Rule___eq__ K C vs H Q E) : vs.length = 2 := by obtain ⟨_, _, _, rfl, _⟩ := h; rfl
theorem ln_Account___eq__ (h : sp_Account___eq__ K C vs H Q E) : vs.length = 2 := by obtain ⟨_, _, _, _, _, _, rfl, _⟩ := h; rfl
theorem rd_Rule___eq__ (h : sp_Rule___eq__ K C vs H Q E) : t_Rule___eq__ K C (EndsOf Q) (start ["", ""] vs) H := by
  obtain ⟨x, y, T, rfl, ⟨a, dx, u, rfl, ha, hT, ok, l6, fx⟩, ⟨b, dy, z, rfl, hb, hZ, _, _, _⟩, k⟩ := h
  refine ⟨_, rfl, _, _, _, _, true, rfl, .own _, .base (.ins hb fx.ic.cl fx.ic.ha fx.ic.hn fx.ic.htk fx.ic.hm), fx.ic.me, true, rfl, ?_⟩
  have g := (gt_tree ok).good (by omega) (by omega)
  refine ⟨_, rfl, a, _, dx, _, u, rfl, ha, fx.cl, fx.no, rfl, _, rfl, b, _, dy, _, z, rfl, hb, fx.cl, fx.no, rfl, .inr ⟨T.pd, T.pd, hT.dp, hZ.dp, g.sh, g.sh, ?_⟩⟩
  rw [g.same]
  exact ⟨true, rfl, k⟩
theorem dp3' {p : Addr} {x y z : Int} (h : SqT K H p [.int x, .int y, .int z]) : Dp K H (.ref p) (.tuple [.int x, .int y, .int z]) := .tup h (.cons (.int _) (.cons (.int _) (.cons (.int _) .nil)))
theorem rd_Account___eq__ (h : sp_Account___eq__ K C vs H Q E) : t_Account___eq__ K C (EndsOf Q) (start ["", "", ""] vs) H := by
  obtain ⟨x, y, cr, T, u, w, rfl, ⟨a, dx, r, rfl, ha, hr, fa⟩, ⟨b, dy, r2, rfl, hb, hr2, _⟩, c0, c1, u0, u1, w0, w1, k⟩ := h
  refine ⟨_, rfl, _, _, _, _, true, rfl, .own _, .base (.ins hb fa.ic.cl fa.ic.ha fa.ic.hn fa.ic.htk fa.ic.hm), fa.ic.me, true, rfl, ?_⟩
  refine ⟨_, rfl, a, _, dx, _, _, rfl, ha, fa.cl, fa.n1, lk_cr, _, rfl, a, _, dx, _, _, rfl, ha, fa.cl, fa.n3, lk_un, _, rfl, a, _, dx, _, _, rfl, ha, fa.cl, fa.n4, lk_wi, two_fit.2.2.1, fun p hp => ?_⟩
  have s1 := same_new (o := .tup [.int cr, .int u, .int w]) hp
  have hb1 := s1 _ _ hb
  refine ⟨_, rfl, _, rfl, b, _, dy, _, _, rfl, hb1, fa.cl, fa.n1, lk_cr, _, rfl, b, _, dy, _, _, rfl, hb1, fa.cl, fa.n3, lk_un, _, rfl, b, _, dy, _, _, rfl, hb1, fa.cl, fa.n4, lk_wi, two_fit.2.2.1, fun q hq => ?_⟩
  have s2 := same_new (o := .tup [.int cr, .int u, .int w]) hq
  have s := s1.trans s2
  have g : Good (.tuple [.int cr, .int u, .int w]) := (gt_tuple (at_cons (gt_int (by omega)) (at_cons (gt_int (by omega)) (at_cons (gt_int (by omega)) at_nil)))).good
  refine .inr ⟨_, _, dp3' (SqT.of (s2 _ _ upd_same)), dp3' (SqT.of upd_same), g.sh, g.sh, ?_⟩
  rw [g.same]
  obtain ⟨ra, rd, ru, rfl, hra, _⟩ := id (hr.same s)
  obtain ⟨rb, re, rv, rfl, hrb, _⟩ := id (hr2.same s)
  refine ⟨true, rfl, ?_⟩
  refine ⟨_, rfl, a, _, dx, _, _, rfl, s _ _ ha, fa.cl, fa.n2, lk_ru, _, rfl, b, _, dy, _, _, rfl, s _ _ hb, fa.cl, fa.n2, lk_ru, ?_⟩
  exact ⟨ra, rb, rd, _, re, _, rfl, rfl, hra, hrb, _, _, T, rfl, hr.same s, hr2.same s, true, rfl, k _ s⟩
end
end Pk
set_option Elab.async false
set_option linter.all false
set_option maxRecDepth 100000
set_option maxHeartbeats 2000000
namespace Pk
open PySem PySem.Spec L2 PyProof.Rows
/-! ### what laws over Accounts share -/
section
variable {K : PySem.W.Frag} {C : Cs} {vs : List V} {H H' G G' : Hp} {Q : VK} {E : XK} {n : Nat} {v : V} {cr u w : Int} {T : Tr} {a b l : Addr}
theorem Tups.kpi {D dx : Addr} {fs : List (Str × V)} (k : Kp a G G') (ha : G a = some (.ins D dx fs)) : Tups K G G' := fun c xs q => by
  rcases q with (q | ⟨ob, q⟩) | q
  · exact .inl (.inl (k _ _ q (ne_of q ha fun z => nomatch z)))
  · exact .inl (.inr ⟨ob, k _ _ q (ne_of q ha fun z => nomatch z)⟩)
  · exact .inr q
theorem Bag.kpi {D dx : Addr} {fs : List (Str × V)} (B : Bag G b l) (k : Kp a G G') (ha : G a = some (.ins D dx fs)) : Bag G' b l := by
  obtain ⟨x, m, p, xs, h1, h2, r⟩ := B.ex
  exact ⟨x, m, p, xs, k _ _ h1 (ne_of h1 ha fun z => nomatch z), k _ _ h2 (ne_of h2 ha fun z => nomatch z), r⟩
theorem AccAt.ins (h : AccAt K C H (.ref a) cr T u w) : ∃ dx r, H a = some (.ins C.Account dx (accF cr r u w)) := by
  obtain ⟨_, dx, r, e, h1, _⟩ := h
  cases e
  exact ⟨dx, r, h1⟩
theorem AccAt.kpB {c : Addr} (h : AccAt K C H (.ref a) cr T u w) (B : Bag H b c) (k : Kp b H H') : AccAt K C H' (.ref a) cr T u w := by
  obtain ⟨ys, hb⟩ := B.at
  exact h.kp k hb
def sp_law_one_by_one (K : PySem.W.Frag) (C : Cs) : Sp := fun vs H Q _ => ∃ a cr T u w z, ∃ (m : Nat) (f : Bool), vs = [.ref a, .int z, .int m, .bl f] ∧ AccAt K C H (.ref a) cr T u w ∧ 0 ≤ w ∧ w < T.top ∧ 1 ≤ z ∧ m ≤ 100 ∧ 0 ≤ u ∧
  ((f = true ∧ z ≤ cr - u - max w (T.pk z w m)) ∨ (f = false ∧ m * z ≤ u)) ∧ ∀ H', Kp a H H' → AccAt K C H' (.ref a) cr T (if f then u else u - m * z) (T.kp z w m) → Q .non H'
def t_law_one_by_one (K : PySem.W.Frag) (C : Cs) : TS :=
  (tFor (iRng1 (tCons (tVar 2) tNil)) (gName 4) (Evl.tCut (tIfS (tB (tVar 3)) (tAug 0 (tVar 1) (ipOwn C.Account (sp_Account___isub__ K C) E0)) tNext)
    (tAug 0 (tVar 1) (ipOwn C.Account (sp_Account___iadd__ K C) E0))))
theorem ln_law_one_by_one (h : sp_law_one_by_one K C vs H Q E) : vs.length = 4 := by obtain ⟨_, _, _, _, _, _, _, _, rfl, _⟩ := h; rfl
theorem Tr.kp_pk {z : Int} : ∀ {i m : Nat}, i < m → T.kp z w i ≤ T.pk z w m
  | i, m + 1, h => by
    rw [Tr.pk_s]
    by_cases e : i = m
    · subst e; omega
    · have := Tr.kp_pk (z := z) (show i < m by omega)
      omega
theorem rd_law_one_by_one (h : sp_law_one_by_one K C vs H Q E) : t_law_one_by_one K C (EndsOf Q) (start ["", "", "", "", ""] vs) H := by
  obtain ⟨a, cr, T, u, w, z, m, f, rfl, A, w0, w1, z1, m1, u0, hf, k⟩ := h
  refine ⟨_, rfl, m, rfl, by omega, by omega, ?_⟩
  have eM : (m : Int).toNat = m := by omega
  rw [eM]
  have ok : T.ok := by
    obtain ⟨_, _, _, _, _, hr, _⟩ := id A
    exact hr.okk
  refine for_range (lo := 0) (n := m) (fun i σ' G => ∃ s4, σ' = [some (.ref a), some (.int z), some (.int m), some (.bl f), s4] ∧ Kp a H G ∧ AccAt K C G (.ref a) cr T (if f then u else u - i * z) (T.kp z w i))
    ⟨none, rfl, Kp.refl, ?_⟩ ?_ (fun σ' G ⟨_, _, kk, A'⟩ => k G kk A')
  · have : (if f = true then u else u - ((0 : Nat) : Int) * z) = u := by split <;> simp
    rw [this]
    exact A
  rintro i σ' G hi ⟨s4, rfl, kk, A1⟩
  obtain ⟨q0, q1⟩ := Tr.kp_ok ok z1 w0 w1 i
  have hk : T.kp z w i ≤ T.pk z w m := Tr.kp_pk hi
  have e : ((i + 1 : Nat) : Int) * z = i * z + z := by rw [Int.natCast_add, Int.add_mul]; omega
  have mz : ((i + 1 : Nat) : Int) * z ≤ m * z := Int.mul_le_mul_of_nonneg_right (by omega) (by omega)
  refine ⟨fun σ2 G2 => σ2 = [some (.ref a), some (.int z), some (.int m), some (.bl f), some (.int (0 + i))] ∧ Kp a H G2 ∧ AccAt K C G2 (.ref a) cr T ((if f then u else u - ((i + 1 : Nat) : Int) * z) + z) (T.kp z w i), ?_, ?_⟩
  · refine ⟨_, rfl, _, rfl, ?_⟩
    rcases hf with ⟨rfl, hf⟩ | ⟨rfl, hf⟩
    · refine iteT' rfl ?_
      obtain ⟨dx, r, ha⟩ := A1.ins
      refine ⟨_, rfl, _, rfl, a, dx, _, rfl, ha, a, cr, T, _, _, z, rfl, A1, ?_, fun G2 k2 A2 => ⟨rfl, kk.trans k2, A2⟩⟩
      show z ≤ cr - u - T.kp z w i
      omega
    · refine iteF' rfl ⟨rfl, kk, ?_⟩
      have : (if false = true then u else u - ((i + 1 : Nat) : Int) * z) + z = (if false = true then u else u - (i : Int) * z) := by
        rw [if_neg (by decide), if_neg (by decide), e]
        omega
      rw [this]
      exact A1
  · rintro σ2 G2 ⟨rfl, k2, A2⟩
    obtain ⟨dx, r, ha⟩ := A2.ins
    refine ⟨_, rfl, _, rfl, a, dx, _, rfl, ha, a, cr, T, _, _, z, rfl, A2, ?_, fun G3 k3 A3 => ⟨_, rfl, k2.trans k3, ?_⟩⟩
    · have un : 0 ≤ (if f = true then u else u - ((i + 1 : Nat) : Int) * z) := by
        rcases hf with ⟨rfl, hf⟩ | ⟨rfl, hf⟩
        · rw [if_pos rfl]
          exact u0
        · rw [if_neg (by decide)]
          omega
      omega
    · have e2 : (if f = true then u else u - ((i + 1 : Nat) : Int) * z) + z - z = (if f = true then u else u - ((i + 1 : Nat) : Int) * z) := by omega
      rw [e2] at A3
      exact A3
/-! ### a tree drawn by its depth -/
def sp_law_draw_tree (K : PySem.W.Frag) (n : Nat) : Sp := fun vs H Q _ => ∃ b l top sc, ∃ d : Nat, vs = [.ref b, .int top, .int sc, .int d] ∧ Bag H b l ∧ 1 ≤ top ∧ top ≤ 1000 ∧ 1 ≤ sc ∧ top * sc ≤ 10 ^ 50 ∧ d + 1 ≤ n ∧
  ∀ v T H', TrAt K H' v T → T.ok → T.le (top * sc) → T.lv ≤ 2 ^ d → Bag H' b l → Kp b H H' → Q v H'
def t_law_draw_tree (K : PySem.W.Frag) (n : Nat) : TS :=
  (tSeq (tAsg (tCall (sp_law_take K) [] E0 (tCons (tVar 0) (tCons (tC (.int 4)) tNil))) (gName 4))
    (tSeq (tIfS (tOr (tTest (tOp (rEqU K) (tVar 3) (tC (.int 0)))) (tTest (tOp (rLtI) (tVar 4) (tC (.int 2))))) (tRet (tTup (tCons (tC (.str "at")) (tCons (tCall (sp_law_draw_size K) [] E0 (tCons (tVar 0) (tCons (tVar 1) (tCons (tVar 2) tNil)))) (tCons (tOp (rAddU K) (tC (.int 1)) (tCall (sp_law_take K) [] E0 (tCons (tVar 0) (tCons (tC (.int 6)) tNil)))) tNil))))) tNext)
    (tSeq (tAsg (tLc (iRng1 (tCons (tC (.int 2)) tNil)) (gName 7) tYes (tCall (sp_law_draw_tree K n) [] E0 (tCons (tVar 0) (tCons (tVar 1) (tCons (tVar 2) (tCons (tOp (rSubI) (tVar 3) (tC (.int 1))) tNil))))) [7]) (gLst K 2 (gCons (gName 5) (gCons (gName 6) gNil))))
    (tRet (tTup (tCons (tOp (rIx K) (tLst (tCons (tC (.str "or")) (tCons (tC (.str "and")) tNil))) (tOp (rSubI) (tVar 4) (tC (.int 2)))) (tCons (tVar 5) (tCons (tVar 6) tNil))))))))
theorem no_law_draw_tree (h : sp_law_draw_tree K 0 vs H Q E) : False := by
  obtain ⟨_, _, _, _, _, _, _, _, _, _, _, h, _⟩ := h
  omega
theorem ln_law_draw_tree (h : sp_law_draw_tree K n vs H Q E) : vs.length = 4 := by obtain ⟨_, _, _, _, _, rfl, _⟩ := h; rfl
theorem rd_law_draw_tree (h : sp_law_draw_tree K (n + 1) vs H Q E) : t_law_draw_tree K n (EndsOf Q) (start ["", "", "", "", "", "", "", ""] vs) H := by
  obtain ⟨b, l, top, sc, d, rfl, B, t1, t2, s1, ts, hd, k⟩ := h
  refine ⟨_, rfl, b, l, 4, rfl, B, by decide, by decide, fun r G r0 r1 B1 k1 => ?_⟩
  refine ⟨_, rfl, .inl ⟨rfl, _, rfl, ?_⟩⟩
  have leaf : tRet (tTup (tCons (tC (.str "at")) (tCons (tCall (sp_law_draw_size K) [] E0 (tCons (tVar 0) (tCons (tVar 1) (tCons (tVar 2) tNil)))) (tCons (tOp (rAddU K) (tC (.int 1)) (tCall (sp_law_take K) [] E0 (tCons (tVar 0) (tCons (tC (.int 6)) tNil)))) tNil))))
      (EndsOf Q) [some (.ref b), some (.int top), some (.int sc), some (.int d), some (.int r), none, none, none] G := by
    refine ⟨_, rfl, _, rfl, _, rfl, b, l, top, sc, rfl, B1, t1, t2, s1, fun t G1 a0 a1 B2 k2 => ?_⟩
    refine ⟨_, rfl, b, l, 6, rfl, B2, by decide, by decide, fun q G2 q0 q1 B3 k3 => .inl ⟨_, _, rfl, rfl, two_fit.2.2.1, fun p hp => ?_⟩⟩
    have s4 := same_new (o := .tup [.str "at", .int t, .int (1 + q)]) hp
    exact k (.ref p) (.at t (1 + q)) _ ⟨p, rfl, SqT.of upd_same⟩ ⟨a0, by omega, by omega, by omega⟩ a1 (Nat.pow_pos (by decide)) (B3.same s4) (k1.trans (k2.trans (k3.trans (Kp.of s4))))
  refine ifI (fun _ => leaf) (fun e => ?_)
  refine ⟨_, rfl, _, _, rfl, rfl, _, rfl, ?_⟩
  refine ifD (fun _ => leaf) (fun hr => ?_)
  clear leaf
  obtain ⟨e', rfl⟩ : ∃ e' : Nat, d = e' + 1 := ⟨d - 1, by omega⟩
  refine ⟨2, rfl, by decide, by decide, fun D hD => ?_⟩
  have f1 : H D = none := k1.freeB B1 hD
  refine lc_range (lo := 0) (n := 2) (fun i G' => Bag G' b l ∧ Kp b H G' ∧ ∃ zs : Ps, zs.length = i ∧ G' D = some (.lst (zs.map (·.1))) ∧ ∀ z ∈ zs, TrAt K G' z.1 z.2 ∧ z.2.ok ∧ z.2.le (top * sc) ∧ z.2.lv ≤ 2 ^ e') ⟨B1.same (same_new hD), k1.laid hD, [], rfl, upd_same, fun z hz => nomatch hz⟩ ?_ ?_
  · rintro i G' hi ⟨B2, k2, zs, hl, hz, ok⟩
    refine ⟨rfl, ?_⟩
    refine ⟨_, rfl, _, rfl, _, rfl, _, rfl, _, _, rfl, rfl, b, l, top, sc, e', ?_, B2, t1, t2, s1, ts, by omega, fun v T G1 a1 a2 a3 a4 B3 k3 => ?_⟩
    · show [V.ref b, .int top, .int sc, .int (((e' + 1 : Nat) : Int) - 1)] = _
      rw [show ((e' + 1 : Nat) : Int) - 1 = (e' : Int) by omega]
    have hz2 := k3 D _ hz (B.nb f1)
    refine ⟨_, hz2, small1000 (by rw [List.length_map]; omega), B3.put (B.nb f1).symm (B.nl f1).symm, (k2.trans k3).other f1, zs ++ [(v, T)], by rw [List.length_append, hl]; rfl, by rw [upd_same, List.map_append]; rfl, fun z q => ?_⟩
    have tp : Tups K G1 _ := lst_tups (o := .lst (zs.map (·.1) ++ [v])) hz2
    rcases List.mem_append.mp q with q | q
    · exact ⟨((ok z q).1.mono (B2.tups k3)).mono tp, (ok z q).2⟩
    · rw [List.mem_singleton.mp q]
      exact ⟨a1.mono tp, a2, a3, a4⟩
  rintro G' ⟨B2, k2, zs, hl, hz, ok⟩
  obtain ⟨⟨v1, T1⟩, ⟨v2, T2⟩, rfl⟩ : ∃ z1 z2, zs = [z1, z2] := by
    match zs, hl with
    | [z1, z2], _ => exact ⟨z1, z2, rfl⟩
  obtain ⟨o1, o2, o3, o4⟩ := ok _ (List.mem_cons_self ..)
  obtain ⟨p1, p2, p3, p4⟩ := ok _ (List.mem_cons_of_mem _ (List.mem_cons_self ..))
  refine ⟨D, _, rfl, SqL.of hz, rfl, _, _, rfl, _, _, rfl, rfl, ?_⟩
  refine ⟨two_fit.2.1, fun p hp => ?_⟩
  have s3 := same_new (o := .lst [.str "or", .str "and"]) hp
  obtain ⟨wd, hw, cw⟩ := pick2 (x := .str "or") (y := .str "and") (v := r - 2) (by omega) (by omega)
  refine ⟨_, rfl, _, _, rfl, rfl, .inl ⟨p, _, r - 2, wd, rfl, rfl, SqL.of upd_same, hw, ?_⟩⟩
  refine ⟨_, rfl, _, rfl, two_fit.2.2.1, fun q hq => ?_⟩
  have s4 := same_new (o := .tup [wd, v1, v2]) hq
  have s5 := s3.trans s4
  have lv : T1.lv + T2.lv ≤ 2 ^ (e' + 1) := by
    have : 2 ^ (e' + 1) = 2 ^ e' + 2 ^ e' := by rw [Nat.pow_succ]; omega
    have q1 : T1.lv ≤ 2 ^ e' := o4
    have q2 : T2.lv ≤ 2 ^ e' := p4
    omega
  rcases cw with ⟨_, rfl⟩ | ⟨_, rfl⟩
  · exact k (.ref q) (.or T1 T2) _ ⟨q, v1, v2, rfl, SqT.of upd_same, o1.mono (Tups.same s5), p1.mono (Tups.same s5)⟩ ⟨o2, p2⟩ ⟨o3, p3⟩ lv (B2.same s5) (k2.trans (Kp.of s5))
  · exact k (.ref q) (.and T1 T2) _ ⟨q, v1, v2, rfl, SqT.of upd_same, o1.mono (Tups.same s5), p1.mono (Tups.same s5)⟩ ⟨o2, p2⟩ ⟨o3, p3⟩ lv (B2.same s5) (k2.trans (Kp.of s5))
end
end Pk
set_option Elab.async false
set_option linter.all false
set_option maxRecDepth 100000
set_option maxHeartbeats 2000000
/-! own errors: raised, let out, caught -/
namespace Pk
open PySem PySem.Spec L2 PyProof.Rows
/-- an own error class: where it stands, what it may -/
structure ErrK (K : PySem.W.Frag) (mg : Str → Option Value) (x : Str) (C : Addr) : Prop where
  at_ : mg x = some (.ref C)
  oex : OexC K C
  xf : XfC K C
  ex : ExcC K C
/-- its __init__ -/
structure ErrI (P : Program) (w : World) (K : PySem.W.Frag) (mg : Str → Option Value) (base : Heap) (k : Nat) (C : Addr) (ps : List Str) (sp : Sp) : Prop where
  ex : ∃ f fd, FnOk P w K mg base CX0 k f fd ps sp ∧ PySem.W.findIn K (.ref C) "__init__" = some (some (.ref f)) ∧ PySem.W.typeIn K (.ref f) = some (.type "function") ∧ Binds K fd ps []
section
variable {X : Cx} {CX : CXT} {k j : Nat} {C D a : Addr} {ps : List Str} {sp : Sp} {x : Str} {p pos : Pos} {e b : Expr} {es : List Expr} {t : TA} {ta tb : TE} {oe : Obj} {cls : Value} {d : Option Addr} {pn : List (Addr × Obj)}
theorem pmk_err (c : ErrK X.K X.mg x C) (F : ErrI X.prog X.w X.K X.mg X.base k C ps sp) (hr : Room j X.A) (ha : PA X (e :: es) t) (hj : k + 1 ≤ j := by first | decide | omega) (hg : Gl X x := by rfl)
    (h1 : (x == ("__debug__" : Str)) = false := by decide) (h2 : starEach (e :: es) X.env = (false, eval e X.env) :: starEach es X.env := by rfl) (h3 : (backTo pos (starEach es X.env)).any (·.1) = false := by rfl) :
    PMk X (.Call (.Name x p) (e :: es) [] pos) (tMkO C sp [] t) := by
  obtain ⟨f, fd, G, a1, a2, bb⟩ := F.ex
  exact pmk_oex c.oex a1 a2 G (hr.mono hj) bb .nil (fun _ _ _ _ _ _ _ z => z.elim) hg c.at_ ha h1 h2 h3
/-- what comes of C(v), one field -/
def rOneI (K : PySem.W.Frag) (C : Addr) (f : Str) : Sp := fun vs H Q _ => ∃ a y, vs = [.ref a, y] ∧ OexC K C ∧ PySem.W.findIn K (.ref C) f = some none ∧ H a = some (exo a C none) ∧ ∀ dx, H dx = none → dx ≠ a → Q .non (upd (upd H dx (exd dx [(f, y)])) a (exo a C (some dx)))
theorem made_err {K : PySem.W.Frag} {f : Str} {y : V} {H : Hp} {Q : XK} (ox : OexC K C) (nf : PySem.W.findIn K (.ref C) f = some none) (k : ∀ d H', H d = none → Same H H' → H' d = some (.xd [(f, y)]) → Q (.ref C) (some d) H') :
    ([y] : List V).length ≤ 1000 ∧ ∀ a, H a = none → rOneI K C f (.ref a :: ([y] ++ [])) (upd H a (exo a C none))
      (fun v H2 => v = .non ∧ ∃ (d : Addr) (fs : List (Str × V)), H2 a = some (exo a C (some d)) ∧ H2 d = some (exd d fs) ∧ H d = none ∧ Q (.ref C) (some d) (upd (del H2 a) d (.xd fs))) (fun _ _ _ => False) := by
  refine ⟨by show 1 ≤ 1000; decide, fun a ha => ⟨a, y, rfl, ox, nf, upd_same, fun dx hd ne => ⟨rfl, dx, [(f, y)], upd_same, ?_, ?_, ?_⟩⟩⟩
  · rw [upd_ne ne, upd_same]
  · rw [upd_ne ne] at hd
    exact hd
  · rw [upd_ne ne] at hd
    refine k dx _ hd (fun b o q => ?_) upd_same
    rw [upd_ne (ne_of_none q hd), del_ne (ne_of_none q ha), upd_ne (ne_of_none q ha), upd_ne (ne_of_none q hd), upd_ne (ne_of_none q ha)]
    exact q
/-- isinstance(n, c), n the caught error of the class at D that has its dict -/
def rIsD (K : PySem.W.Frag) (D a : Addr) (cls : Value) (d : Option Addr) : List V → Hp → VK → Prop := fun xs H Q => ∃ (c : V) (cv : Value) (b : Bool) (dd : Addr) (fs : List (Str × V)), xs = [.ref a, c] ∧ cls = .ref D ∧ d = some dd ∧ H dd = some (.xd fs) ∧ (∀ u, RelV c u → u = cv) ∧ PySem.W.kitOne K (.ref D) cv = some b ∧ Q (.bl b) H
theorem call_isD (T : ExcC X.K D) (hz : Zc cls d oe) (hf : ∃ vs, oe.data = .fields vs) : CallR (X.suite a ((a, oe) :: pn)) (.builtin "isinstance") (rIsD X.K D a cls d) := by
  intro pins s σ H xs us Q I r h
  obtain ⟨c, cv, b, dd, fs, rfl, rfl, rfl, hx, hcv, ek, q⟩ := h
  obtain ⟨u1, u2, rfl, r1, r2⟩ := vals2 r
  cases r1
  obtain rfl := hcv _ r2
  obtain ⟨at_, _⟩ := I.pin (a, oe) (List.mem_append.mpr (.inl List.mem_cons_self))
  obtain ⟨vs, hv⟩ := hf
  obtain ⟨mA, hns, _⟩ := (show ObjOk X.prog X.w H s.heap dd (.xd fs) from I.hok dd _ hx)
  obtain ⟨od, ho, _⟩ := lookIn_ns hns
  have J : PySem.W.InstAt s.heap a oe D (some od) := ⟨at_, hz.1, by unfold PySem.W.notCls; rw [hv] <;> rfl, by rw [hz.2]; exact ho⟩
  have hc : (PySem.W.clsIn X.K D).isSome = true := by obtain ⟨cd, e1, _⟩ := PySem.W.any_some T.hd; rw [e1]; rfl
  exact PySem.W.kia_one (PySem.W.kitx_exc hc T.hg T.hk T.hs T.ha T.hn T.ht T.hm) I.kIn J ek (fun z => nomatch z) fun tk => ⟨.bl b, H, I.kept (t' := tk) fun _ _ z => z, rfl, q⟩
/-- an operator that may let an error out, by the slots -/
def tOpS (r : L2.St → R2) (ta tb : TE) : TE := fun σ H Q => ta σ H fun x H1 => tb σ H1 fun y H2 => r σ x y H2 Q
theorem pe_opS {op : Operator} {r : L2.St → R2} (ho : ∀ (pins : List (Addr × Obj)) (s : Shared) (σ : L2.St) (H : Hp) (x y : V) (v u : Value) (Q : VK), Inv X pins σ H s → RelV x v → RelV y u → r σ x y H Q → wpAny (model X.prog X.w) X.A (binaryOp op v u) (EP X pins σ Q) X.xe s)
    (ha : PE X e ta) (hb : PE X b tb) : PE X (.BinOp e op b pos) (tOpS r ta tb) := by
  refine ⟨fun pins s σ H Q I h => ?_⟩
  exact wpAny_BinOp (binT ha hb I h fun v u s2 x y H2 I2 rx ry q => ho pins s2 σ H2 x y v u Q I2 rx ry q)
theorem op_ownBS {op : Operator} {E : L2.St → XK} (c : Kls X.K X.mg x C) (F : Own X.prog X.w X.K X.mg X.base CX k C (PySem.dunder op.info.2) ps sp) (hr : Room j X.A) (hx : ∀ σ, PassesAt CX X σ (E σ)) (hj : k ≤ j := by first | decide | omega)
    (pins : List (Addr × Obj)) (s : Shared) (σ : L2.St) (H : Hp) (u v : V) (ov iv : Value) (Q : VK) (I : Inv X pins σ H s) (ru : RelV u ov) (rv : RelV v iv) (h : rOwnB C sp (E σ) u v H Q) : wpAny (model X.prog X.w) X.A (binaryOp op ov iv) (EP X pins σ Q) X.xe s := by
  obtain ⟨f, fd, G, a1, a2, a3, a4, bb⟩ := F.ex
  obtain ⟨a, b, dx, fs, dy, gs, rfl, rfl, ha, hb, q⟩ := h
  cases (show ov = Value.ref a from ru)
  cases (show iv = Value.ref b from rv)
  obtain ⟨_, O, _⟩ := ins_get I.hok ha
  obtain ⟨od, J, _⟩ := O.look
  obtain ⟨_, O', _⟩ := ins_get I.hok hb
  obtain ⟨od', J', _⟩ := O'.look
  obtain ⟨_, hF⟩ := I.fr
  refine PySem.W.binop_K (op := op) hF I.ok.mod.kin J J'.type c.sf a1 a2 ?_
  refine wpAny_mono (run_fnS (us := [.ref a, .ref b]) (vs := [.ref a, .ref b]) G (hr.mono hj) bb (hx σ) I (.cons rfl (.cons rfl .nil)) q) ?_ fun _ _ z => z
  rintro w s' ⟨z, H', I', rz, qz⟩
  exact SlX.cmpback rz ⟨z, H', I', rz, qz⟩
end
/-- try: body / except c as n: suite, all that is raised caught -/
def tTryAs (K : PySem.W.Frag) (c : Value) (i : Nat) (tb : WX → TS) (ts : Addr → Value → Option Addr → TS) : TS := fun D σ H => tb (wAs K c i ts (fun _ _ _ _ => False) D) D σ H
/-- raise C(..), let out of the def -/
def tRaise (C : Addr) (sp : Sp) (t : TA) (E : XK) : TS := fun _ σ H => tMkO C sp [] t σ H fun cls d H' => E cls d H'
theorem refs0 : PySem.HandSPX.refsVE [.type "ValueError", .type "Exception", .type "BaseException", .type "object"] = true := by decide +kernel
theorem refs1 (c : Addr) : PySem.HandSPX.refsVE [.ref c, .type "ValueError", .type "Exception", .type "BaseException", .type "object"] = true := refs0
theorem exm_is {K : PySem.W.Frag} {D C : Addr} (T : XfC K C) (ty : PySem.W.typeIn K (.ref C) = some (.type "type")) (s : PySem.W.subIn K (.ref D) (.ref C) = some true) : PySem.W.exmOne K (.ref D) (.ref C) = some true :=
  PySem.W.exm_ref T.exC T.hdC ty s
end Pk
set_option Elab.async false
set_option linter.all false
set_option maxRecDepth 100000
set_option maxHeartbeats 2000000
namespace Pk
open PySem PySem.Spec L2 PyProof.Rows
section
variable {K : PySem.W.Frag} {C : Cs} {vs : List V} {H H' G G' : Hp} {Q : VK} {E : XK} {n : Nat}
structure FxToo (K : PySem.W.Frag) (C : Cs) : Prop where
  oex : OexC K C.TooMany
  nf : PySem.W.findIn K (.ref C.TooMany) "limit" = some none
  em : PySem.W.exmOne K (.ref C.TooMany) (.ref C.PipeError) = some true
def t_TooMany___init__ (K : PySem.W.Frag) : TS :=
  (tOst K "limit" (tVar 0) (tVar 1))
theorem ln_TooMany___init__ (h : rOneI K C.TooMany "limit" vs H Q E) : vs.length = 2 := by obtain ⟨_, _, rfl, _⟩ := h; rfl
theorem rd_TooMany___init__ (h : rOneI K C.TooMany "limit" vs H Q E) : t_TooMany___init__ K (EndsOf Q) (start ["", ""] vs) H := by
  obtain ⟨a, y, rfl, ox, nf, ha, k⟩ := h
  exact ⟨_, rfl, _, rfl, a, C.TooMany, rfl, ox, nf, .inl ⟨ha, k⟩⟩
/-- the Rule of two trees, or TooMany(6) -/
def Joins (K : PySem.W.Frag) (C : Cs) (H : Hp) (A B W : Tr) (Q : VK) (E : XK) : Prop :=
  (A.lv + B.lv ≤ 6 → ∀ x H', H x = none → Same H H' → RuleAt K C H' (.ref x) W → Q (.ref x) H') ∧ (6 < A.lv + B.lv → ∀ d H', H d = none → Same H H' → H' d = some (.xd [("limit", .int 6)]) → E (.ref C.TooMany) (some d) H')
def sp_joinedX (K : PySem.W.Frag) (C : Cs) : Sp := fun vs H Q E => ∃ (w : Str) (u v : V) (A B : Tr), vs = [.str w, u, v] ∧ (w = "or" ∨ w = "and") ∧ TrAt K H u A ∧ TrAt K H v B ∧ A.ok ∧ B.ok ∧ A.lv ≤ 6 ∧ B.lv ≤ 6 ∧ FxRule K C ∧ FxToo K C ∧ Joins K C H A B (Tr.join w A B) Q E
def t_joinedX (K : PySem.W.Frag) (C : Cs) (E : XK) : TS :=
  (tSeq (tIfS (tTest (tOp (rGtI) (tOp (rAddU K) (tCB (rLenU K) (tCons (tCall (sp_starts_of K) [] E0 (tCons (tVar 1) tNil)) tNil)) (tCB (rLenU K) (tCons (tCall (sp_starts_of K) [] E0 (tCons (tVar 2) tNil)) tNil))) (tC (.int 6)))) (tRaise C.TooMany (rOneI K C.TooMany "limit") (tCons (tC (.int 6)) tNil) E) tNext)
    (tRet (tMake C.Rule (sp_Rule___init__ K C) [] E0 (tCons (tTup (tCons (tVar 0) (tCons (tVar 1) (tCons (tVar 2) tNil)))) tNil))))
theorem ln_joinedX (h : sp_joinedX K C vs H Q E) : vs.length = 3 := by obtain ⟨_, _, _, _, _, rfl, _⟩ := h; rfl
theorem rd_joinedX (h : sp_joinedX K C vs H Q E) : t_joinedX K C E (EndsOf Q) (start ["", "", ""] vs) H := by
  obtain ⟨w, u, v, A, B, rfl, hw, hA, hB, oA, oB, lA, lB, fx, ft, k, kE⟩ := h
  refine ⟨_, rfl, u, A, rfl, hA, Tr.dp6 (by omega), by omega, fun p H1 hp s1 h1 => ?_⟩
  refine .inl ⟨_, _, rfl, .inl ⟨_, SqL.of h1, rfl⟩, ?_⟩
  refine ⟨_, rfl, v, B, rfl, hB.mono (Tups.same s1), Tr.dp6 (by omega), by omega, fun p2 H2 hp2 s2 h2 => ?_⟩
  refine .inl ⟨_, _, rfl, .inl ⟨_, SqL.of h2, rfl⟩, .inl ⟨_, _, rfl, rfl, _, _, rfl, rfl, _, rfl, ?_⟩⟩
  rw [List.length_map, List.length_map, A.starts_len, B.starts_len]
  have s := s1.trans s2
  refine ifD (fun c => ?_) (fun c => ?_)
  · exact made_err ft.oex ft.nf fun d H' hd s3 hx => kE (by omega) d H' (s.free hd) (s.trans s3) hx
  refine ⟨_, rfl, _, rfl, _, rfl, two_fit.2.2.1, fun q hq => ?_⟩
  have s3 := same_new (o := .tup [.str w, u, v]) hq
  have hT : TrAt K (upd H2 q (.tup [.str w, u, v])) (.ref q) (Tr.join w A B) := by
    unfold Tr.join
    rcases hw with rfl | rfl
    · rw [if_pos rfl]
      exact ⟨q, u, v, rfl, SqT.of upd_same, hA.mono (Tups.same (s.trans s3)), hB.mono (Tups.same (s.trans s3))⟩
    · rw [if_neg and_or]
      exact ⟨q, u, v, rfl, SqT.of upd_same, hA.mono (Tups.same (s.trans s3)), hB.mono (Tups.same (s.trans s3))⟩
  exact make_rule (t := tNil) (σ := []) fx (Tr.join_ok oA oB) (by rw [Tr.join_lv]; omega) hT fun x H' hx s4 r => k (by omega) x H' ((s.trans s3).free hx) ((s.trans s3).trans s4) r
def sp_Rule___or__X (K : PySem.W.Frag) (C : Cs) : Sp := fun vs H Q E => ∃ u v A B, vs = [u, v] ∧ RuleAt K C H u A ∧ RuleAt K C H v B ∧ FxToo K C ∧ Joins K C H A B (.or A B) Q E
def sp_Rule___and__X (K : PySem.W.Frag) (C : Cs) : Sp := fun vs H Q E => ∃ u v A B, vs = [u, v] ∧ RuleAt K C H u A ∧ RuleAt K C H v B ∧ FxToo K C ∧ Joins K C H A B (.and A B) Q E
def t_Rule___or__X (K : PySem.W.Frag) (C : Cs) (E : XK) : TS :=
  (tRet (tCall (sp_joinedX K C) [] E (tCons (tC (.str "or")) (tCons (tFld K (tVar 0) "_tree") (tCons (tFld K (tVar 1) "_tree") tNil)))))
def t_Rule___and__X (K : PySem.W.Frag) (C : Cs) (E : XK) : TS :=
  (tRet (tCall (sp_joinedX K C) [] E (tCons (tC (.str "and")) (tCons (tFld K (tVar 0) "_tree") (tCons (tFld K (tVar 1) "_tree") tNil)))))
theorem ln_Rule___or__X (h : sp_Rule___or__X K C vs H Q E) : vs.length = 2 := by obtain ⟨_, _, _, _, rfl, _⟩ := h; rfl
theorem ln_Rule___and__X (h : sp_Rule___and__X K C vs H Q E) : vs.length = 2 := by obtain ⟨_, _, _, _, rfl, _⟩ := h; rfl
theorem rd_Rule___or__X (h : sp_Rule___or__X K C vs H Q E) : t_Rule___or__X K C E (EndsOf Q) (start ["", ""] vs) H := by
  obtain ⟨u, v, A, B, rfl, ⟨a, dx, x, rfl, ha, hA, oA, lA, fx⟩, ⟨b, dy, y, rfl, hb, hB, oB, lB, _⟩, ft, k⟩ := h
  refine ⟨_, rfl, a, _, dx, _, x, rfl, ha, fx.cl, fx.no, rfl, _, rfl, b, _, dy, _, y, rfl, hb, fx.cl, fx.no, rfl, ?_⟩
  exact ⟨"or", x, y, A, B, rfl, .inl rfl, hA, hB, oA, oB, lA, lB, fx, ft, by unfold Tr.join; rw [if_pos rfl]; exact k⟩
theorem rd_Rule___and__X (h : sp_Rule___and__X K C vs H Q E) : t_Rule___and__X K C E (EndsOf Q) (start ["", ""] vs) H := by
  obtain ⟨u, v, A, B, rfl, ⟨a, dx, x, rfl, ha, hA, oA, lA, fx⟩, ⟨b, dy, y, rfl, hb, hB, oB, lB, _⟩, ft, k⟩ := h
  refine ⟨_, rfl, a, _, dx, _, x, rfl, ha, fx.cl, fx.no, rfl, _, rfl, b, _, dy, _, y, rfl, hb, fx.cl, fx.no, rfl, ?_⟩
  exact ⟨"and", x, y, A, B, rfl, .inr rfl, hA, hB, oA, oB, lA, lB, fx, ft, by unfold Tr.join; rw [if_neg and_or]; exact k⟩
theorem Own.weak {P : Program} {w : World} {mg : Str → Option Value} {base : Heap} {CX : CXT} {k : Nat} {D : Addr} {m : Str} {ps : List Str} {sp sp' : Sp} (o : Own P w K mg base CX k D m ps sp) (h : ∀ vs H Q E, sp' vs H Q E → sp vs H Q E) : Own P w K mg base CX k D m ps sp' := by
  obtain ⟨f, fd, G, r⟩ := o.ex
  exact ⟨f, fd, ⟨fun vs H Q E q => G.len vs H Q E (h _ _ _ _ q), fun A outer s H args us vs Q E hr e0 hb rv q => G.run A outer s H args us vs Q E hr e0 hb rv (h _ _ _ _ q)⟩, r⟩
theorem weak_Rule___or__ (ft : FxToo K C) (h : sp_Rule___or__ K C vs H Q E) : sp_Rule___or__X K C vs H Q E := by
  obtain ⟨u, v, A, B, rfl, hA, hB, l6, k⟩ := h
  exact ⟨u, v, A, B, rfl, hA, hB, ft, fun _ => k, fun c => absurd c (by omega)⟩
theorem weak_Rule___and__ (ft : FxToo K C) (h : sp_Rule___and__ K C vs H Q E) : sp_Rule___and__X K C vs H Q E := by
  obtain ⟨u, v, A, B, rfl, hA, hB, l6, k⟩ := h
  exact ⟨u, v, A, B, rfl, hA, hB, ft, fun _ => k, fun c => absurd c (by omega)⟩
end
end Pk
set_option Elab.async false
set_option linter.all false
set_option maxRecDepth 100000
set_option maxHeartbeats 2000000
namespace Pk
open PySem PySem.Spec L2 PyProof.Rows
/-! ### the law's own repeating -/
section
variable {T : Tr} {z w : Int} {M L : Nat} {c t p : Int}
theorem Rp.up (R : Rp T z w M L c t p) {p' : Int} (h : p ≤ p') (h2 : p' ≤ max p (T.pk z c L)) : Rp T z w M L c t p' := by
  have := R.p0
  have := R.pk
  exact ⟨R.c0, R.c1, by omega, R.le, R.kp, R.tot, by omega⟩
theorem Rp.go (R : Rp T z w M L c t p) (ok : T.ok) (z1 : 1 ≤ z) {n : Nat} (hL : n ≤ L) : Rp T z w M (L - n) (T.kp z c n) (t + c + n * z - T.kp z c n) (max p (T.pk z c n)) := by
  obtain ⟨b0, b1⟩ := Tr.kp_ok ok z1 R.c0 R.c1 n
  have el : ((L - n : Nat) : Int) * z = L * z - (n : Int) * z := by rw [Int.ofNat_sub hL, Int.sub_mul]
  have sp : L = n + (L - n) := by omega
  refine ⟨b0, b1, ?_, by have := R.le; omega, ?_, ?_, ?_⟩
  · have := R.p0; omega
  · rw [R.kp, ← Tr.kp_add, ← sp]
  · have := R.tot
    rw [el]
    omega
  · have h : T.pk z c L = max (T.pk z c n) (T.pk z (T.kp z c n) (L - n)) := by rw [← Tr.pk_add, ← sp]
    rw [R.pk, h]
    omega
theorem Tr.pk_ge1 : ∀ n : Nat, 1 ≤ n → c ≤ T.pk z c n
  | 1, _ => by
    show c ≤ max 0 c
    omega
  | n + 2, _ => by
    have := Tr.pk_ge1 (n + 1) (by omega)
    rw [Tr.pk_s]
    omega
theorem Tr.pk_up {n m : Nat} (h : n ≤ m) : T.pk z c n ≤ T.pk z c m := by
  rw [show m = n + (m - n) by omega, Tr.pk_add]
  omega
end
/-- what was seen, as numbers -/
def SeenN (lo : Nat) (T : Tr) (z : Int) (kvs : List (Key × V)) (L : Nat) (c p : Int) : Prop :=
  ∀ i v, valV kvs (.inl i) = some v → ∃ (l' : Int) (e : Nat), v = .int l' ∧ l' = (L : Int) + e ∧ T.kp z i e = c ∧ T.pk z i e ≤ p ∧ lo ≤ e ∧ l' ≤ 10 ^ 40
section
variable {T : Tr} {z w : Int} {M L lo : Nat} {c t p : Int} {kvs : List (Key × V)}
theorem SeenN.go (S : SeenN lo T z kvs L c p) {n : Nat} {p' : Int} (hL : n ≤ L) (hp : p ≤ p') (hp2 : T.pk z c n ≤ p') : SeenN (lo + n) T z kvs (L - n) (T.kp z c n) p' := fun i v h => by
  obtain ⟨l', e, h1, h2, h3, h4, h5, h6⟩ := S i v h
  refine ⟨l', e + n, h1, by omega, ?_, ?_, by omega, h6⟩
  · rw [Tr.kp_add, h3]
  · rw [Tr.pk_add, h3]
    omega
theorem SeenN.put (S : SeenN lo T z kvs L c p) (hp : 0 ≤ p) (hL : (L : Int) ≤ 10 ^ 40) : SeenN 0 T z (putK kvs (.inl c) (.int L)) L c p := fun i v h => by
  rw [valV_put] at h
  by_cases e : i = c
  · subst e
    rw [if_pos rfl] at h
    cases h
    exact ⟨L, 0, rfl, by omega, rfl, hp, Nat.le_refl _, hL⟩
  · rw [if_neg (fun z => e (Sum.inl.inj z))] at h
    obtain ⟨l', e, h1, h2, h3, h4, _, h6⟩ := S i v h
    exact ⟨l', e, h1, h2, h3, h4, Nat.zero_le _, h6⟩
theorem SeenN.nil : SeenN 0 T z [] L c p := fun i v h => nomatch h
end
theorem quiet_ok {top c z : Int} (h : c < top) (z1 : 1 ≤ z) : 0 ≤ (top - 1 - c) / z ∧ c + (top - 1 - c) / z * z < top ∧ top ≤ c + ((top - 1 - c) / z + 1) * z ∧ (top - 1 - c) / z ≤ top - 1 - c := by
  have e := Int.emod_def (top - 1 - c) z
  have r0 := Int.emod_nonneg (top - 1 - c) (show z ≠ 0 by omega)
  have r1 := Int.emod_lt_of_pos (top - 1 - c) (show 0 < z by omega)
  have d0 := Int.ediv_nonneg (show 0 ≤ top - 1 - c by omega) (show 0 ≤ z by omega)
  have s := Int.ediv_le_self z (show 0 ≤ top - 1 - c by omega)
  generalize (top - 1 - c) / z = q at *
  have e2 : z * q = q * z := Int.mul_comm _ _
  have e3 : (q + 1) * z = q * z + z := by rw [Int.add_mul]; omega
  exact ⟨d0, by omega, by omega, s⟩
section
variable {K : PySem.W.Frag} {C : Cs} {vs : List V} {H H' G G' : Hp} {Q : VK} {E : XK} {n : Nat}
def sp_law_repeat (K : PySem.W.Frag) : Sp := fun vs H Q _ => ∃ v T w z, ∃ m : Nat, vs = [v, .int w, .int z, .int m] ∧ TrAt K H v T ∧ T.ok ∧ T.dp ≤ 7 ∧ 0 ≤ w ∧ w < T.top ∧ 1 ≤ z ∧ z ≤ 10 ^ 40 ∧ (m : Int) ≤ 10 ^ 40 ∧
  ∀ p H', H p = none → Same H H' → SqT K H' p [.int (T.kp z w m), .int (max w (T.pk z w m))] → Q (.ref p) H'
def t_law_repeat (K : PySem.W.Frag) : TS :=
  (tSeq (tPar3 4 5 6 (tCons (tCall (sp_law_threshold K 7) [] E0 (tCons (tVar 0) tNil)) (tCons (tVar 1) (tCons tDNewK tNil))))
    (tSeq (tWhile (tTest (tOp (rGtI) (tVar 3) (tC (.int 0)))) (tSeq (tAsg (tCB (rMin2) (tCons (tVar 3) (tCons (tOp (rDivI) (tCB (rMax2) (tCons (tC (.int 0)) (tCons (tOp (rSubI) (tOp (rSubI) (tVar 4) (tC (.int 1))) (tVar 1)) tNil))) (tVar 2)) tNil))) (gName 7))
    (tSeq (tAsg (tCB (rMax2) (tCons (tVar 5) (tCons (tOp (rAddU K) (tVar 1) (tOp (rMulU K) (tCB (rMax2) (tCons (tC (.int 0)) (tCons (tOp (rSubI) (tVar 7) (tC (.int 1))) tNil))) (tVar 2))) tNil))) (gName 5))
    (tSeq (tPar 3 1 (tCons (tOp (rSubI) (tVar 3) (tVar 7)) (tCons (tOp (rAddU K) (tVar 1) (tOp (rMulU K) (tVar 7) (tVar 2))) tNil)))
    (tIfS (tTest (tOp (rGtI) (tVar 3) (tC (.int 0)))) (tSeq (tPar 5 3 (tCons (tCB (rMax2) (tCons (tVar 5) (tCons (tVar 1) tNil))) (tCons (tOp (rSubI) (tVar 3) (tC (.int 1))) tNil)))
    (tSeq (tAsg (tOp (rSubI) (tOp (rAddU K) (tVar 1) (tVar 2)) (tCall (sp_law_give K 7) [] E0 (tCons (tVar 0) (tCons (tOp (rAddU K) (tVar 1) (tVar 2)) tNil)))) (gName 1))
    (tIfS (tB (tDIn (tVar 1) (tVar 6))) (tSeq (tAsg (tOp (rModI) (tCB (rIntU) (tCons (tVar 3) tNil)) (tOp (rSubI) (tDGet (tVar 6) (tVar 1)) (tVar 3))) (gName 3))
    (tAsg tDNewK (gName 6))) (tAsg (tVar 3) (gSub (tVar 6) (tVar 1) rSetD))))) tNext)))))
    (tRet (tTup (tCons (tVar 1) (tCons (tVar 5) tNil))))))
theorem ln_law_repeat (h : sp_law_repeat K vs H Q E) : vs.length = 4 := by obtain ⟨_, _, _, _, _, rfl, _⟩ := h; rfl
theorem rd_law_repeat (h : sp_law_repeat K vs H Q E) : t_law_repeat K (EndsOf Q) (start ["", "", "", "", "", "", "", ""] vs) H := by
  obtain ⟨v, T, w, z, M, rfl, hT, ok, hd, w0, w1, z1, z2, m2, k⟩ := h
  obtain ⟨t1, t2⟩ := Tr.top_ok ok
  refine ⟨_, rfl, v, T, rfl, hT, hd, fun H1 s1 => ⟨_, rfl, fun D hD => ⟨_, _, _, rfl, ?_⟩⟩⟩
  have s2 := s1.trans (same_new (o := .dK []) hD)
  refine ⟨fun mm σ' G => ∃ (L : Nat) (c t p : Int) (D : Addr) (kvs : List (Key × V)) (s7 : Option V), σ' = [some v, some (.int c), some (.int z), some (.int L), some (.int T.top), some (.int p), some (.ref D), s7] ∧
    L = mm ∧ Same H G ∧ H D = none ∧ G D = some (.dK kvs) ∧ kvs.length ≤ cnt kvs ∧ Rp T z w M L c t p ∧ SeenN 0 T z kvs L c p,
    ⟨_, M, w, 0, w, D, [], none, rfl, rfl, s2, s1.free hD, upd_same, Nat.zero_le _, ⟨w0, w1, w0, Nat.le_refl _, rfl, by omega, rfl⟩, SeenN.nil⟩, ?_⟩
  clear s1 s2 hD D H1
  rintro mm σ' G ⟨L, c, t, p, D, kvs, s7, rfl, rfl, s, hD, hG, hl, P, S⟩
  have c0 := P.c0
  have c1 := P.c1
  have lM := P.le
  have p0 := P.p0
  have lims : (10 : Int) ^ 50 + 10 ^ 40 ≤ 10 ^ 100 := by decide
  refine ⟨_, rfl, _, _, rfl, rfl, _, rfl, ?_⟩
  refine ifD (fun cc => ?_) (fun cc => ?_)
  · refine ⟨fun σ2 H2 => ∃ (L2 : Nat) (c t p : Int) (D : Addr) (kvs : List (Key × V)) (s7 : Option V), σ2 = [some v, some (.int c), some (.int z), some (.int L2), some (.int T.top), some (.int p), some (.ref D), s7] ∧
      L2 < L ∧ Same H H2 ∧ H D = none ∧ H2 D = some (.dK kvs) ∧ kvs.length ≤ cnt kvs ∧ Rp T z w M L2 c t p ∧ SeenN 0 T z kvs L2 c p,
      fun σ2 H2 ⟨L2, c, t, p, D, kvs, s7, a1, a2, a3, a4, a5, a6, a7, a8⟩ => ⟨_, a2, L2, c, t, p, D, kvs, s7, a1, rfl, a3, a4, a5, a6, a7, a8⟩, ?_⟩
    obtain ⟨q0, q1, q2, q3⟩ := quiet_ok c1 z1
    -- so many give nothing
    refine ⟨_, rfl, _, rfl, _, _, rfl, rfl, _, rfl, _, _, rfl, rfl, _, _, rfl, ?_⟩
    refine ⟨_, rfl, _, _, rfl, rfl, div_ok (by omega) (by omega), _, _, rfl, ?_⟩
    rw [show (if T.top - 1 - c > 0 then T.top - 1 - c else 0) = T.top - 1 - c by split <;> omega]
    generalize hq : (T.top - 1 - c) / z = q at q0 q1 q2 q3 ⊢
    obtain ⟨n, hn, nL, nq, nl⟩ : ∃ n : Nat, (if q < (L : Int) then q else (L : Int)) = n ∧ n ≤ L ∧ (n : Int) ≤ q ∧ (n < L → (n : Int) = q) := by
      refine ⟨(if q < (L : Int) then q else (L : Int)).toNat, by split <;> omega, by split <;> omega, by split <;> omega, ?_⟩
      split <;> omega
    show tSeq _ _ _ [some v, some (.int c), some (.int z), some (.int L), some (.int T.top), some (.int p), some (.ref D), some (.int (if q < (L : Int) then q else (L : Int)))] G
    rw [hn]
    have nz : (n : Int) * z ≤ q * z := Int.mul_le_mul_of_nonneg_right nq (by omega)
    have nz0 : 0 ≤ (n : Int) * z := Int.mul_nonneg (by omega) (by omega)
    have few := Tr.kp_few ok z1 c0 n (by omega)
    have pk1 : c + (if (n : Int) - 1 > 0 then (n : Int) - 1 else 0) * z ≤ T.pk z c L ∧ T.pk z c n ≤ max p (c + (if (n : Int) - 1 > 0 then (n : Int) - 1 else 0) * z) ∧ 0 ≤ (if (n : Int) - 1 > 0 then (n : Int) - 1 else 0) * z := by
      cases n with
      | zero =>
        rw [if_neg (by omega), Int.zero_mul]
        have := Tr.pk_ge1 (T := T) (z := z) (c := c) L (by omega)
        have e : T.pk z c 0 = 0 := rfl
        omega
      | succ n =>
        have e : ((n + 1 : Nat) : Int) - 1 = n := by omega
        have e2 : (if (n : Int) > 0 then (n : Int) else 0) = n := by split <;> omega
        have e3 : ((n + 1 : Nat) : Int) * z = n * z + z := by rw [Int.natCast_add, Int.add_mul]; omega
        have f2 := (Tr.kp_few ok z1 c0 n (by omega)).2
        have f3 := Tr.pk_up (T := T) (z := z) (c := c) nL
        have nn : 0 ≤ (n : Int) * z := Int.mul_nonneg (by omega) (by omega)
        rw [e, e2]
        omega
    obtain ⟨u1, u2, u3⟩ := pk1
    refine ⟨_, rfl, _, rfl, _, rfl, _, _, rfl, rfl, _, _, rfl, _, rfl, .inl ⟨_, _, rfl, rfl, mul_ok (by split <;> omega) (by omega), .inl ⟨_, _, rfl, rfl, _, _, rfl, ?_⟩⟩⟩
    show tSeq _ _ _ [some v, some (.int c), some (.int z), some (.int L), some (.int T.top), some (.int (if c + (if (n : Int) - 1 > 0 then (n : Int) - 1 else 0) * z > p then c + (if (n : Int) - 1 > 0 then (n : Int) - 1 else 0) * z else p)), some (.ref D), some (.int n)] G
    rw [imax_eq]
    have P1 := P.up (p' := max p (c + (if (n : Int) - 1 > 0 then (n : Int) - 1 else 0) * z)) (by omega) (by omega)
    have hp1 : p ≤ max p (c + (if (n : Int) - 1 > 0 then (n : Int) - 1 else 0) * z) := by omega
    generalize max p (c + (if (n : Int) - 1 > 0 then (n : Int) - 1 else 0) * z) = p1 at P1 u2 hp1 ⊢
    have P2 := P1.go ok z1 nL
    rw [show max p1 (T.pk z c n) = p1 by omega] at P2
    have S2 := S.go (p' := p1) nL hp1 u2
    rw [few.1] at P2 S2
    have eL : (L : Int) - n = ((L - n : Nat) : Int) := by omega
    refine ⟨_, rfl, _, rfl, _, _, rfl, rfl, _, rfl, _, rfl, _, rfl, .inl ⟨_, _, rfl, rfl, mul_ok (by omega) (by omega), .inl ⟨_, _, rfl, rfl, _, _, rfl, ?_⟩⟩⟩
    dsimp only
    rw [eL]
    have c10 := P2.c0
    have c11 := P2.c1
    have L1le : L - n ≤ L := by omega
    have gives : 0 < L - n → T.top ≤ c + n * z + z := by
      intro h
      have e := nl (by omega)
      have e3 : (q + 1) * z = q * z + z := by rw [Int.add_mul]; omega
      rw [← e] at q2 e3
      omega
    have lt1 : L - n = 0 → 0 < L := by omega
    have cL : 0 < L := by omega
    clear P P1 S u1 u2 u3 few hn nz nz0 nq nl eL hq q0 q1 q2 q3 c0 c1 cc lt1
    generalize c + (n : Int) * z = c1 at P2 S2 c10 c11 gives ⊢
    generalize t + c + (n : Int) * z - c1 = t1' at P2
    refine ⟨_, rfl, _, _, rfl, rfl, _, rfl, ?_⟩
    refine ifD (fun c2 => ?_) (fun c2 => ?_)
    · -- the next one gives
      generalize hL1 : L - n = L1 at *
      have P3 := P2.go ok z1 (n := 1) (by omega)
      have S3 := S2.go (n := 1) (p' := max p1 (T.pk z c1 1)) (by omega) (by omega) (by omega)
      have ep : T.pk z c1 1 = c1 := by
        show max 0 c1 = c1
        omega
      have ek : T.kp z c1 1 = c1 + z - T.give (c1 + z) := rfl
      rw [ep, ek] at P3 S3
      have am0 : 0 ≤ c1 + z := by omega
      obtain ⟨by1, by2, by3⟩ := Tr.rest_by ok am0 (gives (by omega))
      obtain ⟨by4, by5⟩ := Tr.by_ok ok _ by2
      have small : c1 + z - T.give (c1 + z) < 6 := by
        rw [by3]
        have := Int.emod_lt_of_pos (c1 + z) (show 0 < by1 by omega)
        omega
      have e1 : (L1 : Int) - 1 = ((L1 - 1 : Nat) : Int) := by omega
      refine ⟨_, rfl, _, rfl, _, _, rfl, _, rfl, _, _, rfl, rfl, _, _, rfl, ?_⟩
      show tSeq _ _ _ [some v, some (.int c1), some (.int z), some (.int ((L1 : Int) - 1)), some (.int T.top), some (.int (if c1 > p1 then c1 else p1)), some (.ref D), some (.int n)] G
      rw [imax_eq, e1]
      refine ⟨_, rfl, _, rfl, .inl ⟨_, _, rfl, rfl, _, rfl, _, rfl, _, rfl, .inl ⟨_, _, rfl, rfl, v, T, _, rfl, hT.mono (Tups.same s), ok, hd, fun G1 g1 => ⟨_, _, rfl, rfl, ?_⟩⟩⟩⟩
      dsimp only
      have hG1 := g1 _ _ hG
      have sG := s.trans g1
      have c30 := P3.c0
      have lt : L1 - 1 < L := by omega
      have l40 : ((L1 - 1 : Nat) : Int) ≤ 10 ^ 40 := by omega
      clear P2 S2 ep ek by1 by2 by3 by4 by5 gives c10 c11 am0 e1 hL1 c2 hG
      generalize c1 + z - T.give (c1 + z) = c3 at *
      generalize L1 - 1 = L2 at *
      generalize max p1 c1 = p3 at *
      refine ⟨_, rfl, _, rfl, D, valV kvs (.inl c3), rfl, DGet.k (k := .inl c3) hG1, _, rfl, ?_⟩
      cases ev : valV kvs (.inl c3) with
      | some y =>
        refine iteT' rfl ?_
        obtain ⟨l', e, rfl, h2, h3, h4, h5, h6⟩ := S3 c3 y ev
        have d1 : 1 ≤ e := by omega
        have em : (L2 : Int) % (l' - L2) = ((L2 - L2 / e * e : Nat) : Int) := by
          rw [show l' - (L2 : Int) = (e : Int) by omega, Int.ofNat_sub (Nat.div_mul_le_self L2 e), Int.natCast_mul, Int.natCast_ediv, Int.emod_def, Int.mul_comm]
        refine ⟨_, rfl, .inl (.inl ⟨_, rfl, _, rfl, _, rfl, D, .int l', rfl, (by rw [← ev]; exact DGet.k (k := .inl c3) hG1), _, rfl, _, _, rfl, rfl, _, _, rfl, rfl, (by show (0 : Int) < l' - L2; omega), fun D2 hD2 => ?_⟩)⟩
        refine ⟨L2 - L2 / e * e, c3, _, p3, D2, [], some (.int n), ?_, by omega, sG.trans (same_new hD2), sG.free hD2, upd_same, Nat.zero_le _, P3.skip h3 h4 d1, SeenN.nil⟩
        rw [← em]
        rfl
      | none =>
        refine iteF' rfl ?_
        refine ⟨_, rfl, _, rfl, _, rfl, D, _, rfl, DPut.k (k := .inl c3) hG1 (by have := cnt_le kvs; exact small1000 (by omega)), ?_⟩
        exact ⟨L2, c3, _, p3, D, _, some (.int n), rfl, lt, other_same sG hD, hD, upd_same, cnt_put ev c30 small hl, P3, S3.put P3.p0 l40⟩
    · -- none is left
      obtain ⟨hz⟩ : L - n = 0 ∧ True := ⟨by omega, trivial⟩
      refine ⟨L - n, c1, _, p1, D, kvs, _, rfl, by omega, s, hD, hG, hl, P2, fun i y hy => ?_⟩
      obtain ⟨l', e, h1, h2, h3, h4, h5, h6⟩ := S2 i y hy
      exact ⟨l', e, h1, h2, h3, h4, Nat.zero_le _, h6⟩
  · -- none is left
    obtain rfl : L = 0 := by omega
    have e1 := P.kp
    have e2 := P.pk
    have e3 : T.pk z c 0 = 0 := rfl
    have e4 : T.kp z c 0 = c := rfl
    rw [e4] at e1
    rw [e3] at e2
    have e5 : max w (T.pk z w M) = p := by omega
    refine ⟨_, rfl, _, rfl, two_fit.2.1, fun q hq => k q _ (s.free hq) (s.trans (same_new hq)) ?_⟩
    rw [e1, e5]
    exact SqT.of upd_same
end
end Pk
set_option Elab.async false
set_option linter.all false
set_option maxRecDepth 100000
set_option maxHeartbeats 2000000
namespace Pk
open PySem PySem.Spec L2 PyProof.Rows
/-! ### in a try's body: by the slots -/
section
variable {X : Cx} {CX : CXT} {k j i : Nat} {C : Addr} {ps : List Str} {sp : Sp} {x m : Str} {p pos apos : Pos} {e o : Expr} {es : List Expr} {ta : TE} {t : TA} {E : L2.St → XK}
/-- name op= e, what may let an error out -/
def tAugO (i : Nat) (te : TE) (r : L2.St → TIp) : TS := fun D σ H => ∃ x, σ[i]? = some (some x) ∧ te σ H fun y H1 => r σ x y H1 fun z H2 => D.nx (σ.set i (some z)) H2
theorem ps_augO {op : Operator} {r : L2.St → TIp} {pos' : Pos} (hN : X.N.Nodup) (hi : X.N[i]? = some x) (hx : Loc X.env.scope x) (he : PE X e ta)
    (ho : ∀ (pins : List (Addr × Obj)) (s : Shared) (σ : L2.St) (H : Hp) (u v : V) (ov iv : Value) (Q : VK), Inv X pins σ H s → RelV u ov → RelV v iv → r σ u v H Q → wpAny (model X.prog X.w) X.A (inplaceOp op ov iv) (EP X pins σ Q) X.xe s)
    (hf : X.fn x = true ∨ X.env.scope.names.lookup x = some .local := by first | exact .inl rfl | exact .inr rfl | assumption) : PS X (.AugAssign (.Name x pos') op e pos) (tAugO i ta r) := by
  constructor
  intro pins s σ H D I h
  obtain ⟨v, at_, q⟩ := h
  obtain ⟨_, nn, ll⟩ := I.loc
  obtain ⟨u, ru, pl⟩ := ll i x v hi at_ (hx.elim (fun z => .inl z) fun z => .inr (.inl z))
  apply wpAny_AugAssign_Name
  have body : wpAny (model X.prog X.w) X.A (eval e X.env) (fun w t2 => wpAny (model X.prog X.w) X.A (inplaceOp op u w) (fun y t3 => wpAny (model X.prog X.w) X.A (storeName X.env x y) (fun _ => SP X pins D .next) X.xe t3) X.xe t2) X.xe s :=
    thn (he.run pins s σ H _ I q) fun w t1 ⟨yv, K1, J1, ry, q1⟩ => thn (ho pins t1 σ K1 v yv u w _ J1 ru ry q1) fun y t2 ⟨zv, K2, J2, rz, q2⟩ => store_ok J2 hN hi hx rz (fun _ J3 => ⟨_, K2, J3, q2⟩) hf
  cases pl with
  | inl a => exact wpAny_loadName_local I.ok.kind a.1 nn a.2 body
  | inr a =>
    obtain ⟨hk, c, hc, cell⟩ := a
    cases hk with
    | inl hk => exact wpAny_loadName_cell I.ok.kind hk hc cell body
    | inr hk =>
      cases hx with
      | inl z => cases (show some NameKind.local = some NameKind.free from z.symm.trans hk)
      | inr z => cases (show some NameKind.cell = some NameKind.free from z.symm.trans hk)
theorem ip_ownS {op : Operator} (c : Kls X.K X.mg x C) (F : Own X.prog X.w X.K X.mg X.base CX k C (dunderI op.info.2) ps sp) (hr : Room j X.A) (hx : ∀ σ, PassesAt CX X σ (E σ)) (hj : k ≤ j := by first | decide | omega)
    (pins : List (Addr × Obj)) (s : Shared) (σ : L2.St) (H : Hp) (u v : V) (ov iv : Value) (Q : VK) (I : Inv X pins σ H s) (ru : RelV u ov) (rv : RelV v iv) (h : ipOwn C sp (E σ) u v H Q) : wpAny (model X.prog X.w) X.A (inplaceOp op ov iv) (EP X pins σ Q) X.xe s := by
  obtain ⟨f, fd, G, a1, a2, a3, a4, bb⟩ := F.ex
  obtain ⟨a, dx, fs, rfl, ha, q⟩ := h
  cases (show ov = Value.ref a from ru)
  obtain ⟨_, O, _⟩ := ins_get I.hok ha
  obtain ⟨od, J, _⟩ := O.look
  obtain ⟨_, hF⟩ := I.fr
  refine PySem.W.ksp_inplace (op := op) hF I.ok.mod.kin J c.sf a1 a2 ?_
  refine wpAny_mono (run_fnS (us := [.ref a, iv]) (vs := [.ref a, v]) G (hr.mono hj) bb (hx σ) I (.cons rfl (.cons rv .nil)) q) ?_ fun _ _ z => z
  rintro w s' ⟨z, H', I', rz, qz⟩
  exact SlX.cmpback rz ⟨z, H', I', rz, qz⟩
/-- o.m(e, ..), what may let an error out -/
def tMethO (C : Addr) (m : Str) (sp : Sp) (E : L2.St → XK) (ta : TE) (t : TA) : TE := fun σ H Q => ta σ H fun x H1 => ∃ a dx fs, x = .ref a ∧ H1 a = some (.ins C dx fs) ∧ fs.lookup m = none ∧ t σ H1 fun vs H2 => sp (.ref a :: vs) H2 Q (E σ)
theorem pe_mtO (c : Kls X.K X.mg x C) (F : Own X.prog X.w X.K X.mg X.base CX k C m ps sp) (he : PE X o ta) (hr : Room j X.A) (hx : ∀ σ, PassesAt CX X σ (E σ)) (ha : PA X (e :: es) t) (hj : k ≤ j := by first | decide | omega)
    {pl : Sem Bool} (hst : starEach (e :: es) X.env = (false, eval e X.env) :: starEach es X.env := by rfl) (hpl : (backTo pos (starEach es X.env)).any (·.1) = false := by rfl)
    (ht : eval (.Call (.Attribute o m apos) (e :: es) [] pos) X.env = (do
      let ov ← eval o X.env
      standAt apos.atName
      let (f, first) ← holding [ov] (getMethod ov m pl)
      callWith pos f first (backTo pos (starEach (e :: es) X.env)) (backToKw pos (keywordEach [] X.env))) := by rfl) :
    PE X (.Call (.Attribute o m apos) (e :: es) [] pos) (tMethO C m sp E ta t) := by
  obtain ⟨f, fd, G, a1, a2, a3, _, b⟩ := F.ex
  constructor
  intro pins s σ H Q I h
  refine PySem.W.methodCall_KW (pl := pl) (thn (he.run pins s σ H _ I h) fun u t1 ⟨y, K1, J1, ry, a, dx, fs, ey, ea, lk, q⟩ => ?_) ht
  cases ey
  cases (show u = Value.ref a from ry)
  apply getmeth_ok J1 ea c.cl ⟨a1, a2, a3⟩ lk
  exact PySem.W.callWith_K (first := [.ref a]) (h₀ := X.base) I.ok.mod.kin a3 (thn (ha.run pos pins t1 σ K1 _ J1 q) fun us t2 ⟨vs, K2, J2, rv, q2⟩ => ⟨J2.kIn, run_fnS (us := .ref a :: us) (vs := .ref a :: vs) G (hr.mono hj) b (hx σ) J2 (.cons rfl rv) q2⟩) hst hpl
end
/-! ### one of two errors caught -/
def rOrL (r r' : List V → Hp → VK → Prop) : List V → Hp → VK → Prop := fun xs H Q => r xs H Q ∨ r' xs H Q
def tEither (ta tb : TE) : TE := fun σ H Q => ta σ H Q ∨ tb σ H Q
theorem pe_either {X : Cx} {e : Expr} {ta tb : TE} (ha : PE X e ta) (hb : PE X e tb) : PE X e (tEither ta tb) := ⟨fun pins s σ H Q I h => h.elim (ha.run pins s σ H Q I) (hb.run pins s σ H Q I)⟩
/-! ### Accounts that refuse -/
section
variable {K : PySem.W.Frag} {C : Cs} {vs : List V} {H H' G G' : Hp} {Q : VK} {E : XK} {n : Nat} {v : V} {cr u w : Int} {T : Tr} {a b : Addr}
structure FxOut (K : PySem.W.Frag) (C : Cs) : Prop where
  ox : OexC K C.Overdrawn
  np : OexC K C.NotPassed
  fo : PySem.W.findIn K (.ref C.Overdrawn) "many" = some none
  fn : PySem.W.findIn K (.ref C.NotPassed) "many" = some none
  eo : PySem.W.exmOne K (.ref C.Overdrawn) (.ref C.PipeError) = some true
  en : PySem.W.exmOne K (.ref C.NotPassed) (.ref C.PipeError) = some true
  ko : PySem.W.kitOne K (.ref C.Overdrawn) (.ref C.NotPassed) = some false
  kn : PySem.W.kitOne K (.ref C.NotPassed) (.ref C.Overdrawn) = some false
def t_Overdrawn___init__ (K : PySem.W.Frag) : TS :=
  (tOst K "many" (tVar 0) (tVar 1))
def t_NotPassed___init__ (K : PySem.W.Frag) : TS :=
  (tOst K "many" (tVar 0) (tVar 1))
theorem ln_Overdrawn___init__ (h : rOneI K C.Overdrawn "many" vs H Q E) : vs.length = 2 := by obtain ⟨_, _, rfl, _⟩ := h; rfl
theorem ln_NotPassed___init__ (h : rOneI K C.NotPassed "many" vs H Q E) : vs.length = 2 := by obtain ⟨_, _, rfl, _⟩ := h; rfl
theorem rd_Overdrawn___init__ (h : rOneI K C.Overdrawn "many" vs H Q E) : t_Overdrawn___init__ K (EndsOf Q) (start ["", ""] vs) H := by
  obtain ⟨a, y, rfl, ox, nf, ha, k⟩ := h
  exact ⟨_, rfl, _, rfl, a, _, rfl, ox, nf, .inl ⟨ha, k⟩⟩
theorem rd_NotPassed___init__ (h : rOneI K C.NotPassed "many" vs H Q E) : t_NotPassed___init__ K (EndsOf Q) (start ["", ""] vs) H := by
  obtain ⟨a, y, rfl, ox, nf, ha, k⟩ := h
  exact ⟨_, rfl, _, rfl, a, _, rfl, ox, nf, .inl ⟨ha, k⟩⟩
/-- an error with the field many is let out, nothing is changed -/
def Lets (D : Addr) (m : Int) (H : Hp) (E : XK) : Prop := ∀ d H', H d = none → Same H H' → H' d = some (.xd [("many", .int m)]) → E (.ref D) (some d) H'
def sp_Account___isub__X (K : PySem.W.Frag) (C : Cs) : Sp := fun vs H Q E => ∃ a cr T u w m, vs = [.ref a, .int m] ∧ AccAt K C H (.ref a) cr T u w ∧ FxOut K C ∧ (m ≤ cr - u - w → ∀ H', Kp a H H' → AccAt K C H' (.ref a) cr T (u + m) w → Q (.ref a) H') ∧ (cr - u - w < m → Lets C.Overdrawn m H E)
def sp_Account___iadd__X (K : PySem.W.Frag) (C : Cs) : Sp := fun vs H Q E => ∃ a cr T u w m, vs = [.ref a, .int m] ∧ AccAt K C H (.ref a) cr T u w ∧ FxOut K C ∧ (m ≤ u → ∀ H', Kp a H H' → AccAt K C H' (.ref a) cr T (u - m) (w + m - T.give (w + m)) → Q (.ref a) H') ∧ (u < m → Lets C.NotPassed m H E)
def t_Account___isub__X (K : PySem.W.Frag) (C : Cs) (E : XK) : TS :=
  (tSeq (tIfS (tTest (tOp (rGtI) (tVar 1) (tProp C.Account (sp_Account_left K C) [] E0 (tVar 0)))) (tRaise C.Overdrawn (rOneI K C.Overdrawn "many") (tCons (tVar 1) tNil) E) tNext)
    (tSeq (sFld K (tVar 0) (tOp (rAddU K) (tFld K (tVar 0) "_unpassed") (tVar 1)) "_unpassed")
    (tRet (tVar 0))))
def t_Account___iadd__X (K : PySem.W.Frag) (C : Cs) (E : XK) : TS :=
  (tSeq (tIfS (tTest (tOp (rGtI) (tVar 1) (tFld K (tVar 0) "_unpassed"))) (tRaise C.NotPassed (rOneI K C.NotPassed "many") (tCons (tVar 1) tNil) E) tNext)
    (tSeq (sFld K (tVar 0) (tOp (rSubI) (tFld K (tVar 0) "_unpassed") (tVar 1)) "_unpassed")
    (tSeq (sFld K (tVar 0) (tMeth C.Rule "rest" (sp_Rule_rest K C) [] E0 (tFld K (tVar 0) "_rule") (tCons (tOp (rAddU K) (tFld K (tVar 0) "_withheld") (tVar 1)) tNil)) "_withheld")
    (tRet (tVar 0)))))
theorem ln_Account___isub__X (h : sp_Account___isub__X K C vs H Q E) : vs.length = 2 := by obtain ⟨_, _, _, _, _, _, rfl, _⟩ := h; rfl
theorem ln_Account___iadd__X (h : sp_Account___iadd__X K C vs H Q E) : vs.length = 2 := by obtain ⟨_, _, _, _, _, _, rfl, _⟩ := h; rfl
theorem rd_Account___isub__X (h : sp_Account___isub__X K C vs H Q E) : t_Account___isub__X K C E (EndsOf Q) (start ["", ""] vs) H := by
  obtain ⟨a, cr, T, u, w, m, rfl, A, fo, k, kE⟩ := h
  obtain ⟨_, dx, r, e, ha, hr, fa⟩ := id A
  cases e
  refine ⟨_, rfl, _, rfl, a, dx, _, rfl, ha, _, cr, T, u, w, rfl, A, _, _, rfl, rfl, _, rfl, ?_⟩
  refine ifD (fun c => ⟨_, rfl, made_err fo.ox fo.fo (kE c)⟩) (fun c => ?_)
  refine ⟨_, rfl, a, _, dx, _, _, rfl, ha, fa.cl, fa.n3, lk_un, _, rfl, .inl ⟨_, _, rfl, rfl, _, rfl, a, _, dx, _, rfl, ha, fa.cl, fa.n3, rfl4, ?_⟩⟩
  rw [put_un]
  exact ⟨_, rfl, k (by omega) _ kp_put (AccAt.put ha hr fa)⟩
theorem rd_Account___iadd__X (h : sp_Account___iadd__X K C vs H Q E) : t_Account___iadd__X K C E (EndsOf Q) (start ["", ""] vs) H := by
  obtain ⟨a, cr, T, u, w, m, rfl, A, fo, k, kE⟩ := h
  obtain ⟨_, dx, r, e, ha, hr, fa⟩ := id A
  cases e
  refine ⟨_, rfl, _, rfl, a, _, dx, _, _, rfl, ha, fa.cl, fa.n3, lk_un, _, _, rfl, rfl, _, rfl, ?_⟩
  refine ifD (fun c => ⟨_, rfl, made_err fo.np fo.fn (kE c)⟩) (fun c => ?_)
  refine ⟨_, rfl, a, _, dx, _, _, rfl, ha, fa.cl, fa.n3, lk_un, _, rfl, _, _, rfl, rfl, _, rfl, a, _, dx, _, rfl, ha, fa.cl, fa.n3, rfl4, ?_⟩
  rw [put_un]
  have hr1 := hr.keep (H' := upd H a (.ins C.Account dx (accF cr r (u - m) w))) ha (fun d x z => no_tree rfl z) (fun _ z => nomatch z) (fun _ _ z => nomatch z) kp_put
  have ha1 : (upd H a (.ins C.Account dx (accF cr r (u - m) w))) a = some (.ins C.Account dx (accF cr r (u - m) w)) := upd_same
  have k1 : Kp a H (upd H a (.ins C.Account dx (accF cr r (u - m) w))) := kp_put
  show tSeq _ _ _ _ (upd H a (.ins C.Account dx (accF cr r (u - m) w)))
  generalize upd H a (.ins C.Account dx (accF cr r (u - m) w)) = G at hr1 ha1 k1 ⊢
  obtain ⟨ra, rd, ru, rfl, hra, _⟩ := id hr1
  refine ⟨_, rfl, a, _, dx, _, _, rfl, ha1, fa.cl, fa.n2, lk_ru, ra, rd, _, rfl, hra, lk_tree (by decide +kernel), ?_⟩
  refine ⟨_, rfl, a, _, dx, _, _, rfl, ha1, fa.cl, fa.n4, lk_wi, _, rfl, .inl ⟨_, _, rfl, rfl, ?_⟩⟩
  refine ⟨_, T, _, rfl, hr1, _, rfl, a, _, dx, _, rfl, ha1, fa.cl, fa.n4, rfl4, ?_⟩
  rw [put_wi]
  exact ⟨_, rfl, k (by omega) _ k1.put (AccAt.put ha1 hr1 fa)⟩
def sp_Account_passesX (K : PySem.W.Frag) (C : Cs) : Sp := fun vs H Q E => ∃ a cr T u w z m, vs = [.ref a, .int z, .int m] ∧ AccAt K C H (.ref a) cr T u w ∧ FxOut K C ∧ 0 ≤ w ∧ w < T.top ∧ 1 ≤ z ∧ z ≤ 10 ^ 40 ∧ 0 ≤ m ∧ m ≤ 10 ^ 40 ∧
  (z * m ≤ u → ∀ H', Kp a H H' → AccAt K C H' (.ref a) cr T (u - z * m) (T.kp z w m.toNat) → Q (.int (w + m * z - T.kp z w m.toNat)) H') ∧ (u < z * m → Lets C.NotPassed (z * m) H E)
def sp_Account_flowsX (K : PySem.W.Frag) (C : Cs) : Sp := fun vs H Q E => ∃ a cr T u w z m, vs = [.ref a, .int z, .int m] ∧ AccAt K C H (.ref a) cr T u w ∧ FxOut K C ∧ 0 ≤ w ∧ w < T.top ∧ 1 ≤ z ∧ z ≤ 10 ^ 40 ∧ 0 ≤ m ∧ m ≤ 10 ^ 40 ∧
  (z ≤ cr - u - max w (T.pk z w m.toNat) → ∀ H', Kp a H H' → AccAt K C H' (.ref a) cr T u (T.kp z w m.toNat) → Q (.int (w + m * z - T.kp z w m.toNat)) H') ∧ (cr - u - max w (T.pk z w m.toNat) < z → Lets C.Overdrawn z H E)
def t_Account_passesX (K : PySem.W.Frag) (C : Cs) (E : XK) : TS :=
  (tSeq (tIfS (tTest (tOp (rGtI) (tOp (rMulU K) (tVar 1) (tVar 2)) (tFld K (tVar 0) "_unpassed"))) (tRaise C.NotPassed (rOneI K C.NotPassed "many") (tCons (tOp (rMulU K) (tVar 1) (tVar 2)) tNil) E) tNext)
    (tSeq (tAsg (tCall (sp_repeated K C) [] E0 (tCons (tFld K (tVar 0) "_rule") (tCons (tFld K (tVar 0) "_withheld") (tCons (tVar 1) (tCons (tVar 2) tNil))))) (gTup K 3 (gCons (gName 3) (gCons (gName 4) (gCons (gName 5) gNil)))))
    (tSeq (sFld K (tVar 0) (tOp (rSubI) (tFld K (tVar 0) "_unpassed") (tOp (rMulU K) (tVar 1) (tVar 2))) "_unpassed")
    (tSeq (sFld K (tVar 0) (tVar 3) "_withheld")
    (tRet (tVar 4))))))
def t_Account_flowsX (K : PySem.W.Frag) (C : Cs) (E : XK) : TS :=
  (tSeq (tAsg (tCall (sp_repeated K C) [] E0 (tCons (tFld K (tVar 0) "_rule") (tCons (tFld K (tVar 0) "_withheld") (tCons (tVar 1) (tCons (tVar 2) tNil))))) (gTup K 3 (gCons (gName 3) (gCons (gName 4) (gCons (gName 5) gNil)))))
    (tSeq (tIfS (tTest (tOp (rLtI) (tOp (rSubI) (tOp (rSubI) (tFld K (tVar 0) "_credit") (tFld K (tVar 0) "_unpassed")) (tVar 5)) (tVar 1))) (tRaise C.Overdrawn (rOneI K C.Overdrawn "many") (tCons (tVar 1) tNil) E) tNext)
    (tSeq (sFld K (tVar 0) (tVar 3) "_withheld")
    (tRet (tVar 4)))))
theorem ln_Account_passesX (h : sp_Account_passesX K C vs H Q E) : vs.length = 3 := by obtain ⟨_, _, _, _, _, _, _, rfl, _⟩ := h; rfl
theorem ln_Account_flowsX (h : sp_Account_flowsX K C vs H Q E) : vs.length = 3 := by obtain ⟨_, _, _, _, _, _, _, rfl, _⟩ := h; rfl
theorem rd_Account_passesX (h : sp_Account_passesX K C vs H Q E) : t_Account_passesX K C E (EndsOf Q) (start ["", "", "", "", "", ""] vs) H := by
  obtain ⟨a, cr, T, u, w, z, m, rfl, A, fo, w0, w1, z1, z2, m0, m2, k, kE⟩ := h
  obtain ⟨_, dx, r, e, ha, hr, fa⟩ := id A
  cases e
  have lim : (10 : Int) ^ 40 ≤ 10 ^ 100 := by decide
  have mk := mul_ok (i := z) (j := m) (by omega) (by omega)
  refine ⟨_, rfl, _, rfl, .inl ⟨_, _, rfl, rfl, mk, _, rfl, a, _, dx, _, _, rfl, ha, fa.cl, fa.n3, lk_un, _, _, rfl, rfl, _, rfl, ?_⟩⟩
  refine ifD (fun c => ⟨_, rfl, _, rfl, .inl ⟨_, _, rfl, rfl, mk, made_err fo.np fo.fn (kE c)⟩⟩) (fun c => ?_)
  refine ⟨_, rfl, a, _, dx, _, _, rfl, ha, fa.cl, fa.n2, lk_ru, _, rfl, a, _, dx, _, _, rfl, ha, fa.cl, fa.n4, lk_wi, _, rfl, _, rfl, ?_⟩
  refine ⟨r, T, w, z, m, rfl, hr, w0, w1, z1, z2, m0, m2, fun p G hp s hq => g3 hq ?_⟩
  have ha1 := s _ _ ha
  have hr1 := hr.same s
  refine ⟨_, rfl, a, _, dx, _, _, rfl, ha1, fa.cl, fa.n3, lk_un, _, rfl, _, rfl, .inl ⟨_, _, rfl, rfl, mk, _, _, rfl, rfl, _, rfl, a, _, dx, _, rfl, ha1, fa.cl, fa.n3, rfl4, ?_⟩⟩
  rw [put_un]
  have hr2 := hr1.keep (H' := upd G a (.ins C.Account dx (accF cr r (u - z * m) w))) ha1 (fun d x z => no_tree rfl z) (fun _ z => nomatch z) (fun _ _ z => nomatch z) kp_put
  have ha2 : (upd G a (.ins C.Account dx (accF cr r (u - z * m) w))) a = some (.ins C.Account dx (accF cr r (u - z * m) w)) := upd_same
  have k2 : Kp a H (upd G a (.ins C.Account dx (accF cr r (u - z * m) w))) := (Kp.of s).put
  show tSeq _ _ _ _ (upd G a (.ins C.Account dx (accF cr r (u - z * m) w)))
  generalize upd G a (.ins C.Account dx (accF cr r (u - z * m) w)) = G2 at hr2 ha2 k2 ⊢
  refine ⟨_, rfl, _, rfl, a, _, dx, _, rfl, ha2, fa.cl, fa.n4, rfl4, ?_⟩
  rw [put_wi]
  exact ⟨_, rfl, k (by omega) _ k2.put (AccAt.put ha2 hr2 fa)⟩
theorem rd_Account_flowsX (h : sp_Account_flowsX K C vs H Q E) : t_Account_flowsX K C E (EndsOf Q) (start ["", "", "", "", "", ""] vs) H := by
  obtain ⟨a, cr, T, u, w, z, m, rfl, A, fo, w0, w1, z1, z2, m0, m2, k, kE⟩ := h
  obtain ⟨_, dx, r, e, ha, hr, fa⟩ := id A
  cases e
  refine ⟨_, rfl, a, _, dx, _, _, rfl, ha, fa.cl, fa.n2, lk_ru, _, rfl, a, _, dx, _, _, rfl, ha, fa.cl, fa.n4, lk_wi, _, rfl, _, rfl, ?_⟩
  refine ⟨r, T, w, z, m, rfl, hr, w0, w1, z1, z2, m0, m2, fun p G hp s hq => g3 hq ?_⟩
  have ha1 := s _ _ ha
  have hr1 := hr.same s
  refine ⟨_, rfl, a, _, dx, _, _, rfl, ha1, fa.cl, fa.n1, lk_cr, _, rfl, a, _, dx, _, _, rfl, ha1, fa.cl, fa.n3, lk_un, _, _, rfl, rfl, _, rfl, _, _, rfl, rfl, _, rfl, _, _, rfl, rfl, _, rfl, ?_⟩
  refine ifD (fun c => ⟨_, rfl, made_err fo.ox fo.fo fun d H' hd s2 hx => kE c d H' (s.free hd) (s.trans s2) hx⟩) (fun c => ?_)
  refine ⟨_, rfl, _, rfl, a, _, dx, _, rfl, ha1, fa.cl, fa.n4, rfl4, ?_⟩
  rw [put_wi]
  exact ⟨_, rfl, k (by omega) _ (Kp.of s).put (AccAt.put ha1 hr1 fa)⟩
end
end Pk
set_option Elab.async false
set_option linter.all false
set_option maxRecDepth 100000
set_option maxHeartbeats 4000000
/-! a list, tuple or dict among texts; a dict shown -/
namespace PkB
open PySem PySem.Spec PySem.SeqAt
open AutoSeq1 (wpAny_loadPart')
section
theorem dict_no_str (l : Addr) (es : Array DictEntry) (ep : Nat) (dd : Option Addr) (sl : Array (Option Value)) (z : Str) (t : Tok) :
    Meets (Builtin.«dict.__eq__» ⟨[.ref l, .str z t], []⟩) (fun _ R s => s.heap.get? l = some { cls := .type "dict", dict := dd, data := .dict es ep, slots := sl } ∧ R (.ok (.ret .notImplemented)) s) :=
  .of_wp fun prog w A R s h => by
    obtain ⟨hp, g, d, tk, os⟩ := s
    obtain ⟨hl, h⟩ := h
    have f1 := F.sub_str_dict
    wp_walk using wpAny_loadPart' hl
    exact ⟨_, rfl, h⟩
theorem str_no_dict (l : Addr) (es : Array DictEntry) (ep : Nat) (dd : Option Addr) (sl : Array (Option Value)) (z : Str) (t : Tok) :
    Meets (Builtin.«str.__eq__» ⟨[.str z t, .ref l], []⟩) (fun _ R s => s.heap.get? l = some { cls := .type "dict", dict := dd, data := .dict es ep, slots := sl } ∧ R (.ok (.ret .notImplemented)) s) :=
  .of_wp fun prog w A R s h => by
    obtain ⟨hp, g, d, tk, os⟩ := s
    obtain ⟨hl, h⟩ := h
    wp_walk using wpAny_loadPart' hl, wpAny_load hl
    exact ⟨_, rfl, h⟩
theorem eq_str_dict {A : Around} {s : Shared} {l : Addr} {o : Obj} {es : Array DictEntry} {ep : Nat} (z : Str) (t : Tok) (ho : s.heap.get? l = some o) (hc : o.cls = .type "dict") (hd : o.data = .dict es ep) (hu : A.units < cLine) : EqAt A s (.str z t) (.ref l) false := fun prog w E Q h => by
  obtain ⟨cls, dd, data, sl⟩ := o
  simp only at hc hd
  subst hc hd
  unfold eqBool
  refine wpAny_holding ?_
  refine wpAny_ite_split (fun hab => absurd (eq_of_beq hab) nofun) (fun _ => ?_)
  refine wpAny_bind (rc_eq_decline_or (k := false) (typeIs_str s z t) ⟨_, ho, rfl⟩ (by decide) F.sub_dict_str F.slot_str_eq F.slot_dict_eq_refl ?_ ?_ ?_ (.inr hu) (wpAny_truthy_bool h))
  · exact fun _ hq => call_meets F.slot_str_eq (typeIs_str s z t) F.entry_str_eq (F.args_str_eq_2 _ _) (str_no_dict l es ep dd sl z t) ⟨ho, hq⟩
  · exact fun _ hq => call_meets F.slot_dict_eq_refl ⟨_, ho, rfl⟩ F.entry_dict_eq (F.args_dict_eq_2 _ _) (dict_no_str l es ep dd sl z t) ⟨ho, hq⟩
  · exact fun _ hq => wpAny_of_eq (rfl : isSame (.str z t) (.ref l) = pure false) hq
end
open L2 PyProof.Rows
section
variable {X : Cx}
/-- a list, a tuple or a dict among texts -/
def rInR (K : PySem.W.Frag) : R2 := fun x y H Q => ∃ (a p : Addr) (zs : List Str), x = .ref a ∧ y = .ref p ∧ SqT K H p (zs.map V.str) ∧ ((∃ xs, SqL K H a xs) ∨ (∃ xs, SqT K H a xs) ∨ ∃ kvs, H a = some (.dK kvs)) ∧ Q (.bl false) H
theorem strs_in : ∀ {zs : List Str} {us : List Value}, Vals (zs.map V.str) us → ∀ u ∈ us, ∃ z t, u = .str z t
  | [], _, .nil, u, hu => nomatch hu
  | z :: zs, _, .cons r q, u, hu => by
    rcases List.mem_cons.mp hu with rfl | hu
    · obtain ⟨t, e⟩ := r
      exact ⟨z, t, e⟩
    · exact strs_in q u hu
theorem op_inR (hu : X.A.units + 64 < cLine) : OpR X (compareOp .In) (rInR X.K) := by
  intro pins s σ H x y v u Q I rx ry h
  obtain ⟨a, p, zs, rfl, rfl, hp, ha, q⟩ := h
  cases rx
  cases ry
  obtain ⟨its, r, pl, hz⟩ := I.tuple hp
  have hu' : X.A.in1.units < cLine := by
    have : X.A.in1.units ≤ X.A.units + 1 := Nat.le_refl _
    omega
  refine SeqAt.in_tupleAt (fun _ => false) pl (fun w hw => ?_) ⟨.bl false, H, I, ?_, q⟩
  · obtain ⟨z, t, rfl⟩ := strs_in r w (by simpa using hw)
    rcases ha with ⟨xs, ha⟩ | ⟨xs, ha⟩ | ⟨kvs, ha⟩
    · obtain ⟨it2, _, p2, _⟩ := I.list ha
      exact EqAt.str_list z t p2.isList hu'
    · obtain ⟨it2, _, p2, _⟩ := I.tuple ha
      exact EqAt.str_tuple z t p2 hu'
    · obtain ⟨_, _, vs, _, o, es, ep, e1, e2, e3, _⟩ := dk_of I.hok ha
      exact eq_str_dict z t e1 e2.1 e3 hu'
  · show RelV (.bl false) (.bool (its.toArray.any fun _ => false))
    rw [show (its.toArray.any fun _ => false) = false by simp]
    rfl
/-- the dict {'a': 1} -/
abbrev oddD : List (Key × V) := [(.inr "a", .int 1)]
abbrev oddPd : PyData := .dict [(.str "a", .int 1)]
def rReprD : List V → Hp → VK → Prop := fun xs H Q => ∃ (a : Addr), xs = [.ref a] ∧ H a = some (.dK oddD) ∧ Q (.str oddPd.shown) H
theorem call_reprD (gd : X.A.guards = some []) (hu : X.A.units + 68 < cLine) : CallR X (.builtin "repr") rReprD := by
  intro pins s σ H xs us Q I r h
  obtain ⟨a, rfl, ha, q⟩ := h
  rw [Vals.ref1 r]
  obtain ⟨_, hd, vs, kv, o, es, ep, e1, e2, e3, _, pr, _⟩ := dk_of I.hok ha
  obtain ⟨q1, rfl, c1, c2⟩ : ∃ q1, vs = [q1] ∧ (Sum.inr "a" : Key) = q1.1 ∧ RelV (.int 1) q1.2 := by
    cases kv with
    | cons h t => cases t; exact ⟨_, rfl, h.1, h.2⟩
  obtain ⟨k1, v1⟩ := q1
  dsimp only at c1 c2
  subst c1
  obtain ⟨t1, rfl⟩ := c2
  have rd : ∃ as, Reads s.heap (.ref a) oddPd as ∧ sysModules ∉ as := by
    generalize hl : es.toList = l at pr
    cases pr with
    | cons k1 k2 k3 =>
      rename_i e _
      cases k3
      have ek : ∃ u, e.key = .str "a" u := by
        rcases keyIs_shape (show keyIs (.inr "a") e.key = true from k1) with ⟨i, u, z, _⟩ | ⟨y, u, z, ek⟩
        · exact nomatch z
        · obtain rfl := Sum.inr.inj z
          exact ⟨u, ek⟩
      obtain ⟨u, ek⟩ := ek
      refine ⟨a :: (([] ++ []) ++ ([] ++ [])), .dict e1 e2.1 e3 ?_ ?_, ?_⟩
      · rw [hl]
        show ReadsAll s.heap [e.key] [.str "a"] ([] ++ [])
        rw [ek]
        exact .cons (.str _ _) .nil
      · rw [hl]
        show ReadsAll s.heap [e.val] [.int 1] ([] ++ [])
        rw [k2]
        exact .cons (.int _ _) .nil
      · intro m
        have e0 : sysModules = a := by simpa using m
        rw [← e0] at hd
        exact absurd hd (by decide)
  obtain ⟨as, rd, ns⟩ := rd
  have z : oddPd.shown.length ≤ sizeLine := Nat.le_of_lt (small1000 (by decide +kernel))
  have dp : oddPd.depth ≤ 2 := by decide +kernel
  exact repr_of_reads' rd (by decide +kernel) (fun _ => ns) gd (by omega) (fun _ _ z => z) (fun h' t tk k => ⟨.str oddPd.shown, H, I.kept k, ⟨_, rfl⟩, q⟩) z
def tJoinL (K : PySem.W.Frag) (to te : TE) : TE := tM1 (fun x xs H Q => ∃ a p, ∃ ys : List Str, x = .str a ∧ xs = [.ref p] ∧ (SqL K H p (ys.map V.str) ∨ SqT K H p (ys.map V.str)) ∧
  (ys.map (·.length)).sum + ys.length * a.length ≤ 16777216 ∧ Q (.str (Txt.join a ys)) H) to te
def rReprU (K : PySem.W.Frag) : List V → Hp → VK → Prop := fun xs H Q => Pk.rRepr K xs H Q ∨ rReprD xs H Q
def rInAny (K : PySem.W.Frag) : R2 := fun x y H Q => Pk.rInU K x y H Q ∨ rInR K x y H Q
/-- the display {'a': 1} -/
theorem disp_odd {σ : L2.St} {H : Hp} {Q : VK} (k : ∀ p, H p = none → Q (.ref p) (upd (upd H p (.dK [])) p (.dK oddD))) : tDisp [(tC (.str "a"), tC (.int 1))] σ H Q := fun p hp => ⟨upd_same, oddD, rfl, by decide, k p hp⟩
end
end PkB
set_option Elab.async false
set_option linter.all false
set_option maxRecDepth 100000
set_option maxHeartbeats 2000000
/-! words for texts: f'..', startswith, str of a number -/
namespace PkC
open PySem PySem.Spec L2 PyProof.Rows
def tSplit (to te : TE) : TE := tM1 (fun x xs H Q => ∃ a b, x = .str a ∧ xs = [.str b] ∧ (b.length == 0) = false ∧ a.length + 2 ≤ sizeLine ∧ rNewStrs (Txt.split a b) H Q) to te
def tJoined (ts : List TE) : TE := fun σ H Q => tJs ts Str.empty σ H fun out H1 => Q (.str out) H1
def rStrI : List V → Hp → VK → Prop := fun xs H Q => ∃ i : Int, xs = [.int i] ∧ i.natAbs.log2 < 1920 ∧ Q (.str (toString i)) H
def rSw1 : V → List V → Hp → VK → Prop := fun x xs H Q => ∃ a b, x = .str a ∧ xs = [.str b] ∧ Q (.bl (Txt.startswith a b)) H
def rSw3 : V → List V → Hp → VK → Prop := fun x xs H Q => ∃ (a b : Str) (i : Int), x = .str a ∧ xs = [.str b, .int i] ∧ Q (.bl (Txt.startswith3 a b i)) H
/-! the signs of a text -/
abbrev tl (x : Str) : List Nat := x.cps.toList
abbrev S (l : List Nat) : Str := ⟨l.toArray⟩
theorem tl_S (l : List Nat) : tl (S l) = l := by simp [tl, S]
theorem S_tl (x : Str) : S (tl x) = x := by
  obtain ⟨⟨l⟩⟩ := x
  rfl
theorem len_S (l : List Nat) : (S l).length = l.length := by simp [S, Str.length]
theorem app_S (a b : List Nat) : S a ++ S b = S (a ++ b) := by
  show Str.mk (a.toArray ++ b.toArray) = Str.mk (a ++ b).toArray
  rw [List.append_toArray]
/-- a slice from a place on, and between two places -/
theorem cut_S {l : List Nat} {i j : Nat} (h : i ≤ j) (hj : j ≤ l.length) : cutS (S l) (some (i : Int)) (some (j : Int)) = S ((l.drop i).take (j - i)) := by
  unfold cutS
  rw [HT.sIx_nat, HT.sIx_nat, len_S, Nat.min_eq_left hj, Nat.min_eq_left (Nat.le_trans h hj)]
theorem cut_from {l : List Nat} {i : Nat} (h : i ≤ l.length) : cutS (S l) (some (i : Int)) none = S (l.drop i) := by
  unfold cutS
  rw [HT.sIx_nat, HT.sIx_none, len_S, Nat.min_eq_left h]
  show S (((tl (S l)).drop i).take (l.length - i)) = _
  rw [tl_S, List.take_of_length_le (by rw [List.length_drop]; exact Nat.le_refl _)]
theorem sub_S {l : List Nat} {c i : Nat} : (decide (i + 1 ≤ l.length) && Builtin.Str.subAt (S l) (S [c]) i) = decide (l[i]? = some c) := by
  unfold Builtin.Str.subAt
  have e1 : (S [c]).length = 1 := rfl
  have e2 : (S l).cps.extract i (i + 1) = ((l.drop i).take 1).toArray := by simp [S]
  rw [e1, e2]
  show (decide _ && (((l.drop i).take 1).toArray == [c].toArray)) = _
  by_cases h : i < l.length
  · have e3 : (l.drop i).take 1 = [l[i]] := by
      rw [List.drop_eq_getElem_cons h]
      rfl
    rw [e3, List.getElem?_eq_getElem h, decide_eq_true (by omega), Bool.true_and]
    by_cases e : l[i] = c
    · simp [e]
    · simp [e]
  · rw [decide_eq_false (by omega), List.getElem?_eq_none (by omega)]
    rfl
/-- startswith of one sign, from a place on -/
theorem sw3_S {l : List Nat} {c i : Nat} : Txt.startswith3 (S l) (S [c]) (i : Int) = decide (l[i]? = some c) := by
  unfold Txt.startswith3
  have e : fromIndex (S l).length (i : Int) = i := by
    unfold fromIndex
    rw [if_neg (by omega)]
    omega
  rw [e, len_S, ← sub_S]
  rfl
theorem sw1_S {l : List Nat} {c : Nat} : Txt.startswith (S l) (S [c]) = decide (l[0]? = some c) := by
  unfold Txt.startswith
  rw [len_S, ← sub_S]
  rfl
open Pk
/-! over the signs of a text -/
theorem lc_str {x : Str} {g : TG} {tt : TT} {te : TE} {vs : List Nat} {σ : L2.St} {H1 : Hp} {D : Addr} {Qd : Hp → Prop} (Pv : Nat → Hp → Prop) (h0 : Pv 0 (upd H1 D (.lst [])))
    (hs : ∀ (i c : Nat) H, x.cps.toList[i]? = some c → Pv i H → g (.str ⟨#[c]⟩) (wipe σ vs) H fun σ2 H2 => wipe σ2 vs = wipe σ vs ∧ tt σ2 H2 fun b H3 =>
      if b = true then te σ2 H3 fun y H4 => ∃ acc, H4 D = some (.lst acc) ∧ acc.length < sizeLine ∧ Pv (i + 1) (upd H4 D (.lst (acc ++ [y]))) else Pv (i + 1) H3) (hd : ∀ H, Pv x.cps.toList.length H → Qd H) :
    ∃ W : Nat → Nat → Hp → Prop, (∃ m, W 0 m (upd H1 D (.lst []))) ∧ ∀ i m H, W i m H →
      ((Its x).stop i H ∧ Qd H) ∨ ((Its x).go i H ∧ ∃ Nx : Hp → Prop, (∀ H', Nx H' → ∃ m', m' < m ∧ W (i + 1) m' H') ∧ ∀ v H', (Its x).yld i H v H' → g v (wipe σ vs) H' fun σ2 H2 => wipe σ2 vs = wipe σ vs ∧ tt σ2 H2 fun b H3 =>
        if b = true then te σ2 H3 fun y H4 => ∃ acc, H4 D = some (.lst acc) ∧ acc.length < sizeLine ∧ Nx (upd H4 D (.lst (acc ++ [y]))) else Nx H3) := by
  have sz : x.cps.size = x.cps.toList.length := Array.length_toList.symm
  refine ⟨fun i m H => m = x.cps.size - i ∧ i ≤ x.cps.size ∧ Pv i H, ⟨_, rfl, Nat.zero_le _, h0⟩, ?_⟩
  rintro i m G ⟨rfl, hi, p⟩
  by_cases lt : i < x.cps.size
  · refine .inr ⟨lt, Pv (i + 1), fun G' p' => ⟨x.cps.size - (i + 1), by omega, rfl, lt, p'⟩, ?_⟩
    rintro v G' ⟨rfl, c, hc, rfl⟩
    exact hs i c _ (by rw [Array.getElem?_toList]; exact hc) p
  · have e : i = x.cps.size := by omega
    subst e
    exact .inl ⟨Nat.le_refl _, hd G (sz ▸ p)⟩
/-- a short text, many times -/
def rRepS2 : R2 := fun x y H Q => ∃ z n, x = .str z ∧ y = .int n ∧ z.length ≤ 100 ∧ 0 ≤ n ∧ n ≤ 10000 ∧ Q (.str (Txt.mul z n)) H
section
variable {X : Cx}
theorem op_repS2 : OpR X (binaryOp .Mult) rRepS2 := by
  intro pins s σ H x y v u Q I rx ry h
  obtain ⟨z, n, rfl, rfl, hz, h0, h1, q⟩ := h
  obtain ⟨t, rfl⟩ := rx
  obtain ⟨t', rfl⟩ := ry
  refine SB.mul ⟨?_, fun a _ => ?_, fun a _ => ?_⟩ fun t2 k => ⟨.str _, H, I.tok k, ⟨_, rfl⟩, q⟩
  · rw [decide_eq_false (show ¬ n < -(2 ^ 63 : Int) by omega), decide_eq_false (show ¬ n ≥ 2 ^ 63 by omega)]
    rfl
  · have h2 : (100 : Int) ≤ (2 ^ 63 - 1) / n := by
      apply Int.le_ediv_of_mul_le (by omega)
      omega
    omega
  · have h2 : z.length * n.toNat ≤ 100 * 10000 := Nat.mul_le_mul hz (by omega)
    unfold Builtin.Str.tooLong
    rw [decide_eq_false]
    rw [sizeLine_eq]
    omega
end
theorem fold_rep (a : List Nat) : ∀ (n : Nat) (acc : Array Nat), (List.replicate n a.toArray).foldl (· ++ ·) acc = acc ++ ((List.replicate n a).flatten).toArray
  | 0, acc => by simp
  | n + 1, acc => by
    rw [List.replicate_succ, List.foldl_cons, fold_rep a n, List.replicate_succ, List.flatten_cons, ← List.append_toArray, Array.append_assoc]
theorem mul_S {a : List Nat} {n : Nat} (h : 2 ≤ n) (ne : a ≠ []) : Txt.mul (S a) (n : Int) = S ((List.replicate n a).flatten) := by
  unfold Txt.mul
  have l : (S a).length ≠ 0 := by
    rw [len_S]
    exact fun e => ne (List.length_eq_zero_iff.mp e)
  have c : ((n : Int) == 1 || (S a).length == 0) = false := by
    rw [Bool.or_eq_false_iff]
    exact ⟨by simp; omega, by simpa using l⟩
  rw [if_neg (by omega), c, if_neg (by decide), Int.toNat_natCast]
  show Str.mk ((List.replicate n a.toArray).foldl (· ++ ·) #[]) = _
  rw [fold_rep]
  simp [S]
end PkC
set_option Elab.async false
set_option linter.all false
set_option maxRecDepth 100000
set_option maxHeartbeats 2000000
/-! dicts and lists: calls and methods under names; an own __contains__, an own __getitem__ -/
namespace Pk
open PySem PySem.Spec L2 PyProof.Rows
section
variable {X : Cx}
/-- list.insert -/
def rIns : V → List V → Hp → VK → Prop := fun x vs G R => ∃ (c : Addr) (zs : List V) (n : Int) (e : V), x = .ref c ∧ vs = [.int n, e] ∧ G c = some (.lst zs) ∧ zs.length < sizeLine ∧ 0 ≤ n ∧ n < 2 ^ 63 ∧ R .non (upd G c (.lst (zs.take n.toNat ++ [e] ++ zs.drop n.toNat)))
theorem mt_ins : MtR X "list.insert" rIns := mt_insert
/-- list(d), sorted(d), dict(d) -/
def rKeysL : List V → Hp → VK → Prop := fun xs G R => ∃ (c : Addr) (ps : List (Key × V)), xs = [.ref c] ∧ Rd G c (.dK ps) ∧ ∀ q, G q = none → R (.ref q) (upd G q (.lst (ps.map fun kv => kV kv.1)))
theorem call_keysL (hc : X.calm = true) : CallR X (.type "list") rKeysL := call_listD hc
def rKeysS : List V → Hp → VK → Prop := fun xs G R => ∃ (c : Addr) (ps : List (Key × V)) (ns : List Str), xs = [.ref c] ∧ Rd G c (.dK ps) ∧ ps.map (·.1) = ns.map Sum.inr ∧ ns.length < 64 ∧
  ∀ zs q, zs.Perm ns → sortedS zs = true → G q = none → R (.ref q) (upd G q (.lst (zs.map V.str)))
theorem call_keysS (hc : X.calm = true) : CallR X (.builtin "sorted") rKeysS := call_sortedD hc
def rCopyD : List V → Hp → VK → Prop := fun xs G R => ∃ (c : Addr) (ps : List (Key × V)), xs = [.ref c] ∧ Rd G c (.dK ps) ∧ ∀ q, G q = none → R (.ref q) (upd G q (.dK ps))
theorem call_copyD : CallR X (.type "dict") rCopyD := call_dictD
/-- len(d), locked or not -/
def rLenR : List V → Hp → VK → Prop := fun xs G R => ∃ (c : Addr) (ps : List (Key × V)), xs = [.ref c] ∧ Rd G c (.dK ps) ∧ R (.int ps.length) G
theorem call_lenR : CallR X (.builtin "len") rLenR := by
  intro pins s σ G xs us R I r h
  obtain ⟨c, ps, rfl, ha, q⟩ := h
  obtain ⟨u, rfl, ru⟩ := vals1 r
  cases ru
  exact d_len I ha fun t s' I' => ⟨.int ps.length, G, I', ⟨t, rfl⟩, q⟩
/-- a list or a dict -/
def rListU (K : PySem.W.Frag) : List V → Hp → VK → Prop := fun xs G R => rListOf K xs G R ∨ rKeysL xs G R
end
/-- a dict comprehension over a walk -/
theorem dc_walk {J : It} {n : Nat} {G : Hp → Prop} {Y : Nat → Hp → V → Hp → Prop} (w : Walk J n G Y) {g : TG} {tt : TT} {tk tv : TE} {vs : List Nat} {σ : L2.St} {H1 : Hp} {D : Addr} {Qd : Hp → Prop} (Pv : Nat → Hp → Prop)
    (h0 : Pv 0 (upd H1 D (.dK []))) (hG : ∀ i H, i ≤ n → Pv i H → G H)
    (hs : ∀ i x H H', i < n → Pv i H → Y i H x H' → g x (wipe σ vs) H' fun σ2 H2 => wipe σ2 vs = wipe σ vs ∧ tt σ2 H2 fun b H3 =>
      if b = true then tk σ2 H3 fun y H4 => tv σ2 H4 fun z H5 => ∃ ps k, y = kV k ∧ H5 D = some (.dK ps) ∧ ps.length < sizeLine ∧ Pv (i + 1) (upd H5 D (.dK (putK ps k z))) else Pv (i + 1) H3) (hd : ∀ H, Pv n H → Qd H) :
    ∃ W : Nat → Nat → Hp → Prop, (∃ m, W 0 m (upd H1 D (.dK []))) ∧ ∀ i m H, W i m H →
      (J.stop i H ∧ Qd H) ∨ (J.go i H ∧ ∃ Nx : Hp → Prop, (∀ H', Nx H' → ∃ m', m' < m ∧ W (i + 1) m' H') ∧ ∀ x H', J.yld i H x H' → g x (wipe σ vs) H' fun σ2 H2 => wipe σ2 vs = wipe σ vs ∧ tt σ2 H2 fun b H3 =>
        if b = true then tk σ2 H3 fun y H4 => tv σ2 H4 fun z H5 => ∃ ps k, y = kV k ∧ H5 D = some (.dK ps) ∧ ps.length < sizeLine ∧ Nx (upd H5 D (.dK (putK ps k z))) else Nx H3) := by
  refine ⟨fun i m H => i ≤ n ∧ m = n - i ∧ Pv i H, ⟨n, Nat.zero_le _, (Nat.sub_zero n).symm, h0⟩, ?_⟩
  rintro i m H ⟨le, rfl, p⟩
  have st := hG i H le p
  rcases Nat.lt_or_ge i n with lt | ge
  · refine .inr ⟨w.goes i H lt st, Pv (i + 1), fun H' q => ⟨n - (i + 1), by omega, lt, rfl, q⟩, fun x H' y => hs i x H H' lt p (w.yields i H x H' lt st y)⟩
  · obtain rfl : i = n := by omega
    exact .inl ⟨w.stops H st, hd H p⟩
section
variable {X : Cx} {CX : CXT} {k j : Nat} {C : Addr} {ps : List Str} {sp : Sp} {E : XK} {x : Str}
/-- x in o, x not in o, o an instance of the class at C -/
def rInOwn (C : Addr) (sp : Sp) (E : XK) : R2 := fun x y H Q => ∃ a dx fs, y = .ref a ∧ H a = some (.ins C dx fs) ∧ sp [y, x] H (fun v H' => ∃ c, v = .bl c ∧ Q (.bl c) H') E
def rNotInOwn (C : Addr) (sp : Sp) (E : XK) : R2 := fun x y H Q => ∃ a dx fs, y = .ref a ∧ H a = some (.ins C dx fs) ∧ sp [y, x] H (fun v H' => ∃ c, v = .bl c ∧ Q (.bl (!c)) H') E
theorem op_inOwn (F : Own X.prog X.w X.K X.mg X.base CX k C "__contains__" ps sp) (hr : Room j X.A) (hx : Passes CX X E) (hj : k ≤ j := by first | decide | omega) : OpR X (compareOp .In) (rInOwn C sp E) := by
  obtain ⟨f, fd, G, a1, a2, a3, a4, bb⟩ := F.ex
  intro pins s σ H u v ov iv Q I ru rv h
  obtain ⟨a, dx, fs, rfl, ha, q⟩ := h
  cases (show iv = Value.ref a from rv)
  obtain ⟨_, O, _⟩ := ins_get I.hok ha
  obtain ⟨od, J, _⟩ := O.look
  obtain ⟨_, hF⟩ := I.fr
  refine PySem.W.in_K hF I.ok.mod.kin J a1 a2 ?_
  refine wpAny_mono (run_fn (us := [.ref a, ov]) (vs := [.ref a, u]) G (hr.mono hj) bb .nil hx I (.cons rfl (.cons ru .nil)) q) ?_ fun _ _ z => z
  rintro w s' ⟨z, H', I', rz, d, rfl, qz⟩
  cases rz
  exact wpAny_truthy_bool ⟨.bl d, H', I', rfl, qz⟩
theorem op_notInOwn (F : Own X.prog X.w X.K X.mg X.base CX k C "__contains__" ps sp) (hr : Room j X.A) (hx : Passes CX X E) (hj : k ≤ j := by first | decide | omega) : OpR X (compareOp .NotIn) (rNotInOwn C sp E) := by
  obtain ⟨f, fd, G, a1, a2, a3, a4, bb⟩ := F.ex
  intro pins s σ H u v ov iv Q I ru rv h
  obtain ⟨a, dx, fs, rfl, ha, q⟩ := h
  cases (show iv = Value.ref a from rv)
  obtain ⟨_, O, _⟩ := ins_get I.hok ha
  obtain ⟨od, J, _⟩ := O.look
  obtain ⟨_, hF⟩ := I.fr
  refine PySem.W.notIn_K hF I.ok.mod.kin J a1 a2 ?_
  refine wpAny_mono (run_fn (us := [.ref a, ov]) (vs := [.ref a, u]) G (hr.mono hj) bb .nil hx I (.cons rfl (.cons ru .nil)) q) ?_ fun _ _ z => z
  rintro w s' ⟨z, H', I', rz, d, rfl, qz⟩
  cases rz
  exact wpAny_truthy_bool ⟨.bl (!d), H', I', rfl, qz⟩
/-- o[x], o an instance of the class at C; E may tell what is let out, by the slots -/
def tIxO (C : Addr) (sp : Sp) (E : L2.St → XK) (ta tb : TE) : TE := fun σ H Q => ta σ H fun x H1 => tb σ H1 fun y H2 => ∃ a dx fs, x = .ref a ∧ H2 a = some (.ins C dx fs) ∧ sp [x, y] H2 Q (E σ)
theorem run_fn1 {f : Addr} {fd : FuncData} {pins : List (Addr × Obj)} {σ : L2.St} {H : Hp} {s : Shared} {Q : VK} {us : List Value} {vs : List V} {E : XK} (F : FnOk X.prog X.w X.K X.mg X.base CX k f fd ps sp) (hr : Room (k + 1) X.A) (hb : Binds X.K fd ps []) (hx : PassesAt CX X σ E)
    (I : Inv X pins σ H s) (r : Vals vs us) (h : sp vs H Q E) : wpAny (model X.prog X.w) X.A.in1 (call (.ref f) us) (EP X pins σ Q) X.xe s := by
  have hl : us.length = ps.length := by rw [← r.length]; exact F.len _ _ _ _ h
  have b := hb s us I.kIn (by rw [List.append_nil]; exact hl)
  rw [List.append_nil] at b
  have e := I.env0
  have e0 : Env0 X.prog X.w X.K X.mg X.base X.A.in1 X.stack s H := ⟨e.frames, e.mod, e.bs, e.bsz, e.funs, e.frf, e.hok, e.bare⟩
  refine wpAny_call (codeAny_mono (F.run X.A.in1 X.stack s H ⟨us, []⟩ us vs Q E hr.in1 e0 b r h) fun r s' hq => ?_)
  match r, hq with
  | .error e, hq => exact hx pins H s e s' I hq
  | .ok (.ret u), hq => exact I.after hq
theorem pe_ixO {E : L2.St → XK} {ea eb : Expr} {ta tb : TE} {pos : Pos} (F : Own X.prog X.w X.K X.mg X.base CX k C "__getitem__" ps sp) (hr : Room j X.A) (hx : ∀ σ, PassesAt CX X σ (E σ)) (ha : PE X ea ta) (hb : PE X eb tb) (hj : k + 1 ≤ j := by first | decide | omega)
    (hs : ∀ o i, subscripted eb true o i = runValue (.builtin "lifetime.subscript" ⟨[o, i], []⟩) := by intro _ _; rfl) : PE X (.Subscript ea eb pos) (tIxO C sp E ta tb) := by
  obtain ⟨f, fd, G, a1, a2, a3, a4, bb⟩ := F.ex
  refine ⟨fun pins s σ H Q I h => ?_⟩
  refine Subscript_ (binT ha hb I (R := fun x y H2 => ∃ a dx fs, x = .ref a ∧ H2 a = some (.ins C dx fs) ∧ sp [x, y] H2 Q (E σ)) h fun v u s2 x y H2 I2 rx ry q => ?_)
  obtain ⟨a, dx, fs, rfl, hi, q⟩ := q
  cases (show v = Value.ref a from rx)
  obtain ⟨_, O, _⟩ := ins_get I2.hok hi
  obtain ⟨od, J, _⟩ := O.look
  obtain ⟨_, hF⟩ := I2.fr
  exact PySem.W.sub_K hF I2.ok.mod.kin J a1 a4 a2 (run_fn1 (us := [.ref a, u]) (vs := [.ref a, y]) G (hr.mono hj) bb (hx σ) I2 (.cons rfl (.cons ry .nil)) q) (hs _ _)
end
/-! what a sort says of names -/
end Pk
set_option Elab.async false
set_option linter.all false
set_option maxRecDepth 100000
set_option maxHeartbeats 2000000
/-! rows and tables in the heap; names in order -/
namespace Pk
open PySem PySem.Spec L2 PyProof.Rows
/-! ### names in order -/
theorem lc_anti : ∀ a b : List Nat, ltCps a b = false → ltCps b a = false → a = b
  | [], [], _, _ => rfl
  | [], _ :: _, h, _ => nomatch h
  | _ :: _, [], _, h => nomatch h
  | x :: r, y :: t, h, g => by
    simp only [ltCps, Bool.or_eq_false_iff, decide_eq_false_iff_not, Bool.and_eq_false_iff] at h g
    obtain rfl : x = y := by omega
    rcases h.2 with z | z
    · simp at z
    · rcases g.2 with u | u
      · simp at u
      · rw [lc_anti r t z u]
theorem lc_trans : ∀ a b c : List Nat, ltCps b a = false → ltCps c b = false → ltCps c a = false
  | [], _, [], _, _ => rfl
  | [], [], _ :: _, _, _ => rfl
  | [], _ :: _, _ :: _, _, _ => rfl
  | _ :: _, [], _, h, _ => nomatch h
  | _ :: _, _ :: _, [], _, h => nomatch h
  | x :: r, y :: t, z :: u, h, g => by
    simp only [ltCps, Bool.or_eq_false_iff, decide_eq_false_iff_not, Bool.and_eq_false_iff, beq_eq_false_iff_ne] at h g ⊢
    refine ⟨by omega, ?_⟩
    by_cases e : z = x
    · right
      have e1 : y = x := by omega
      have e2 : z = y := by omega
      exact lc_trans r t u (h.2.resolve_left fun q => q e1) (g.2.resolve_left fun q => q e2)
    · exact .inl e
def leS (a b : Str) : Prop := ltCps b.cps.toList a.cps.toList = false
theorem leS.trans {a b c : Str} (h : leS a b) (g : leS b c) : leS a c := lc_trans _ _ _ h g
theorem leS.anti {a b : Str} (h : leS a b) (g : leS b a) : a = b := by
  have e := lc_anti _ _ g h
  obtain ⟨⟨x⟩⟩ := a
  obtain ⟨⟨y⟩⟩ := b
  have e : x = y := e
  rw [e]
theorem rising_pw : ∀ (p : Str) (l : List Str), PyProof.Rows.risingS p l = true → (p :: l).Pairwise leS
  | p, [], _ => List.pairwise_singleton _ _
  | p, x :: r, h => by
    have h : (!ltCps x.cps.toList p.cps.toList && PyProof.Rows.risingS x r) = true := h
    rw [Bool.and_eq_true, Bool.not_eq_true'] at h
    have ih := rising_pw x r h.2
    refine List.pairwise_cons.mpr ⟨fun y hy => ?_, ih⟩
    rcases List.mem_cons.mp hy with rfl | hy
    · exact h.1
    · exact leS.trans (show leS p x from h.1) ((List.pairwise_cons.mp ih).1 y hy)
theorem sorted_pw : ∀ {l : List Str}, sortedS l = true → l.Pairwise leS
  | [], _ => List.Pairwise.nil
  | p :: r, h => rising_pw p r h
/-- names have one order -/
theorem sorted_one {l m : List Str} (h : sortedS l = true) (g : sortedS m = true) (p : l.Perm m) : l = m :=
  List.Perm.eq_of_pairwise (fun _ _ _ _ => leS.anti) (sorted_pw h) (sorted_pw g) p
/-! ### rows -/
inductive Cell where
  | num (i : Int)
  | rule (T : Tr)
  | name (s : Str)
  | non
/-- a Rule of a tree, or the tree itself -/
def LeafR (t : Bool) (K : PySem.W.Frag) (C : Cs) (H : Hp) (v : V) (T : Tr) : Prop := match t with
  | true => RuleAt K C H v T
  | false => TrAt K H v T ∧ T.ok ∧ T.lv ≤ 6
def CellAt (t : Bool) (K : PySem.W.Frag) (C : Cs) (H : Hp) : Cell → V → Prop
  | .num i, v => v = .int i
  | .rule T, v => LeafR t K C H v T
  | .name s, v => v = .str s
  | .non, v => v = .non
def CellsAt (t : Bool) (K : PySem.W.Frag) (C : Cs) (H : Hp) : List Cell → List V → Prop
  | [], xs => xs = []
  | c :: r, xs => ∃ x ys, xs = x :: ys ∧ CellAt t K C H c x ∧ CellsAt t K C H r ys
def RowAt (t : Bool) (K : PySem.W.Frag) (C : Cs) (H : Hp) (cs : List Cell) (v : V) : Prop := ∃ a xs, v = .ref a ∧ SqT K H a xs ∧ CellsAt t K C H cs xs
/-! ### tables -/
abbrev Tab := List (Str × List Cell)
def Tab.names (T : Tab) : List Str := T.map (·.1)
def Tab.get (T : Tab) (n : Str) : Option (List Cell) := (T.find? fun r => decide (r.1 = n)).map (·.2)
def KvAt (t : Bool) (K : PySem.W.Frag) (C : Cs) (H : Hp) : Tab → List (Key × V) → Prop
  | [], ks => ks = []
  | (n, cs) :: r, ks => ∃ v ls, ks = (.inr n, v) :: ls ∧ RowAt t K C H cs v ∧ KvAt t K C H r ls
/-- ex: it is not locked -/
def Has (ex : Bool) (H : Hp) (a : Addr) (ks : List (Key × V)) : Prop := match ex with
  | true => H a = some (.dK ks)
  | false => Rd H a (.dK ks)
theorem Has.rd {ex : Bool} {H : Hp} {a : Addr} {ks : List (Key × V)} (h : Has ex H a ks) : Rd H a (.dK ks) := by
  cases ex with
  | true => exact .inl h
  | false => exact h
/-- at v: a dict of rows; P: dicts that may be written -/
def TabAt (ex t : Bool) (K : PySem.W.Frag) (C : Cs) (P : Addr → Prop) (H : Hp) (T : Tab) (v : V) : Prop := ∃ a ks, v = .ref a ∧ ¬ P a ∧ Has ex H a ks ∧ KvAt t K C H T ks
/-- what is kept, dicts perhaps locked -/
structure Kee (K : PySem.W.Frag) (C : Cs) (P : Addr → Prop) (H H' : Hp) : Prop where
  tp : Tups K H H'
  ru : ∀ a dx x, H a = some (.ins C.Rule dx [("_tree", x)]) → H' a = some (.ins C.Rule dx [("_tree", x)])
  pl : ∀ a dx (fs : List (Str × V)), fs.length = 5 → H a = some (.ins C.Plan dx fs) → H' a = some (.ins C.Plan dx fs)
  rd : ∀ a ks, ¬ P a → Rd H a (.dK ks) → Rd H' a (.dK ks)
/-- and what is not locked is not -/
structure KeeX (K : PySem.W.Frag) (C : Cs) (P : Addr → Prop) (H H' : Hp) : Prop extends Kee K C P H H' where
  dk : ∀ a ks, ¬ P a → H a = some (.dK ks) → H' a = some (.dK ks)
section
variable {K : PySem.W.Frag} {C : Cs} {P P' : Addr → Prop} {H H' G : Hp} {ex t : Bool} {v : V} {a b d l : Addr} {n : Str} {cs ds : List Cell} {T U : Tab} {ks ls : List (Key × V)} {xs ys : List V}
theorem KeeX.same (s : Same H H') : KeeX K C P H H' :=
  ⟨⟨Tups.same s, fun _ _ _ e => s _ _ e, fun _ _ _ _ e => s _ _ e, fun _ _ _ e => e.elim (fun e => .inl (s _ _ e)) fun ⟨o, e⟩ => .inr ⟨o, s _ _ e⟩⟩, fun _ _ _ e => s _ _ e⟩
theorem Kee.same (s : Same H H') : Kee K C P H H' := (KeeX.same s).toKee
theorem Kee.trans (k : Kee K C P H H') (g : Kee K C P H' G) : Kee K C P H G :=
  ⟨k.tp.trans g.tp, fun _ _ _ e => g.ru _ _ _ (k.ru _ _ _ e), fun _ _ _ z e => g.pl _ _ _ z (k.pl _ _ _ z e), fun _ _ z e => g.rd _ _ z (k.rd _ _ z e)⟩
theorem KeeX.trans (k : KeeX K C P H H') (g : KeeX K C P H' G) : KeeX K C P H G := ⟨k.toKee.trans g.toKee, fun _ _ z e => g.dk _ _ z (k.dk _ _ z e)⟩
/-- a list is written -/
theorem KeeX.list (k : Kp b H H') (hb : H b = some (.lst ys)) : KeeX K C P H H' :=
  ⟨⟨Tups.kp k hb, fun _ _ _ e => k _ _ e (ne_of e hb fun z => nomatch z), fun _ _ _ _ e => k _ _ e (ne_of e hb fun z => nomatch z), fun _ _ _ e => e.elim (fun e => .inl (k _ _ e (ne_of e hb fun z => nomatch z))) fun ⟨o, e⟩ => .inr ⟨o, k _ _ e (ne_of e hb fun z => nomatch z)⟩⟩,
    fun _ _ _ e => k _ _ e (ne_of e hb fun z => nomatch z)⟩
theorem KeeX.bag (B : Bag H b l) (k : Kp b H H') : KeeX K C P H H' := by
  obtain ⟨ys, hb⟩ := B.at
  exact KeeX.list k hb
/-- a dict is written -/
theorem KeeX.dict (k : Kp d H H') (hd : H d = some (.dK ks)) (pd : P d) : KeeX K C P H H' :=
  ⟨⟨fun a xs h => by
    rcases h with (h | ⟨o, h⟩) | h
    · exact .inl (.inl (k _ _ h (ne_of h hd fun z => nomatch z)))
    · exact .inl (.inr ⟨o, k _ _ h (ne_of h hd fun z => nomatch z)⟩)
    · exact .inr h, fun _ _ _ e => k _ _ e (ne_of e hd fun z => nomatch z), fun _ _ _ _ e => k _ _ e (ne_of e hd fun z => nomatch z),
    fun _ _ n e => e.elim (fun e => .inl (k _ _ e fun z => n (z ▸ pd))) fun ⟨o, e⟩ => .inr ⟨o, k _ _ e (ne_of e hd fun z => nomatch z)⟩⟩, fun _ _ n e => k _ _ e fun z => n (z ▸ pd)⟩
/-- a dict is locked -/
theorem Kee.lock {o : Obj} (hd : H d = some (.dK ks)) : Kee K C P H (upd H d (.frz o (.dK ks))) := by
  have k : Kp d H (upd H d (.frz o (.dK ks))) := kp_put
  refine ⟨fun a xs h => ?_, fun _ _ _ e => k _ _ e (ne_of e hd fun z => nomatch z), fun _ _ _ _ e => k _ _ e (ne_of e hd fun z => nomatch z), fun a ls _ e => ?_⟩
  · rcases h with (h | ⟨o, h⟩) | h
    · exact .inl (.inl (k _ _ h (ne_of h hd fun z => nomatch z)))
    · exact .inl (.inr ⟨o, k _ _ h (ne_of h hd fun z => nomatch z)⟩)
    · exact .inr h
  · by_cases c : a = d
    · subst c
      rcases e with e | ⟨o2, e⟩
      · rw [hd] at e
        cases e
        exact .inr ⟨o, upd_same⟩
      · rw [hd] at e
        cases e
    · exact e.elim (fun e => .inl (k _ _ e c)) fun ⟨o, e⟩ => .inr ⟨o, k _ _ e c⟩
theorem RuleAt.kee {T : Tr} (h : RuleAt K C H v T) (k : Kee K C P H H') : RuleAt K C H' v T := by
  obtain ⟨a, dx, u, e, h1, h2, r⟩ := h
  exact ⟨a, dx, u, e, k.ru _ _ _ h1, h2.mono k.tp, r⟩
theorem LeafR.kee {T : Tr} (h : LeafR t K C H v T) (k : Kee K C P H H') : LeafR t K C H' v T := by
  cases t with
  | true => exact RuleAt.kee (show RuleAt K C H v T from h) k
  | false => exact ⟨h.1.mono k.tp, h.2⟩
theorem CellAt.kee : ∀ {c : Cell} {v : V}, CellAt t K C H c v → Kee K C P H H' → CellAt t K C H' c v
  | .num _, _, h, _ => h
  | .rule T, _, h, k => LeafR.kee h k
  | .name _, _, h, _ => h
  | .non, _, h, _ => h
theorem CellsAt.kee : ∀ {cs : List Cell} {xs : List V}, CellsAt t K C H cs xs → Kee K C P H H' → CellsAt t K C H' cs xs
  | [], _, h, _ => h
  | c :: r, _, ⟨x, ys, e, h1, h2⟩, k => ⟨x, ys, e, h1.kee k, h2.kee k⟩
theorem RowAt.kee (h : RowAt t K C H cs v) (k : Kee K C P H H') : RowAt t K C H' cs v := by
  obtain ⟨a, xs, e, h1, h2⟩ := h
  exact ⟨a, xs, e, k.tp _ _ h1, h2.kee k⟩
theorem KvAt.kee : ∀ {T : Tab} {ks : List (Key × V)}, KvAt t K C H T ks → Kee K C P H H' → KvAt t K C H' T ks
  | [], _, h, _ => h
  | (n, cs) :: r, _, ⟨v, ls, e, h1, h2⟩, k => ⟨v, ls, e, h1.kee k, h2.kee k⟩
theorem TabAt.kee (h : TabAt false t K C P H T v) (k : Kee K C P H H') : TabAt false t K C P H' T v := by
  obtain ⟨a, ks, e, n, h1, h2⟩ := h
  exact ⟨a, ks, e, n, k.rd _ _ n h1, h2.kee k⟩
theorem TabAt.keeX (h : TabAt ex t K C P H T v) (k : KeeX K C P H H') : TabAt ex t K C P H' T v := by
  obtain ⟨a, ks, e, n, h1, h2⟩ := h
  refine ⟨a, ks, e, n, ?_, h2.kee k.toKee⟩
  cases ex with
  | true => exact k.dk _ _ n h1
  | false => exact k.rd _ _ n h1
theorem TabAt.rd (h : TabAt ex t K C P H T v) : TabAt false t K C P H T v := by
  obtain ⟨a, ks, e, n, h1, h2⟩ := h
  exact ⟨a, ks, e, n, h1.rd, h2⟩
theorem TabAt.less (h : TabAt ex t K C P H T v) (s : ∀ a, P' a → P a) : TabAt ex t K C P' H T v := by
  obtain ⟨a, ks, e, n, h1, h2⟩ := h
  exact ⟨a, ks, e, fun z => n (s _ z), h1, h2⟩
/-! cells by place -/
theorem CellsAt.length : ∀ {cs : List Cell} {xs : List V}, CellsAt t K C H cs xs → xs.length = cs.length
  | [], _, h => by cases h; rfl
  | c :: r, _, ⟨x, ys, e, h1, h2⟩ => by
    subst e
    show ys.length + 1 = r.length + 1
    rw [h2.length]
theorem CellsAt.get : ∀ {cs : List Cell} {xs : List V}, CellsAt t K C H cs xs → ∀ {i : Nat} {c : Cell}, cs[i]? = some c → ∃ x, xs[i]? = some x ∧ CellAt t K C H c x
  | [], _, h, i, x, e => by simp at e
  | c :: r, _, ⟨y, ys, e1, h1, h2⟩, i, x, e => by
    subst e1
    cases i with
    | zero => cases e; exact ⟨y, rfl, h1⟩
    | succ i => exact h2.get (i := i) e
theorem CellsAt.app : ∀ {cs ds : List Cell} {xs ys : List V}, CellsAt t K C H cs xs → CellsAt t K C H ds ys → CellsAt t K C H (cs ++ ds) (xs ++ ys)
  | [], _, _, _, h, g => by cases h; exact g
  | c :: r, _, _, _, ⟨x, zs, e, h1, h2⟩, g => by subst e; exact ⟨x, _, rfl, h1, h2.app g⟩
theorem CellsAt.one {c : Cell} (h : CellAt t K C H c v) : CellsAt t K C H [c] [v] := ⟨v, [], rfl, h, rfl⟩
theorem CellsAt.take : ∀ {cs : List Cell} {xs : List V} (n : Nat), CellsAt t K C H cs xs → CellsAt t K C H (cs.take n) (xs.take n)
  | _, _, 0, _ => by
    show CellsAt t K C H (List.take 0 _) (List.take 0 _)
    rw [List.take_zero, List.take_zero]
    rfl
  | [], _, n + 1, h => by cases h; rfl
  | c :: r, _, n + 1, ⟨x, zs, e, h1, h2⟩ => by subst e; exact ⟨x, _, rfl, h1, h2.take n⟩
theorem CellsAt.drop : ∀ {cs : List Cell} {xs : List V} (n : Nat), CellsAt t K C H cs xs → CellsAt t K C H (cs.drop n) (xs.drop n)
  | _, _, 0, h => h
  | [], _, n + 1, h => by cases h; rfl
  | c :: r, _, n + 1, ⟨x, zs, e, h1, h2⟩ => by subst e; exact h2.drop n
/-! tables by name -/
theorem Tab.get_cons {r : Str × List Cell} {T : Tab} : Tab.get (r :: T) n = if r.1 = n then some r.2 else Tab.get T n := by
  unfold Tab.get
  rw [List.find?_cons]
  by_cases h : r.1 = n
  · rw [decide_eq_true h, if_pos h]; rfl
  · rw [decide_eq_false h, if_neg h]
theorem KvAt.val : ∀ {T : Tab} {ks : List (Key × V)}, KvAt t K C H T ks → (∀ cs, T.get n = some cs → ∃ v, valV ks (.inr n) = some v ∧ RowAt t K C H cs v) ∧ (T.get n = none → valV ks (.inr n) = none)
  | [], _, h => by cases h; exact ⟨fun _ z => (nomatch z), fun _ => rfl⟩
  | (m, cs) :: r, _, ⟨v, ls, e, h1, h2⟩ => by
    subst e
    obtain ⟨q1, q2⟩ := h2.val
    rw [Tab.get_cons]
    by_cases c : m = n
    · have e : (Sum.inr m : Key) = .inr n := by rw [c]
      rw [if_pos (show (m, cs).1 = n from c), valV_pos (p := ((Sum.inr m : Key), v)) e]
      exact ⟨fun ds z => by cases z; exact ⟨v, rfl, h1⟩, fun z => nomatch z⟩
    · have e : ¬ (Sum.inr m : Key) = .inr n := fun z => c (Sum.inr.inj z)
      rw [if_neg (show ¬ (m, cs).1 = n from c), valV_neg (p := ((Sum.inr m : Key), v)) e]
      exact ⟨q1, q2⟩
theorem KvAt.length : ∀ {T : Tab} {ks : List (Key × V)}, KvAt t K C H T ks → ks.length = T.length
  | [], _, h => by cases h; rfl
  | (m, cs) :: r, _, ⟨v, ls, e, h1, h2⟩ => by
    subst e
    show ls.length + 1 = r.length + 1
    rw [h2.length]
theorem KvAt.keys : ∀ {T : Tab} {ks : List (Key × V)}, KvAt t K C H T ks → ks.map (·.1) = T.names.map Sum.inr ∧ (ks.map fun kv => kV kv.1) = T.names.map V.str
  | [], _, h => by cases h; exact ⟨rfl, rfl⟩
  | (m, cs) :: r, _, ⟨v, ls, e, h1, h2⟩ => by
    subst e
    obtain ⟨e1, e2⟩ := h2.keys
    exact ⟨congrArg ((Sum.inr m : Key) :: ·) e1, congrArg (V.str m :: ·) e2⟩
theorem KvAt.app : ∀ {T U : Tab} {ks ls : List (Key × V)}, KvAt t K C H T ks → KvAt t K C H U ls → KvAt t K C H (T ++ U) (ks ++ ls)
  | [], _, _, _, h, g => by cases h; exact g
  | (m, cs) :: r, _, _, _, ⟨v, ls, e, h1, h2⟩, g => by subst e; exact ⟨v, _, rfl, h1, h2.app g⟩
theorem Tab.get_none : T.get n = none ↔ n ∉ T.names := by
  unfold Tab.get Tab.names
  rw [Option.map_eq_none_iff, List.find?_eq_none]
  simp only [decide_eq_true_eq, List.mem_map, not_exists, not_and]
theorem Tab.get_mem (h : T.get n = some cs) : (n, cs) ∈ T := by
  unfold Tab.get at h
  obtain ⟨⟨m, ds⟩, e1, e2⟩ := Option.map_eq_some_iff.mp h
  have := List.find?_some e1
  have q := List.mem_of_find?_eq_some e1
  simp only [decide_eq_true_eq] at this
  subst this
  cases e2
  exact q
theorem Tab.get_of (nd : T.names.Nodup) (h : (n, cs) ∈ T) : T.get n = some cs := by
  induction T with
  | nil => cases h
  | cons r T ih =>
    rw [Tab.get_cons]
    have nd : r.1 ∉ T.map (·.1) ∧ (T.map (·.1)).Nodup := List.nodup_cons.mp nd
    rcases List.mem_cons.mp h with e | h
    · subst e
      rw [if_pos rfl]
    · rw [if_neg fun z => nd.1 (by rw [z]; exact List.mem_map.mpr ⟨_, h, rfl⟩)]
      exact ih nd.2 h
/-- a new name at the end -/
theorem KvAt.put (h : KvAt t K C H T ks) (r : RowAt t K C H cs v) (hn : n ∉ T.names) : KvAt t K C H (T ++ [(n, cs)]) (putK ks (.inr n) v) := by
  have e : (ks.any fun kv => decide (kv.1 = (Sum.inr n : Key))) = false := by
    rw [valV_any, (h.val (n := n)).2 (Tab.get_none.mpr hn)]
    rfl
  unfold putK
  rw [e, if_neg (by decide)]
  exact h.app ⟨v, [], rfl, r, rfl⟩
theorem KvAt.at : ∀ {T : Tab} {ks : List (Key × V)}, KvAt t K C H T ks → ∀ {i : Nat} {kv : Key × V}, ks[i]? = some kv → ∃ n cs, T[i]? = some (n, cs) ∧ kv.1 = .inr n ∧ RowAt t K C H cs kv.2
  | [], _, h, i, x, e => by cases h; simp at e
  | (m, cs) :: r, _, ⟨v, ls, e1, h1, h2⟩, i, x, e => by
    subst e1
    cases i with
    | zero => cases e; exact ⟨m, cs, rfl, rfl, h1⟩
    | succ i => exact h2.at (i := i) e
/-- locked, and unlocked again -/
theorem TabAt.dget (h : TabAt ex t K C P H T v) : ∃ a, v = .ref a ∧ (∀ n cs, T.get n = some cs → ∃ x, DGet H a (.str n) (some x) ∧ RowAt t K C H cs x) ∧ (∀ n, T.get n = none → DGet H a (.str n) none) := by
  obtain ⟨a, ks, e, _, h1, h2⟩ := h
  refine ⟨a, e, fun n cs hg => ?_, fun n hg => ?_⟩
  · obtain ⟨x, e1, r⟩ := (h2.val (n := n)).1 cs hg
    exact ⟨x, .inl ⟨ks, .inr n, h1.rd, rfl, e1.symm⟩, r⟩
  · exact .inl ⟨ks, .inr n, h1.rd, rfl, ((h2.val (n := n)).2 hg).symm⟩
end
/-! ### comprehensions over a dict that is locked -/
section
variable {K : PySem.W.Frag} {td : TE} {i j : Nat} {tt : TT} {te : TE} {vs : List Nat} {σ : L2.St} {H : Hp} {Q : VK} {a : Addr} {ks : List (Key × V)}
theorem taken {β : Type} (f : Nat → Option β) {i : Nat} : ((List.range (i + 1)).filterMap f) = ((List.range i).filterMap f) ++ (f i).toList := by
  rw [List.range_succ, List.filterMap_append]
  cases h : f i <;> simp [h]
/-- the loop's end: the dict is unlocked -/
theorem unlocked {o : Obj} {F : Hp} (ha : H a = some (.dK ks)) (s : Same (upd H a (.frz o (.dK ks))) F) : F a = some (.frz o (.dK ks)) ∧ Same H (upd F a (.dK ks)) := by
  refine ⟨s _ _ upd_same, fun c u e => ?_⟩
  by_cases h : c = a
  · subst h
    rw [ha] at e
    cases e
    exact upd_same
  · rw [upd_ne h]
    exact s _ _ (by rw [upd_ne h]; exact e)
theorem lock_free {o : Obj} {p : Addr} (ha : H a = some (.dK ks)) (h : (upd H a (.frz o (.dK ks))) p = none) : p ≠ a ∧ H p = none := by
  have n : p ≠ a := fun z => by rw [z, upd_same] at h; cases h
  rw [upd_ne n] at h
  exact ⟨n, h⟩
/-- one more turn of the list -/
theorem grown {f : Nat → Option V} {r : Nat} {D : Addr} {F F1 : Hp} {G : Hp} {y : V} (few : r < 1000) (hD : G D = none) (s : Same G F) (hz : F D = some (.lst ((List.range r).filterMap f))) (s1 : Same F F1) (e : f r = some y) :
    ∃ acc, F1 D = some (.lst acc) ∧ acc.length < sizeLine ∧ Same G (upd F1 D (.lst (acc ++ [y]))) ∧ (upd F1 D (.lst (acc ++ [y]))) D = some (.lst ((List.range (r + 1)).filterMap f)) := by
  refine ⟨_, s1 _ _ hz, small1000 ?_, fun c u q => ?_, ?_⟩
  · have := List.length_filterMap_le f (List.range r)
    rw [List.length_range] at this
    omega
  · rw [upd_ne (ne_of_none q hD)]
    exact s1 _ _ (s _ _ q)
  · rw [upd_same, taken, e]
    rfl
theorem left {f : Nat → Option V} {r : Nat} {D : Addr} {F F1 G : Hp} (s : Same G F) (hz : F D = some (.lst ((List.range r).filterMap f))) (s1 : Same F F1) (e : f r = none) : Same G F1 ∧ F1 D = some (.lst ((List.range (r + 1)).filterMap f)) := by
  refine ⟨s.trans s1, ?_⟩
  rw [taken, e]
  simpa using s1 _ _ hz
theorem lc_items (f : Nat → Option V) (ha : H a = some (.dK ks)) (few : ks.length ≤ 1000) (hd : ∀ (o : Obj) (R : V → Hp → Prop), R (.ref a) (upd H a (.frz o (.dK ks))) → td σ (upd H a (.frz o (.dK ks))) R)
    (hw : ∀ x y : V, wipe (((wipe σ vs).set i (some x)).set j (some y)) vs = wipe σ vs)
    (step : ∀ (o : Obj) (r : Nat) (k : Key) (v : V) (F : Hp), ks[r]? = some (k, v) → Same (upd H a (.frz o (.dK ks))) F → ∀ (R : Hp → Prop) (Ry : V → Hp → Prop), (∀ F1, Same F F1 → f r = none → R F1) → (∀ y F1, Same F F1 → f r = some y → Ry y F1) →
      tt (((wipe σ vs).set i (some (kV k))).set j (some v)) F fun b F1 => if b = true then te (((wipe σ vs).set i (some (kV k))).set j (some v)) F1 Ry else R F1)
    (done : ∀ p H', H p = none → Same H H' → H' p = some (.lst ((List.range ks.length).filterMap f)) → Q (.ref p) H') :
    tLockE (tLc (iItems td) (gTup K 2 (gCons (gName i) (gCons (gName j) gNil))) tt te vs) σ H Q := by
  refine ⟨a, _, ha, True.intro, fun o => ?_⟩
  refine hd _ _ ⟨a, o, ks, rfl, upd_same, fun D hD => ?_⟩
  obtain ⟨nD, fD⟩ := lock_free ha hD
  refine lc_it walk_items (fun r F => Same (upd H a (.frz o (.dK ks))) F ∧ F D = some (.lst ((List.range r).filterMap f))) ⟨same_new hD, upd_same⟩ (fun r F _ p => p.1 _ _ upd_same) ?_ ?_
  · rintro r x F F' hr ⟨s, hz⟩ ⟨T, y1, y2, rfl, hT, rfl, e1, e2⟩
    obtain ⟨⟨k, v⟩, e3⟩ : ∃ kv, ks[r]? = some kv := ⟨_, List.getElem?_eq_getElem hr⟩
    dsimp only at e1 e2
    rw [e3] at e1 e2
    cases e1
    cases e2
    have g := same_new (o := .tup [kV k, v]) hT
    refine ⟨T, _, rfl, SqT.of upd_same, rfl, _, _, rfl, _, _, rfl, rfl, hw _ _, ?_⟩
    have sT := s.trans g
    have hzT := g _ _ hz
    exact step o r k v _ e3 sT _ _ (fun F1 s1 e => left sT hzT s1 e) (fun y F1 s1 e => grown (by omega) hD sT hzT s1 e)
  · rintro F ⟨s, hz⟩
    obtain ⟨u1, u2⟩ := unlocked ha s
    exact ⟨u1, done D _ fD u2 (by rw [upd_ne nD]; exact hz)⟩
theorem lc_values (f : Nat → Option V) (ha : H a = some (.dK ks)) (few : ks.length ≤ 1000) (hd : ∀ (o : Obj) (R : V → Hp → Prop), R (.ref a) (upd H a (.frz o (.dK ks))) → td σ (upd H a (.frz o (.dK ks))) R)
    (hw : ∀ x : V, wipe ((wipe σ vs).set j (some x)) vs = wipe σ vs)
    (step : ∀ (o : Obj) (r : Nat) (k : Key) (v : V) (F : Hp), ks[r]? = some (k, v) → Same (upd H a (.frz o (.dK ks))) F → ∀ (R : Hp → Prop) (Ry : V → Hp → Prop), (∀ F1, Same F F1 → f r = none → R F1) → (∀ y F1, Same F F1 → f r = some y → Ry y F1) →
      tt ((wipe σ vs).set j (some v)) F fun b F1 => if b = true then te ((wipe σ vs).set j (some v)) F1 Ry else R F1)
    (done : ∀ p H', H p = none → Same H H' → H' p = some (.lst ((List.range ks.length).filterMap f)) → Q (.ref p) H') :
    tLockE (tLc (iVals td) (gName j) tt te vs) σ H Q := by
  refine ⟨a, _, ha, True.intro, fun o => ?_⟩
  refine hd _ _ ⟨a, o, ks, rfl, upd_same, fun D hD => ?_⟩
  obtain ⟨nD, fD⟩ := lock_free ha hD
  refine lc_it walk_values (fun r F => Same (upd H a (.frz o (.dK ks))) F ∧ F D = some (.lst ((List.range r).filterMap f))) ⟨same_new hD, upd_same⟩ (fun r F _ p => p.1 _ _ upd_same) ?_ ?_
  · rintro r x F F' hr ⟨s, hz⟩ ⟨rfl, k, e⟩
    refine ⟨hw _, ?_⟩
    exact step o r k x _ e s _ _ (fun F1 s1 e => left s hz s1 e) (fun y F1 s1 e => grown (by omega) hD s hz s1 e)
  · rintro F ⟨s, hz⟩
    obtain ⟨u1, u2⟩ := unlocked ha s
    exact ⟨u1, done D _ fD u2 (by rw [upd_ne nD]; exact hz)⟩
theorem lc_keys (f : Nat → Option V) (ha : H a = some (.dK ks)) (few : ks.length ≤ 1000) (hd : ∀ (o : Obj) (R : V → Hp → Prop), R (.ref a) (upd H a (.frz o (.dK ks))) → td σ (upd H a (.frz o (.dK ks))) R)
    (hw : ∀ x : V, wipe ((wipe σ vs).set j (some x)) vs = wipe σ vs)
    (step : ∀ (o : Obj) (r : Nat) (k : Key) (v : V) (F : Hp), ks[r]? = some (k, v) → Same (upd H a (.frz o (.dK ks))) F → ∀ (R : Hp → Prop) (Ry : V → Hp → Prop), (∀ F1, Same F F1 → f r = none → R F1) → (∀ y F1, Same F F1 → f r = some y → Ry y F1) →
      tt ((wipe σ vs).set j (some (kV k))) F fun b F1 => if b = true then te ((wipe σ vs).set j (some (kV k))) F1 Ry else R F1)
    (done : ∀ p H', H p = none → Same H H' → H' p = some (.lst ((List.range ks.length).filterMap f)) → Q (.ref p) H') :
    tLockE (tLc (iKeys td) (gName j) tt te vs) σ H Q := by
  refine ⟨a, _, ha, True.intro, fun o => ?_⟩
  refine hd _ _ ⟨a, o, rfl, .inl ⟨ks, upd_same, fun D hD => ?_⟩⟩
  obtain ⟨nD, fD⟩ := lock_free ha hD
  refine lc_it walk_keys (fun r F => Same (upd H a (.frz o (.dK ks))) F ∧ F D = some (.lst ((List.range r).filterMap f))) ⟨same_new hD, upd_same⟩ (fun r F _ p => p.1 _ _ upd_same) ?_ ?_
  · rintro r x F F' hr ⟨s, hz⟩ ⟨rfl, k, v, e, rfl⟩
    refine ⟨hw _, ?_⟩
    exact step o r k v _ e s _ _ (fun F1 s1 e => left s hz s1 e) (fun y F1 s1 e => grown (by omega) hD s hz s1 e)
  · rintro F ⟨s, hz⟩
    obtain ⟨u1, u2⟩ := unlocked ha s
    exact ⟨u1, done D _ fD u2 (by rw [upd_ne nD]; exact hz)⟩
theorem none_left {f : Nat → Option V} {n : Nat} (h : ∀ r, r < n → f r = none) : (List.range n).filterMap f = [] := by
  rw [List.filterMap_eq_nil_iff]
  exact fun r hr => h r (List.mem_range.mp hr)
theorem all_left {g : Nat → V} {n : Nat} : (List.range n).filterMap (fun r => some (g r)) = (List.range n).map g := by
  induction n with
  | zero => rfl
  | succ n ih => rw [taken, ih, List.range_succ, List.map_append]; rfl
end
end Pk
set_option Elab.async false
set_option linter.all false
set_option maxRecDepth 100000
set_option maxHeartbeats 2000000
/-! plans: what they are made of; the checks of good ones -/
namespace Pk
open PySem PySem.Spec L2 PyProof.Rows
/-! ### names -/
def lowc (c : Nat) : Bool := decide (97 ≤ c) && decide (c ≤ 122)
def isNm (x : Str) : Bool := decide (1 ≤ x.length ∧ x.length ≤ 8) && x.cps.toList.all lowc
theorem isNm_len {x : Str} (h : isNm x = true) : 1 ≤ x.length ∧ x.length ≤ 8 := by
  unfold isNm at h
  rw [Bool.and_eq_true, decide_eq_true_eq] at h
  exact h.1
theorem a_le {c : Nat} : (!decide ((⟨#[c]⟩ : Str).cps.toList < ("a" : Str).cps.toList)) = decide (97 ≤ c) := by
  have e : ("a" : Str).cps.toList = [97] := rfl
  rw [e]
  show (!decide ([c] < [97])) = _
  by_cases h : 97 ≤ c
  · rw [decide_eq_true h, decide_eq_false (by rw [List.cons_lt_cons_iff]; simp; omega)]
    rfl
  · rw [decide_eq_false h, decide_eq_true (by rw [List.cons_lt_cons_iff]; left; omega)]
    rfl
theorem z_le {c : Nat} : (!decide (("z" : Str).cps.toList < (⟨#[c]⟩ : Str).cps.toList)) = decide (c ≤ 122) := by
  have e : ("z" : Str).cps.toList = [122] := rfl
  rw [e]
  show (!decide ([122] < [c])) = _
  by_cases h : c ≤ 122
  · rw [decide_eq_true h, decide_eq_false (by rw [List.cons_lt_cons_iff]; simp; omega)]
    rfl
  · rw [decide_eq_false h, decide_eq_true (by rw [List.cons_lt_cons_iff]; left; omega)]
    rfl
theorem str_len {z : Str} : z.cps.toList.length = z.length := Array.length_toList
/-! ### what plans are made of -/
structure PoolR where
  c : Int
  T : Tr
  m : Str
structure GrpR where
  p : PoolR
  ar : Option Str
structure StmR where
  c : Int
  T : Tr
  mo : Option Int
  h : Option Str
  k : Option Str
  g : Option Str
def oV : Option Str → V
  | none => .non
  | some s => .str s
def oI : Option Int → V
  | none => .non
  | some i => .int i
def cN : Option Str → Cell
  | none => .non
  | some s => .name s
def cI : Option Int → Cell
  | none => .non
  | some i => .num i
def PoolR.cells (p : PoolR) : List Cell := [.num p.c, .rule p.T, .name p.m]
def GrpR.cells (g : GrpR) : List Cell := [.num g.p.c, .rule g.p.T, .name g.p.m, cN g.ar]
def StmR.cells (s : StmR) : List Cell := [.num s.c, .rule s.T, cI s.mo, cN s.h, cN s.k, cN s.g]
abbrev Grps := List (Str × GrpR)
abbrev Stms := List (Str × StmR)
def Grps.nm (G : Grps) : List Str := G.map (·.1)
def Stms.nm (S : Stms) : List Str := S.map (·.1)
def Grps.tab (G : Grps) : Tab := G.map fun r => (r.1, r.2.cells)
def Stms.tab (S : Stms) : Tab := S.map fun r => (r.1, r.2.cells)
theorem Grps.tab_nm (G : Grps) : G.tab.names = G.nm := by unfold Grps.tab Tab.names Grps.nm; rw [List.map_map]; rfl
theorem Stms.tab_nm (S : Stms) : S.tab.names = S.nm := by unfold Stms.tab Tab.names Stms.nm; rw [List.map_map]; rfl
structure Parts where
  p : PoolR
  hs : Grps
  ks : Grps
  ss : Stms
/-- a good pool: what it needs at least -/
structure PoolR.ok (p : PoolR) : Prop where
  c1 : 1 ≤ p.c
  c2 : p.c ≤ 10 ^ 60
  mo : p.m = "come" ∨ p.m = "read"
  nr : p.m = "come" → p.T.top ≤ p.c
  tk : p.T.ok
  l6 : p.T.lv ≤ 6
def StmR.need (s : StmR) : Int := s.T.top + (match s.mo with | none => 0 | some i => i - 1)
structure StmR.ok (s : StmR) : Prop where
  c1 : 1 ≤ s.c
  c2 : s.c ≤ 10 ^ 60
  mo : ∀ i, s.mo = some i → 1 ≤ i ∧ i ≤ 10 ^ 60
  nr : s.need ≤ s.c
  tk : s.T.ok
  l6 : s.T.lv ≤ 6
/-- groups in groups of the same kind, none in itself: a height falls -/
structure Grps.ok (G : Grps) : Prop where
  nm : ∀ r ∈ G, isNm r.1 = true ∧ r.2.p.ok
  ar : ∃ h : Str → Nat, (∀ n, h n ≤ 100) ∧ ∀ r ∈ G, ∀ n, r.2.ar = some n → n ∈ G.nm ∧ h n < h r.1
structure Parts.ok (A : Parts) : Prop where
  pi : A.p.ok
  hs : A.hs.ok
  ks : A.ks.ok
  nd : (("pipe" : Str) :: (A.hs.nm ++ A.ks.nm ++ A.ss.nm)).Nodup
  g6 : A.hs.length + A.ks.length ≤ 6
  s1 : 1 ≤ A.ss.length
  s6 : A.ss.length ≤ 6
  ss : ∀ r ∈ A.ss, isNm r.1 = true ∧ r.2.ok ∧ (∀ n, r.2.h = some n → n ∈ A.hs.nm) ∧ (∀ n, r.2.k = some n → n ∈ A.ks.nm) ∧
    (∀ n, r.2.g = some n → ∃ s, (n, s) ∈ A.ss ∧ s.g = none ∧ s.h = r.2.h ∧ s.k = r.2.k)
section
variable {K : PySem.W.Frag} {C : Cs} {P P' : Addr → Prop} {vs : List V} {H H' : Hp} {Q : VK} {E : XK} {ex t : Bool} {v : V} {a : Addr}
theorem cN_at {o : Option Str} {x : V} (h : CellAt t K C H (cN o) x) : x = oV o := by cases o <;> exact h
theorem cI_at {o : Option Int} {x : V} (h : CellAt t K C H (cI o) x) : x = oI o := by cases o <;> exact h
theorem at_cN {o : Option Str} : CellAt t K C H (cN o) (oV o) := by cases o <;> rfl
theorem at_cI {o : Option Int} : CellAt t K C H (cI o) (oI o) := by cases o <;> rfl
theorem PoolR.at {p : PoolR} (h : RowAt t K C H p.cells v) : ∃ a r, v = .ref a ∧ SqT K H a [.int p.c, r, .str p.m] ∧ LeafR t K C H r p.T := by
  obtain ⟨a, xs, e, s, x0, _, rfl, e0, x1, _, rfl, e1, x2, _, rfl, e2, e3⟩ := h
  cases e3
  cases (show x0 = V.int p.c from e0)
  cases (show x2 = V.str p.m from e2)
  exact ⟨a, x1, e, s, e1⟩
theorem GrpR.at {g : GrpR} (h : RowAt t K C H g.cells v) : ∃ a r, v = .ref a ∧ SqT K H a [.int g.p.c, r, .str g.p.m, oV g.ar] ∧ LeafR t K C H r g.p.T := by
  obtain ⟨a, xs, e, s, x0, _, rfl, e0, x1, _, rfl, e1, x2, _, rfl, e2, x3, _, rfl, e3, e4⟩ := h
  cases e4
  cases (show x0 = V.int g.p.c from e0)
  cases (show x2 = V.str g.p.m from e2)
  cases (cN_at e3)
  exact ⟨a, x1, e, s, e1⟩
theorem StmR.at {g : StmR} (h : RowAt t K C H g.cells v) : ∃ a r, v = .ref a ∧ SqT K H a [.int g.c, r, oI g.mo, oV g.h, oV g.k, oV g.g] ∧ LeafR t K C H r g.T := by
  obtain ⟨a, xs, e, s, x0, _, rfl, e0, x1, _, rfl, e1, x2, _, rfl, e2, x3, _, rfl, e3, x4, _, rfl, e4, x5, _, rfl, e5, e6⟩ := h
  cases e6
  cases (show x0 = V.int g.c from e0)
  cases (cI_at e2)
  cases (cN_at e3)
  cases (cN_at e4)
  cases (cN_at e5)
  exact ⟨a, x1, e, s, e1⟩
theorem PoolR.mk_at {p : PoolR} {r : V} (s : SqT K H a [.int p.c, r, .str p.m]) (l : LeafR t K C H r p.T) : RowAt t K C H p.cells (.ref a) := ⟨a, _, rfl, s, _, _, rfl, rfl, _, _, rfl, l, _, _, rfl, rfl, rfl⟩
theorem GrpR.mk_at {g : GrpR} {r : V} (s : SqT K H a [.int g.p.c, r, .str g.p.m, oV g.ar]) (l : LeafR t K C H r g.p.T) : RowAt t K C H g.cells (.ref a) := ⟨a, _, rfl, s, _, _, rfl, rfl, _, _, rfl, l, _, _, rfl, rfl, _, _, rfl, at_cN, rfl⟩
theorem StmR.mk_at {g : StmR} {r : V} (s : SqT K H a [.int g.c, r, oI g.mo, oV g.h, oV g.k, oV g.g]) (l : LeafR t K C H r g.T) : RowAt t K C H g.cells (.ref a) :=
  ⟨a, _, rfl, s, _, _, rfl, rfl, _, _, rfl, l, _, _, rfl, at_cI, _, _, rfl, at_cN, _, _, rfl, at_cN, _, _, rfl, at_cN, rfl⟩
/-! ### is_name, is_moment -/
def NoStr (K : PySem.W.Frag) (H : Hp) (v : V) : Prop := ∃ t, TyX K H v t ∧ PySem.W.kitOne K t (.type "str") = some false
def sp_is_name (K : PySem.W.Frag) : Sp := fun vs H Q _ => ∃ v, vs = [v] ∧ ((∃ z : Str, v = .str z ∧ z.length ≤ 100 ∧ ∀ H', Same H H' → Q (.bl (isNm z)) H') ∨ (NoStr K H v ∧ Q (.bl false) H))
def t_is_name (K : PySem.W.Frag) : TS :=
  (tSeq (tIfS (tOr (tNot (tB (tCB (rIsi K) (tCons (tVar 0) (tCons (tC (.ty "str")) tNil))))) (tNot (tTest (tChain (rLeU) (rLeU) (tC (.int 1)) (tCB (rLenU K) (tCons (tVar 0) tNil)) (tC (.int 8)))))) (tRet (tC (.bl false))) tNext)
    (tRet (tCB (rAll K) (tCons (tLc (iStr (tVar 0)) (gName 1) tYes (tChain (rLeU) (rLeU) (tC (.str "a")) (tVar 1) (tC (.str "z"))) [1]) tNil))))
def t_is_moment (K : PySem.W.Frag) : TS :=
  (tRet (tAndV (tCB (rIsi K) (tCons (tVar 0) (tCons (tC (.ty "str")) tNil))) (tOp (rInU K) (tVar 0) (tTup (tCons (tC (.str "come")) (tCons (tC (.str "read")) tNil))))))
theorem ln_is_name (h : sp_is_name K vs H Q E) : vs.length = 1 := by obtain ⟨_, rfl, _⟩ := h; rfl
theorem all_signs {te : TE} {f : Nat → Bool} {a0 : V} {z : Str} (few : z.length ≤ 100) (e0 : a0 = .str z) (ht : ∀ G (c : Nat), ∀ Q : VK, Q (.bl (f c)) G → te [some a0, some (.str ⟨#[c]⟩)] G Q) (k : ∀ H', Same H H' → Q (.bl (z.cps.toList.all f)) H') :
    tCB (rAll K) (tCons (tLc (iStr (tVar 0)) (gName 1) tYes te [1]) tNil) [some a0, none] H Q := by
  subst e0
  have sz : z.cps.size = z.length := rfl
  refine ⟨_, rfl, z, rfl, fun D hD => ?_⟩
  refine lc_it walk_str (fun i G => Same H G ∧ G D = some (.lst ((z.cps.toList.take i).map fun c => V.bl (f c)))) ⟨same_new hD, upd_same⟩ (fun _ _ _ _ => trivial) ?_ ?_
  · rintro i x G G' hi ⟨s, hz⟩ ⟨rfl, c, hc, rfl⟩
    refine ⟨rfl, ?_⟩
    have hc' : z.cps.toList[i]? = some c := by rw [Array.getElem?_toList]; exact hc
    obtain ⟨lt, ec⟩ := List.getElem?_eq_some_iff.mp hc'
    refine ht G' c _ ⟨_, hz, small1000 ?_, fun a o e => ?_, ?_⟩
    · rw [List.length_map, List.length_take]
      omega
    · rw [upd_ne (ne_of_none e hD)]
      exact s a o e
    · rw [upd_same, List.take_succ_eq_append_getElem lt, List.map_append, ec]
      rfl
  · rintro G ⟨s, hz⟩
    have e1 : z.cps.toList.take z.cps.size = z.cps.toList := List.take_of_length_le (by rw [Array.length_toList]; exact Nat.le_refl _)
    rw [e1] at hz
    refine ⟨D, z.cps.toList.map f, rfl, SqL.of (by rw [List.map_map]; exact hz), ?_⟩
    have e : (z.cps.toList.map f).all id = z.cps.toList.all f := by rw [List.all_map]; rfl
    rw [e]
    exact k G s
theorem rd_is_name (h : sp_is_name K vs H Q E) : t_is_name K (EndsOf Q) (start ["", ""] vs) H := by
  obtain ⟨x, rfl, ⟨z, rfl, few, k⟩ | ⟨⟨t, ty, e⟩, k⟩⟩ := h
  · refine ⟨_, rfl, _, _, _, _, true, rfl, .ty _, .base (.str z), kit_ss, true, rfl, iteF' rfl ?_⟩
    refine ⟨_, rfl, .inl ⟨_, z.length, rfl, ⟨Nat.le_of_lt (small1000 (by omega)), rfl⟩, .inl ⟨_, _, rfl, rfl, _, rfl, ?_⟩⟩⟩
    refine ifD (fun c1 => ?_) (fun c1 => ?_)
    · refine .inl ⟨_, _, rfl, rfl, _, rfl, ?_⟩
      by_cases c2 : (z.length : Int) ≤ 8
      · refine iteF' (by rw [decide_eq_true c2]; rfl) ?_
        refine all_signs (f := lowc) few rfl (fun G c Q q => ?_) fun H' s => ?_
        · refine ⟨_, rfl, .inr ⟨_, _, rfl, rfl, _, rfl, ?_⟩⟩
          rw [a_le]
          by_cases h1 : 97 ≤ c
          · refine iteT' (decide_eq_true h1) (.inr ⟨_, _, rfl, rfl, ?_⟩)
            rw [z_le]
            have : lowc c = decide (c ≤ 122) := by unfold lowc; rw [decide_eq_true h1]; rfl
            rwa [this] at q
          · refine iteF' (decide_eq_false h1) ?_
            have : lowc c = false := by unfold lowc; rw [decide_eq_false h1]; rfl
            rwa [this] at q
        · have : isNm z = z.cps.toList.all lowc := by unfold isNm; rw [decide_eq_true (by omega)]; rfl
          have kk := k H' s
          rwa [this] at kk
      · refine iteT' (by rw [decide_eq_false c2]; rfl) ?_
        have : isNm z = false := by unfold isNm; rw [decide_eq_false (by omega)]; rfl
        have kk := k H (Same.refl H)
        rwa [this] at kk
    · refine ⟨false, rfl, iteT' rfl ?_⟩
      have : isNm z = false := by unfold isNm; rw [decide_eq_false (by omega)]; rfl
      have kk := k H (Same.refl H)
      rwa [this] at kk
  · exact ⟨_, rfl, _, _, _, _, false, rfl, .ty _, ty, e, false, rfl, iteT' rfl (iteT' rfl k)⟩
def sp_is_moment (K : PySem.W.Frag) : Sp := fun vs H Q _ => ∃ z : Str, vs = [.str z] ∧ (z = "come" ∨ z = "read") ∧ ∀ H', Same H H' → Q (.bl true) H'
theorem ln_is_moment (h : sp_is_moment K vs H Q E) : vs.length = 1 := by obtain ⟨_, rfl, _⟩ := h; rfl
theorem rd_is_moment (h : sp_is_moment K vs H Q E) : t_is_moment K (EndsOf Q) (start [""] vs) H := by
  obtain ⟨z, rfl, hz, k⟩ := h
  refine ⟨_, rfl, _, _, _, _, true, rfl, .ty _, .base (.str z), kit_ss, true, rfl, iteT' rfl ?_⟩
  refine ⟨_, rfl, two_fit.2.1, fun p hp => .inl ⟨p, _, rfl, .inr (SqT.of upd_same), rfl, rfl, ?_⟩⟩
  have e : inV (V.str z) [V.str "come", V.str "read"] = true := by rcases hz with rfl | rfl <;> decide +kernel
  have kk := k _ (same_new (o := .tup [V.str "come", .str "read"]) hp)
  show Q (.bl (inV (V.str z) [V.str "come", V.str "read"])) _
  rw [e]
  exact kk
def sp_is_name_or_none (K : PySem.W.Frag) : Sp := fun vs H Q _ => ∃ o : Option Str, vs = [oV o] ∧ (∀ z, o = some z → isNm z = true) ∧ ∀ H', Same H H' → Q (.bl true) H'
def t_is_name_or_none (K : PySem.W.Frag) : TS :=
  (tRet (tOrV (tOp (rIsNn) (tVar 0) (tC .non)) (tCall (sp_is_name K) [] E0 (tCons (tVar 0) tNil))))
theorem ln_is_name_or_none (h : sp_is_name_or_none K vs H Q E) : vs.length = 1 := by obtain ⟨_, rfl, _⟩ := h; rfl
theorem rd_is_name_or_none (h : sp_is_name_or_none K vs H Q E) : t_is_name_or_none K (EndsOf Q) (start [""] vs) H := by
  obtain ⟨o, rfl, ok, k⟩ := h
  cases o with
  | none => exact ⟨_, rfl, rfl, _, rfl, iteT' (decide_eq_true rfl) (k H (Same.refl H))⟩
  | some z =>
    have nm := ok z rfl
    have := isNm_len nm
    refine ⟨_, rfl, rfl, _, rfl, iteF' (decide_eq_false (by intro z; cases z)) ⟨_, rfl, _, rfl, .inl ⟨z, rfl, by omega, fun H' s => ?_⟩⟩⟩
    rw [nm]
    exact k H' s
end
end Pk
set_option Elab.async false
set_option linter.all false
set_option maxRecDepth 100000
set_option maxHeartbeats 2000000
namespace Pk
open PySem PySem.Spec L2 PyProof.Rows
section
variable {K : PySem.W.Frag} {C : Cs} {P P' : Addr → Prop} {vs : List V} {H H' : Hp} {Q : VK} {E : XK} {ex t : Bool} {v : V} {a : Addr}
theorem RuleAt.isR {r : V} {T : Tr} (h : RuleAt K C H r T) : ∃ t, TyX K H r t ∧ PySem.W.kitOne K t (.ref C.Rule) = some true := by
  obtain ⟨ra, rd, ru, rfl, hra, _, _, _, fx⟩ := h
  exact ⟨_, .base (.ins hra fx.ic.cl fx.ic.ha fx.ic.hn fx.ic.htk fx.ic.hm), fx.ic.me⟩
theorem kit_dd : PySem.W.kitOne K (.type "dict") (.type "dict") = some true := kit_ty (by decide +kernel)
/-! ### is_pool, is_group, is_stream -/
def sp_is_pool (K : PySem.W.Frag) (C : Cs) : Sp := fun vs H Q _ => ∃ v p, vs = [v] ∧ RowAt true K C H (PoolR.cells p) v ∧ p.ok ∧ ∀ H', Same H H' → Q (.bl true) H'
def t_is_pool (K : PySem.W.Frag) (C : Cs) : TS :=
  (tSeq (tIfS (tOr (tNot (tB (tCB (rIsi K) (tCons (tVar 0) (tCons (tC (.ty "tuple")) tNil))))) (tTest (tOp (rNeU K) (tCB (rLenU K) (tCons (tVar 0) tNil)) (tC (.int 3))))) (tRet (tC (.bl false))) tNext)
    (tSeq (tAsg (tVar 0) (gTup K 3 (gCons (gName 1) (gCons (gName 2) (gCons (gName 3) gNil)))))
    (tRet (tAndV (tCall (sp_is_number K) [] E0 (tCons (tC (.int 1)) (tCons (tVar 1) tNil))) (tAndV (tCB (rIsi K) (tCons (tVar 2) (tCons (tC (.ref C.Rule)) tNil))) (tCall (sp_is_moment K) [] E0 (tCons (tVar 3) tNil)))))))
theorem ln_is_pool (h : sp_is_pool K C vs H Q E) : vs.length = 1 := by obtain ⟨_, _, rfl, _⟩ := h; rfl
theorem rd_is_pool (h : sp_is_pool K C vs H Q E) : t_is_pool K C (EndsOf Q) (start ["", "", "", ""] vs) H := by
  obtain ⟨v, p, rfl, row, ok, k⟩ := h
  obtain ⟨a, r, rfl, s, l⟩ := PoolR.at row
  obtain ⟨t, ty, kt⟩ := RuleAt.isR (show RuleAt K C H r p.T from l)
  refine ⟨_, rfl, _, _, _, _, true, rfl, .ty _, sqt_ty s, kit_tt, true, rfl, ?_⟩
  refine ⟨_, rfl, .inl ⟨_, 3, rfl, .inr ⟨_, s, rfl⟩, .inl ⟨rfl, _, rfl, ?_⟩⟩⟩
  refine iteF' (by decide) ?_
  refine ⟨_, rfl, g3 s ?_⟩
  refine ⟨_, rfl, 1, p.c, rfl, _, rfl, ?_⟩
  rw [decide_eq_true ok.c1]
  refine iteT' rfl ⟨_, rfl, _, _, _, _, true, rfl, .own _, ty, kt, true, rfl, iteT' rfl ?_⟩
  exact ⟨_, rfl, p.m, rfl, ok.mo, k⟩
theorem three_cut {xs : List V} {x y z : V} (h : SqT K H a (x :: y :: z :: xs)) (ne : xs ≠ []) (k : ∀ p, H p = none → Q (.ref p) (upd H p (.tup [x, y, z]))) : rSlU K (.ref a) none (some 3) H Q := by
  refine .inr ⟨a, _, rfl, h, fun w => ?_, fun p hp => ?_⟩
  · have e : HT.sIx (x :: y :: z :: xs).length (x :: y :: z :: xs).length (some ((3 : Nat) : Int)) = min 3 (x :: y :: z :: xs).length := HT.sIx_nat ..
    have w2 : HT.sIx (x :: y :: z :: xs).length (x :: y :: z :: xs).length (some ((3 : Nat) : Int)) = (x :: y :: z :: xs).length := w.2
    rw [e] at w2
    have : 0 < xs.length := List.length_pos_iff.mpr ne
    simp only [List.length_cons] at w2
    omega
  · have e : cutV (x :: y :: z :: xs) none (some ((3 : Nat) : Int)) = [x, y, z] := cutV_to _ 3
    have e2 : cutV (x :: y :: z :: xs) none (some 3) = [x, y, z] := e
    rw [e2]
    exact k p hp
def GrpR.fine (g : GrpR) : Prop := g.p.ok ∧ ∀ n, g.ar = some n → isNm n = true
def sp_is_group (K : PySem.W.Frag) (C : Cs) : Sp := fun vs H Q _ => ∃ v g, vs = [v] ∧ RowAt true K C H (GrpR.cells g) v ∧ g.fine ∧ ∀ H', Same H H' → Q (.bl true) H'
def t_is_group (K : PySem.W.Frag) (C : Cs) : TS :=
  (tSeq (tIfS (tOr (tNot (tB (tCB (rIsi K) (tCons (tVar 0) (tCons (tC (.ty "tuple")) tNil))))) (tTest (tOp (rNeU K) (tCB (rLenU K) (tCons (tVar 0) tNil)) (tC (.int 4))))) (tRet (tC (.bl false))) tNext)
    (tRet (tAndV (tCall (sp_is_pool K C) [] E0 (tCons (tSl (rSlU K) (tVar 0) tNoPart (tPart (tC (.int 3)))) tNil)) (tCall (sp_is_name_or_none K) [] E0 (tCons (tOp (rIx K) (tVar 0) (tC (.int 3))) tNil)))))
theorem ln_is_group (h : sp_is_group K C vs H Q E) : vs.length = 1 := by obtain ⟨_, _, rfl, _⟩ := h; rfl
theorem rd_is_group (h : sp_is_group K C vs H Q E) : t_is_group K C (EndsOf Q) (start [""] vs) H := by
  obtain ⟨v, g, rfl, row, ok, k⟩ := h
  obtain ⟨a, r, rfl, s, l⟩ := GrpR.at row
  refine ⟨_, rfl, _, _, _, _, true, rfl, .ty _, sqt_ty s, kit_tt, true, rfl, ?_⟩
  refine ⟨_, rfl, .inl ⟨_, 4, rfl, .inr ⟨_, s, rfl⟩, .inl ⟨rfl, _, rfl, ?_⟩⟩⟩
  refine iteF' (by decide) ?_
  refine ⟨_, rfl, _, rfl, three_cut s (by simp) fun q hq => ?_⟩
  have s1 := same_new (o := .tup [V.int g.p.c, r, .str g.p.m]) hq
  refine ⟨_, g.p, rfl, PoolR.mk_at (SqT.of upd_same) (l.kee (P := fun _ => False) (Kee.same s1)), ok.1, fun H2 s2 => ⟨true, rfl, iteT' rfl ?_⟩⟩
  have s3 := Tups.same (K := K) (s1.trans s2) _ _ s
  refine ⟨_, rfl, .inr (.inl ⟨a, _, 3, _, rfl, rfl, s3, rfl, ?_⟩)⟩
  exact ⟨g.ar, rfl, ok.2, fun H' s4 => k H' ((s1.trans s2).trans s4)⟩
theorem g6 {i1 i2 i3 i4 i5 i6 : Nat} {σ : L2.St} {R : L2.St → Hp → Prop} {x1 x2 x3 x4 x5 x6 : V} (s : SqT K H a [x1, x2, x3, x4, x5, x6]) (h : R ((((((σ.set i1 (some x1)).set i2 (some x2)).set i3 (some x3)).set i4 (some x4)).set i5 (some x5)).set i6 (some x6)) H) :
    gTup K 6 (gCons (gName i1) (gCons (gName i2) (gCons (gName i3) (gCons (gName i4) (gCons (gName i5) (gCons (gName i6) gNil)))))) (.ref a) σ H R := ⟨a, _, rfl, s, rfl, _, _, rfl, _, _, rfl, _, _, rfl, _, _, rfl, _, _, rfl, _, _, rfl, rfl, h⟩
def StmR.fine (s : StmR) : Prop := s.ok ∧ (∀ n, s.h = some n → isNm n = true) ∧ (∀ n, s.k = some n → isNm n = true) ∧ (∀ n, s.g = some n → isNm n = true)
def sp_is_stream (K : PySem.W.Frag) (C : Cs) : Sp := fun vs H Q _ => ∃ v g, vs = [v] ∧ RowAt true K C H (StmR.cells g) v ∧ g.fine ∧ ∀ H', Same H H' → Q (.bl true) H'
def t_is_stream (K : PySem.W.Frag) (C : Cs) : TS :=
  (tSeq (tIfS (tOr (tNot (tB (tCB (rIsi K) (tCons (tVar 0) (tCons (tC (.ty "tuple")) tNil))))) (tTest (tOp (rNeU K) (tCB (rLenU K) (tCons (tVar 0) tNil)) (tC (.int 6))))) (tRet (tC (.bl false))) tNext)
    (tSeq (tAsg (tVar 0) (gTup K 6 (gCons (gName 1) (gCons (gName 2) (gCons (gName 3) (gCons (gName 4) (gCons (gName 5) (gCons (gName 6) gNil))))))))
    (tSeq (tIfS (tOr (tNot (tB (tCall (sp_is_number K) [] E0 (tCons (tC (.int 1)) (tCons (tVar 1) tNil))))) (tNot (tB (tCB (rIsi K) (tCons (tVar 2) (tCons (tC (.ref C.Rule)) tNil)))))) (tRet (tC (.bl false))) tNext)
    (tSeq (tIfS (tAnd (tTest (tOp (rNotNn) (tVar 3) (tC .non))) (tNot (tB (tCall (sp_is_number K) [] E0 (tCons (tC (.int 1)) (tCons (tVar 3) tNil)))))) (tRet (tC (.bl false))) tNext)
    (tRet (tAndV (tCall (sp_is_name_or_none K) [] E0 (tCons (tVar 4) tNil)) (tAndV (tCall (sp_is_name_or_none K) [] E0 (tCons (tVar 5) tNil)) (tCall (sp_is_name_or_none K) [] E0 (tCons (tVar 6) tNil)))))))))
theorem ln_is_stream (h : sp_is_stream K C vs H Q E) : vs.length = 1 := by obtain ⟨_, _, rfl, _⟩ := h; rfl
theorem rd_is_stream (h : sp_is_stream K C vs H Q E) : t_is_stream K C (EndsOf Q) (start ["", "", "", "", "", "", ""] vs) H := by
  obtain ⟨v, g, rfl, row, ⟨ok, oh, ok2, og⟩, k⟩ := h
  obtain ⟨a, r, rfl, s, l⟩ := StmR.at row
  obtain ⟨t, ty, kt⟩ := RuleAt.isR (show RuleAt K C H r g.T from l)
  refine ⟨_, rfl, _, _, _, _, true, rfl, .ty _, sqt_ty s, kit_tt, true, rfl, ?_⟩
  refine ⟨_, rfl, .inl ⟨_, 6, rfl, .inr ⟨_, s, rfl⟩, .inl ⟨rfl, _, rfl, ?_⟩⟩⟩
  refine iteF' (by decide) ?_
  refine ⟨_, rfl, g6 s ?_⟩
  refine ⟨_, rfl, 1, g.c, rfl, _, rfl, ?_⟩
  rw [decide_eq_true ok.c1]
  refine iteF' rfl ⟨_, rfl, _, _, _, _, true, rfl, .own _, ty, kt, true, rfl, iteF' rfl ?_⟩
  cases hm : g.mo with
  | none =>
    refine ⟨_, rfl, rfl, _, rfl, iteF' (by rw [decide_eq_true (show oI none = V.non from rfl)]; rfl) (iteF' rfl ?_)⟩
    refine ⟨_, rfl, g.h, rfl, oh, fun H1 s1 => ⟨_, rfl, iteT' rfl ⟨_, rfl, g.k, rfl, ok2, fun H2 s2 => ⟨_, rfl, iteT' rfl ⟨_, rfl, g.g, rfl, og, fun H3 s3 => k H3 ((s1.trans s2).trans s3)⟩⟩⟩⟩⟩
  | some i =>
    refine ⟨_, rfl, rfl, _, rfl, iteT' (by rw [decide_eq_false (show ¬ oI (some i) = V.non from by intro z; cases z)]; rfl) ?_⟩
    refine ⟨_, rfl, 1, i, rfl, _, rfl, ?_⟩
    rw [decide_eq_true (ok.mo i hm).1]
    refine iteF' rfl ?_
    refine ⟨_, rfl, g.h, rfl, oh, fun H1 s1 => ⟨_, rfl, iteT' rfl ⟨_, rfl, g.k, rfl, ok2, fun H2 s2 => ⟨_, rfl, iteT' rfl ⟨_, rfl, g.g, rfl, og, fun H3 s3 => k H3 ((s1.trans s2).trans s3)⟩⟩⟩⟩⟩
/-! ### dicts of them -/
theorem all_true (n : Nat) : (List.range n).filterMap (fun _ => some (V.bl true)) = (List.replicate n true).map V.bl ∧ (List.replicate n true).all id = true := by
  refine ⟨?_, by simp⟩
  rw [all_left, List.map_const', List.length_range, List.map_replicate]
theorem rAll_true {p : Addr} {n : Nat} (h : H p = some (.lst ((List.range n).filterMap fun _ => some (V.bl true)))) (k : Q (.bl true) H) : rAll K [.ref p] H Q := by
  obtain ⟨e1, e2⟩ := all_true n
  exact ⟨p, List.replicate n true, rfl, SqL.of (by rw [h, e1]), by rw [e2]; exact k⟩
def sp_are_groups (K : PySem.W.Frag) (C : Cs) : Sp := fun vs H Q _ => ∃ v G P, vs = [v] ∧ TabAt true true K C P H (Grps.tab G) v ∧ G.length ≤ 1000 ∧ (∀ r ∈ G, isNm r.1 = true ∧ r.2.fine) ∧ ∀ H', Same H H' → Q (.bl true) H'
def sp_are_streams (K : PySem.W.Frag) (C : Cs) : Sp := fun vs H Q _ => ∃ v G P, vs = [v] ∧ TabAt true true K C P H (Stms.tab G) v ∧ 1 ≤ G.length ∧ G.length ≤ 6 ∧ (∀ r ∈ G, isNm r.1 = true ∧ r.2.fine) ∧ ∀ H', Same H H' → Q (.bl true) H'
def t_are_groups (K : PySem.W.Frag) (C : Cs) : TS :=
  (tSeq (tIfS (tNot (tB (tCB (rIsi K) (tCons (tVar 0) (tCons (tC (.ty "dict")) tNil))))) (tRet (tC (.bl false))) tNext)
    (tRet (tCB (rAll K) (tCons (tLockE (tLc (iItems (tVar 0)) (gTup K 2 (gCons (gName 1) (gCons (gName 2) gNil))) tYes (tAndV (tCall (sp_is_name K) [] E0 (tCons (tVar 1) tNil)) (tCall (sp_is_group K C) [] E0 (tCons (tVar 2) tNil))) [1, 2])) tNil))))
def t_are_streams (K : PySem.W.Frag) (C : Cs) : TS :=
  (tSeq (tIfS (tOr (tNot (tB (tCB (rIsi K) (tCons (tVar 0) (tCons (tC (.ty "dict")) tNil))))) (tNot (tTest (tChain (rLeU) (rLeU) (tC (.int 1)) (tCB rLenR (tCons (tVar 0) tNil)) (tC (.int 6)))))) (tRet (tC (.bl false))) tNext)
    (tRet (tCB (rAll K) (tCons (tLockE (tLc (iItems (tVar 0)) (gTup K 2 (gCons (gName 1) (gCons (gName 2) gNil))) tYes (tAndV (tCall (sp_is_name K) [] E0 (tCons (tVar 1) tNil)) (tCall (sp_is_stream K C) [] E0 (tCons (tVar 2) tNil))) [1, 2])) tNil))))
theorem ln_are_groups (h : sp_are_groups K C vs H Q E) : vs.length = 1 := by obtain ⟨_, _, _, rfl, _⟩ := h; rfl
theorem ln_are_streams (h : sp_are_streams K C vs H Q E) : vs.length = 1 := by obtain ⟨_, _, _, rfl, _⟩ := h; rfl
theorem rd_are_groups (h : sp_are_groups K C vs H Q E) : t_are_groups K C (EndsOf Q) (start ["", "", ""] vs) H := by
  obtain ⟨v, G, P, rfl, ⟨a, ks, rfl, _, ha, kv⟩, few, ok, k⟩ := h
  have ha : H a = some (.dK ks) := ha
  refine ⟨_, rfl, _, _, _, _, true, rfl, .ty _, .base (.dK ha), kit_dd, true, rfl, iteF' rfl ?_⟩
  dsimp only [tRet, tCB, tCons, tNil]
  refine lc_items (fun _ => some (.bl true)) ha (by rw [kv.length]; unfold Grps.tab; rw [List.length_map]; exact few) (fun F R h => ⟨_, rfl, h⟩) (fun x y => rfl) (fun o r key w F e sF R Ry hn hy => ?_) (fun p H' hp s hz => ?_)
  · obtain ⟨n, cs, e1, rfl, row⟩ := kv.at e
    obtain ⟨⟨m, g⟩, e2, e3⟩ : ∃ r0, G[r]? = some r0 ∧ (r0.1, r0.2.cells) = (n, cs) := by
      unfold Grps.tab at e1
      rw [List.getElem?_map] at e1
      exact Option.map_eq_some_iff.mp e1
    cases e3
    obtain ⟨nm, fi⟩ := ok _ (List.mem_of_getElem? e2)
    have l8 := isNm_len nm
    refine ⟨_, rfl, _, rfl, .inl ⟨m, rfl, by show m.length ≤ 100; have : m.length ≤ 8 := l8.2; omega, fun F1 s1 => ⟨_, rfl, ?_⟩⟩⟩
    rw [show isNm m = true from nm]
    refine iteT' rfl ⟨_, rfl, _, g, rfl, row.kee (P := fun _ => False) ((Kee.lock ha).trans (Kee.same (sF.trans s1))), fi, fun F2 s2 => hy _ _ (s1.trans s2) rfl⟩
  · exact rAll_true hz (k H' s)
theorem rd_are_streams (h : sp_are_streams K C vs H Q E) : t_are_streams K C (EndsOf Q) (start ["", "", ""] vs) H := by
  obtain ⟨v, G, P, rfl, ⟨a, ks, rfl, _, ha, kv⟩, l1, l6, ok, k⟩ := h
  have ha : H a = some (.dK ks) := ha
  have len : ks.length = G.length := by rw [kv.length]; unfold Stms.tab; rw [List.length_map]
  refine ⟨_, rfl, _, _, _, _, true, rfl, .ty _, .base (.dK ha), kit_dd, true, rfl, iteF' rfl ?_⟩
  refine ⟨_, rfl, a, ks, rfl, .inl ha, .inl ⟨_, _, rfl, rfl, _, rfl, iteT' (decide_eq_true (by omega)) (.inl ⟨_, _, rfl, rfl, _, rfl, iteF' (by rw [decide_eq_true (by omega)]; rfl) ?_⟩)⟩⟩
  dsimp only [tRet, tCB, tCons, tNil]
  refine lc_items (fun _ => some (.bl true)) ha (by omega) (fun F R h => ⟨_, rfl, h⟩) (fun x y => rfl) (fun o r key w F e sF R Ry hn hy => ?_) (fun p H' hp s hz => ?_)
  · obtain ⟨n, cs, e1, rfl, row⟩ := kv.at e
    obtain ⟨⟨m, g⟩, e2, e3⟩ : ∃ r0, G[r]? = some r0 ∧ (r0.1, r0.2.cells) = (n, cs) := by
      unfold Stms.tab at e1
      rw [List.getElem?_map] at e1
      exact Option.map_eq_some_iff.mp e1
    cases e3
    obtain ⟨nm, fi⟩ := ok _ (List.mem_of_getElem? e2)
    have l8 := isNm_len nm
    refine ⟨_, rfl, _, rfl, .inl ⟨m, rfl, by show m.length ≤ 100; have : m.length ≤ 8 := l8.2; omega, fun F1 s1 => ⟨_, rfl, ?_⟩⟩⟩
    rw [show isNm m = true from nm]
    refine iteT' rfl ⟨_, rfl, _, g, rfl, row.kee (P := fun _ => False) ((Kee.lock ha).trans (Kee.same (sF.trans s1))), fi, fun F2 s2 => hy _ _ (s1.trans s2) rfl⟩
  · exact rAll_true hz (k H' s)
end
end Pk
set_option Elab.async false
set_option linter.all false
set_option maxRecDepth 100000
set_option maxHeartbeats 2000000
namespace Pk
open PySem PySem.Spec L2 PyProof.Rows
/-- what a Plan is given -/
structure ArgsAt (K : PySem.W.Frag) (C : Cs) (P : Addr → Prop) (H : Hp) (A : Parts) (v0 v1 v2 v3 : V) : Prop where
  pi : RowAt true K C H A.p.cells v0
  hs : TabAt true true K C P H A.hs.tab v1
  ks : TabAt true true K C P H A.ks.tab v2
  ss : TabAt true true K C P H A.ss.tab v3
theorem Grps.len (G : Grps) : G.tab.length = G.length := by unfold Grps.tab; rw [List.length_map]
theorem Stms.len (S : Stms) : S.tab.length = S.length := by unfold Stms.tab; rw [List.length_map]
theorem Grps.mem {G : Grps} {n : Str} (h : n ∈ G.nm) : ∃ g, (n, g) ∈ G := by
  obtain ⟨⟨m, g⟩, h1, rfl⟩ := List.mem_map.mp h
  exact ⟨g, h1⟩
theorem Stms.mem {G : Stms} {n : Str} (h : n ∈ G.nm) : ∃ g, (n, g) ∈ G := by
  obtain ⟨⟨m, g⟩, h1, rfl⟩ := List.mem_map.mp h
  exact ⟨g, h1⟩
theorem Grps.ok.fine {G : Grps} (ok : G.ok) : ∀ r ∈ G, isNm r.1 = true ∧ r.2.fine := by
  intro r hr
  obtain ⟨h, _, q⟩ := ok.ar
  refine ⟨(ok.nm r hr).1, (ok.nm r hr).2, fun n hn => ?_⟩
  obtain ⟨g, hg⟩ := Grps.mem (q r hr n hn).1
  exact (ok.nm _ hg).1
theorem Parts.ok.fine {A : Parts} (ok : A.ok) : ∀ r ∈ A.ss, isNm r.1 = true ∧ r.2.fine := by
  intro r hr
  obtain ⟨h1, h2, h3, h4, h5⟩ := ok.ss r hr
  refine ⟨h1, h2, fun n hn => ?_, fun n hn => ?_, fun n hn => ?_⟩
  · obtain ⟨g, hg⟩ := Grps.mem (h3 n hn)
    exact (ok.hs.nm _ hg).1
  · obtain ⟨g, hg⟩ := Grps.mem (h4 n hn)
    exact (ok.ks.nm _ hg).1
  · obtain ⟨s, hs, _⟩ := h5 n hn
    exact (ok.ss _ hs).1
section
variable {K : PySem.W.Frag} {C : Cs} {P P' : Addr → Prop} {vs : List V} {H H' : Hp} {Q : VK} {E : XK} {ex t : Bool} {v v0 v1 v2 v3 : V} {a : Addr} {A : Parts}
theorem ArgsAt.same (h : ArgsAt K C P H A v0 v1 v2 v3) (s : Same H H') : ArgsAt K C P H' A v0 v1 v2 v3 :=
  ⟨h.pi.kee (P := P) (Kee.same s), h.hs.keeX (KeeX.same s), h.ks.keeX (KeeX.same s), h.ss.keeX (KeeX.same s)⟩
theorem TabAt.same {T : Tab} (h : TabAt ex t K C P H T v) (s : Same H H') : TabAt ex t K C P H' T v := h.keeX (KeeX.same s)
/-! ### check_kinds -/
def sp_check_kinds (K : PySem.W.Frag) (C : Cs) : Sp := fun vs H Q _ => ∃ v0 v1 v2 v3 A P, vs = [v0, v1, v2, v3] ∧ ArgsAt K C P H A v0 v1 v2 v3 ∧ A.ok ∧ ∀ H', Same H H' → Q .non H'
def t_check_kinds (K : PySem.W.Frag) (C : Cs) : TS :=
  (tSeq (tIfS (tNot (tB (tCall (sp_is_pool K C) [] E0 (tCons (tVar 0) tNil)))) tNever tNext)
    (tSeq (tIfS (tNot (tB (tCall (sp_are_groups K C) [] E0 (tCons (tVar 1) tNil)))) tNever tNext)
    (tSeq (tIfS (tOr (tNot (tB (tCall (sp_are_groups K C) [] E0 (tCons (tVar 2) tNil)))) (tTest (tOp (rGtI) (tOp (rAddU K) (tCB rLenR (tCons (tVar 1) tNil)) (tCB rLenR (tCons (tVar 2) tNil))) (tC (.int 6))))) tNever tNext)
    (tIfS (tNot (tB (tCall (sp_are_streams K C) [] E0 (tCons (tVar 3) tNil)))) tNever tNext))))
theorem ln_check_kinds (h : sp_check_kinds K C vs H Q E) : vs.length = 4 := by obtain ⟨_, _, _, _, _, _, rfl, _⟩ := h; rfl
theorem rd_check_kinds (h : sp_check_kinds K C vs H Q E) : t_check_kinds K C (EndsOf Q) (start ["", "", "", ""] vs) H := by
  obtain ⟨v0, v1, v2, v3, A, P, rfl, ar, ok, k⟩ := h
  have g6 := ok.g6
  refine ⟨_, rfl, v0, A.p, rfl, ar.pi, ok.pi, fun H1 s1 => ⟨true, rfl, iteF' rfl ?_⟩⟩
  have a1 := ar.same s1
  refine ⟨_, rfl, v1, A.hs, P, rfl, a1.hs, by omega, ok.hs.fine, fun H2 s2 => ⟨true, rfl, iteF' rfl ?_⟩⟩
  have a2 := a1.same s2
  refine ⟨_, rfl, v2, A.ks, P, rfl, a2.ks, by omega, ok.ks.fine, fun H3 s3 => ⟨true, rfl, iteF' rfl ?_⟩⟩
  have a3 := a2.same s3
  obtain ⟨d1, k1, rfl, _, e1, q1⟩ := a3.hs
  obtain ⟨d2, k2, rfl, _, e2, q2⟩ := a3.ks
  refine ⟨_, rfl, d1, k1, rfl, .inl e1, _, rfl, d2, k2, rfl, .inl e2, .inl ⟨_, _, rfl, rfl, _, _, rfl, rfl, _, rfl, ?_⟩⟩
  have l1 := q1.length
  have l2 := q2.length
  rw [Grps.len] at l1 l2
  refine iteF' (decide_eq_false (by omega)) ?_
  refine ⟨_, rfl, v3, A.ss, P, rfl, a3.ss, ok.s1, ok.s6, ok.fine, fun H4 s4 => ⟨true, rfl, iteF' rfl ?_⟩⟩
  exact k _ (s1.trans (s2.trans (s3.trans s4)))
/-! ### check_names -/
def sp_missing_names (K : PySem.W.Frag) (C : Cs) : Sp := fun vs H Q _ => ∃ v w T R P, ∃ at_ : Nat, vs = [v, w, .int (at_ : Int)] ∧ TabAt true true K C P H T v ∧ TabAt true true K C P H R w ∧ R.length ≤ 1000 ∧
  (∀ r ∈ R, ∃ o, r.2[at_]? = some (cN o) ∧ ∀ n, o = some n → n ∈ T.names) ∧ ∀ p H', H p = none → Same H H' → H' p = some (.lst []) → Q (.ref p) H'
def t_missing_names (K : PySem.W.Frag) : TS :=
  (tRet (tLockE (tLc (iVals (tVar 1)) (gName 3) (tAnd (tTest (tOp (rNotNn) (tOp (rIx K) (tVar 3) (tVar 2)) (tC .non))) (tB (tDNotIn (tOp (rIx K) (tVar 3) (tVar 2)) (tVar 0)))) (tOp (rIx K) (tVar 3) (tVar 2)) [3])))
theorem ln_missing_names (h : sp_missing_names K C vs H Q E) : vs.length = 3 := by obtain ⟨_, _, _, _, _, _, rfl, _⟩ := h; rfl
theorem rd_missing_names (h : sp_missing_names K C vs H Q E) : t_missing_names K (EndsOf Q) (start ["", "", "", ""] vs) H := by
  obtain ⟨v, w, T, R, P, n, rfl, ht, ⟨a, ks, rfl, _, ha, kv⟩, few, ok, k⟩ := h
  have ha : H a = some (.dK ks) := ha
  dsimp only [t_missing_names, tRet]
  refine lc_values (fun _ => none) ha (by rw [kv.length]; exact few) (fun F R h => ⟨_, rfl, h⟩) (fun x => rfl) (fun o r key x F e sF Rr Ry hn hy => ?_) (fun p H' hp s hz => ?_)
  · obtain ⟨m, cs, e1, _, ⟨b, xs, rfl, s, cells⟩⟩ := kv.at e
    obtain ⟨oo, e2, hin⟩ := ok _ (List.mem_of_getElem? e1)
    have kF : Kee K C P H F := (Kee.lock ha).trans (Kee.same sF)
    obtain ⟨y, e3, ey⟩ := cells.get e2
    have ey := cN_at ey
    subst ey
    have sF2 := kF.tp _ _ s
    refine ⟨_, rfl, _, rfl, .inr (.inl ⟨b, _, _, _, rfl, rfl, sF2, atI_nat e3, rfl, _, rfl, ?_⟩)⟩
    cases oo with
    | none => exact iteF' rfl (iteF' rfl (hn F (Same.refl F) rfl))
    | some m2 =>
      refine iteT' rfl ?_
      refine ⟨_, rfl, _, rfl, .inr (.inl ⟨b, _, _, _, rfl, rfl, sF2, atI_nat e3, ?_⟩)⟩
      obtain ⟨d, rfl, g1, _⟩ := (ht.rd.kee kF).dget
      cases g : T.get m2 with
      | none => exact absurd (hin m2 rfl) (Tab.get_none.mp g)
      | some cs2 =>
        obtain ⟨x, dx, _⟩ := g1 m2 cs2 g
        exact ⟨_, rfl, d, some x, rfl, dx, false, rfl, iteF' rfl (hn F (Same.refl F) rfl)⟩
  · rw [none_left fun _ _ => rfl] at hz
    exact k p H' hp s hz
theorem cat_lists {p q : Addr} {xs ys : List V} (h1 : H p = some (.lst xs)) (h2 : H q = some (.lst ys)) (few : xs.length + ys.length ≤ 1000) (k : ∀ r, H r = none → Q (.ref r) (upd H r (.lst (xs ++ ys)))) : rAddU K (.ref p) (.ref q) H Q :=
  .inr (.inr (.inl ⟨p, q, xs, ys, rfl, rfl, h1, h2, Nat.le_of_lt (small1000 few), k⟩))
theorem names_at {x : Str} {zs : List Str} {p : Addr} {i : Nat} (e : zs[i]? = some x) : atI (zs.map V.str) (0 + (i : Int)) = some (.str x) := by
  rw [Int.zero_add]
  exact atI_nat (by rw [List.getElem?_map, e]; rfl)
def sp_check_names (K : PySem.W.Frag) (C : Cs) : Sp := fun vs H Q _ => ∃ v0 v1 v2 v3 A P, vs = [v1, v2, v3] ∧ ArgsAt K C P H A v0 v1 v2 v3 ∧ A.ok ∧ ∀ H', Same H H' → Q .non H'
def t_check_names (K : PySem.W.Frag) (C : Cs) : TS :=
  (tSeq (tAsg (tCB (rSortedS K) (tCons (tOp (rAddU K) (tOp (rAddU K) (tOp (rAddU K) (tLst (tCons (tC (.str "pipe")) tNil)) (tCB rKeysL (tCons (tVar 0) tNil))) (tCB rKeysL (tCons (tVar 1) tNil))) (tCB rKeysL (tCons (tVar 2) tNil))) tNil)) (gName 3))
    (tSeq (tFor (iRng1 (tCons (tOp (rSubI) (tCB (rLenU K) (tCons (tVar 3) tNil)) (tC (.int 1))) tNil)) (gName 4) (tIfS (tTest (tOp (rEqU K) (tOp (rIx K) (tVar 3) (tVar 4)) (tOp (rIx K) (tVar 3) (tOp (rAddU K) (tVar 4) (tC (.int 1)))))) tNever tNext))
    (tSeq (tAsg (tOp (rAddU K) (tCall (sp_missing_names K C) [] E0 (tCons (tVar 0) (tCons (tVar 0) (tCons (tC (.int 3)) tNil)))) (tCall (sp_missing_names K C) [] E0 (tCons (tVar 1) (tCons (tVar 1) (tCons (tC (.int 3)) tNil))))) (gName 5))
    (tSeq (tAsg (tOp (rAddU K) (tOp (rAddU K) (tVar 5) (tCall (sp_missing_names K C) [] E0 (tCons (tVar 0) (tCons (tVar 2) (tCons (tC (.int 3)) tNil))))) (tCall (sp_missing_names K C) [] E0 (tCons (tVar 1) (tCons (tVar 2) (tCons (tC (.int 4)) tNil))))) (gName 5))
    (tSeq (tAsg (tOp (rAddU K) (tVar 5) (tCall (sp_missing_names K C) [] E0 (tCons (tVar 2) (tCons (tVar 2) (tCons (tC (.int 5)) tNil))))) (gName 5))
    (tIfS (tTest (tOp (rGtI) (tCB (rLenU K) (tCons (tVar 5) tNil)) (tC (.int 0)))) tNever tNext))))))
def miss25 (K : PySem.W.Frag) (C : Cs) : TS :=
  (tSeq (tAsg (tOp (rAddU K) (tCall (sp_missing_names K C) [] E0 (tCons (tVar 0) (tCons (tVar 0) (tCons (tC (.int 3)) tNil)))) (tCall (sp_missing_names K C) [] E0 (tCons (tVar 1) (tCons (tVar 1) (tCons (tC (.int 3)) tNil))))) (gName 5))
    (tSeq (tAsg (tOp (rAddU K) (tOp (rAddU K) (tVar 5) (tCall (sp_missing_names K C) [] E0 (tCons (tVar 0) (tCons (tVar 2) (tCons (tC (.int 3)) tNil))))) (tCall (sp_missing_names K C) [] E0 (tCons (tVar 1) (tCons (tVar 2) (tCons (tC (.int 4)) tNil))))) (gName 5))
    (tSeq (tAsg (tOp (rAddU K) (tVar 5) (tCall (sp_missing_names K C) [] E0 (tCons (tVar 2) (tCons (tVar 2) (tCons (tC (.int 5)) tNil))))) (gName 5))
    (tIfS (tTest (tOp (rGtI) (tCB (rLenU K) (tCons (tVar 5) tNil)) (tC (.int 0)))) tNever tNext))))
theorem ln_check_names (h : sp_check_names K C vs H Q E) : vs.length = 3 := by obtain ⟨_, _, _, _, _, _, rfl, _⟩ := h; rfl
theorem rd_miss25 {s3 s4 s5 : Option V} {D : Ends} (ar : ArgsAt K C P H A v0 v1 v2 v3) (ok : A.ok) (done : ∀ s5 H', Same H H' → D.nx [some v1, some v2, some v3, s3, s4, s5] H') : miss25 K C D [some v1, some v2, some v3, s3, s4, s5] H := by
  have g6 := ok.g6
  have s6 := ok.s6
  have mg : ∀ {G : Grps}, G.ok → ∀ r ∈ G.tab, ∃ o, r.2[3]? = some (cN o) ∧ ∀ n, o = some n → n ∈ G.tab.names := by
    intro G okG r hr
    obtain ⟨r0, h0, rfl⟩ := List.mem_map.mp hr
    obtain ⟨h, _, q⟩ := okG.ar
    exact ⟨r0.2.ar, rfl, fun n hn => by rw [Grps.tab_nm]; exact (q r0 h0 n hn).1⟩
  refine ⟨_, rfl, _, rfl, v1, v1, _, _, P, 3, rfl, ar.hs, ar.hs, by rw [Grps.len]; omega, mg ok.hs, fun p1 H1 f1 q1 e1 => ?_⟩
  have a1 := ar.same q1
  refine ⟨_, rfl, _, rfl, v2, v2, _, _, P, 3, rfl, a1.ks, a1.ks, by rw [Grps.len]; omega, mg ok.ks, fun p2 H2 f2 q2 e2 => ?_⟩
  refine cat_lists (q2 _ _ e1) e2 (by decide) fun p3 f3 => ?_
  have q3 := same_new (o := .lst ([] ++ [])) f3
  have e3 : (upd H2 p3 (.lst ([] ++ []))) p3 = some (.lst []) := upd_same
  dsimp only [gName]
  generalize upd H2 p3 (.lst ([] ++ [])) = H3 at q3 e3 ⊢
  have a3 := (a1.same q2).same q3
  have ms : ∀ r ∈ A.ss.tab, (∃ o, r.2[3]? = some (cN o) ∧ ∀ n, o = some n → n ∈ A.hs.tab.names) ∧ (∃ o, r.2[4]? = some (cN o) ∧ ∀ n, o = some n → n ∈ A.ks.tab.names) ∧ (∃ o, r.2[5]? = some (cN o) ∧ ∀ n, o = some n → n ∈ A.ss.tab.names) := by
    intro r hr
    obtain ⟨r0, h0, rfl⟩ := List.mem_map.mp hr
    obtain ⟨_, _, i3, i4, i5⟩ := ok.ss r0 h0
    refine ⟨⟨r0.2.h, rfl, fun n hn => by rw [Grps.tab_nm]; exact i3 n hn⟩, ⟨r0.2.k, rfl, fun n hn => by rw [Grps.tab_nm]; exact i4 n hn⟩, ⟨r0.2.g, rfl, fun n hn => ?_⟩⟩
    obtain ⟨s, hs, _⟩ := i5 n hn
    rw [Stms.tab_nm]
    exact List.mem_map.mpr ⟨_, hs, rfl⟩
  refine ⟨_, rfl, _, rfl, _, rfl, v1, v3, _, _, P, 3, rfl, a3.hs, a3.ss, by rw [Stms.len]; omega, fun r hr => (ms r hr).1, fun p4 H4 f4 q4 e4 => ?_⟩
  refine cat_lists (q4 _ _ e3) e4 (by decide) fun p5 f5 => ?_
  have q5 := same_new (o := .lst ([] ++ [])) f5
  have e5 : (upd H4 p5 (.lst ([] ++ []))) p5 = some (.lst []) := upd_same
  generalize upd H4 p5 (.lst ([] ++ [])) = H5 at q5 e5 ⊢
  have a5 := (a3.same q4).same q5
  refine ⟨_, rfl, _, rfl, v2, v3, _, _, P, 4, rfl, a5.ks, a5.ss, by rw [Stms.len]; omega, fun r hr => (ms r hr).2.1, fun p6 H6 f6 q6 e6 => ?_⟩
  refine cat_lists (q6 _ _ e5) e6 (by decide) fun p7 f7 => ?_
  have q7 := same_new (o := .lst ([] ++ [])) f7
  have e7 : (upd H6 p7 (.lst ([] ++ []))) p7 = some (.lst []) := upd_same
  dsimp only [gName]
  generalize upd H6 p7 (.lst ([] ++ [])) = H7 at q7 e7 ⊢
  have a7 := (a5.same q6).same q7
  refine ⟨_, rfl, _, rfl, _, rfl, v3, v3, _, _, P, 5, rfl, a7.ss, a7.ss, by rw [Stms.len]; omega, fun r hr => (ms r hr).2.2, fun p8 H8 f8 q8 e8 => ?_⟩
  refine cat_lists (q8 _ _ e7) e8 (by decide) fun p9 f9 => ?_
  have q9 := same_new (o := .lst ([] ++ [])) f9
  have e9 : (upd H8 p9 (.lst ([] ++ []))) p9 = some (.lst []) := upd_same
  dsimp only [gName]
  generalize upd H8 p9 (.lst ([] ++ [])) = H9 at q9 e9 ⊢
  refine ⟨_, rfl, .inl ⟨_, _, rfl, .inl ⟨_, SqL.of e9, rfl⟩, _, _, rfl, rfl, _, rfl, iteF' (by decide) ?_⟩⟩
  exact done _ _ ((q1.trans (q2.trans q3)).trans ((q4.trans q5).trans ((q6.trans q7).trans (q8.trans q9))))
theorem rd_check_names (h : sp_check_names K C vs H Q E) : t_check_names K C (EndsOf Q) (start ["", "", "", "", "", ""] vs) H := by
  obtain ⟨v0, v1, v2, v3, A, P, rfl, ar, ok, k⟩ := h
  have g6 := ok.g6
  have s6 := ok.s6
  obtain ⟨d1, k1, rfl, _, e1, q1⟩ := id ar.hs
  obtain ⟨d2, k2, rfl, _, e2, q2⟩ := id ar.ks
  obtain ⟨d3, k3, rfl, _, e3, q3⟩ := id ar.ss
  have e1 : H d1 = some (.dK k1) := e1
  have e2 : H d2 = some (.dK k2) := e2
  have e3 : H d3 = some (.dK k3) := e3
  have n1 := q1.keys.2
  have n2 := q2.keys.2
  have n3 := q3.keys.2
  rw [Grps.tab_nm] at n1 n2
  rw [Stms.tab_nm] at n3
  have l1 : A.hs.nm.length = A.hs.length := by unfold Grps.nm; rw [List.length_map]
  have l2 : A.ks.nm.length = A.ks.length := by unfold Grps.nm; rw [List.length_map]
  have l3 : A.ss.nm.length = A.ss.length := by unfold Stms.nm; rw [List.length_map]
  refine ⟨two_fit.1, fun p1 f1 => ?_⟩
  have j1 := same_new (o := .lst ([V.str "pipe"])) f1
  have c1 : (upd H p1 (.lst ([V.str "pipe"]))) p1 = some (.lst ([V.str "pipe"])) := upd_same
  generalize upd H p1 (.lst ([V.str "pipe"])) = H1 at j1 c1 ⊢
  refine ⟨_, rfl, d1, k1, rfl, .inl (j1 _ _ e1), fun p2 f2 => ?_⟩
  rw [n1]
  have j2 := same_new (o := .lst (A.hs.nm.map V.str)) f2
  have c2 : (upd H1 p2 (.lst (A.hs.nm.map V.str))) p2 = some (.lst (A.hs.nm.map V.str)) := upd_same
  generalize upd H1 p2 (.lst (A.hs.nm.map V.str)) = H2 at j2 c2 ⊢
  refine cat_lists (j2 _ _ c1) c2 (by rw [List.length_map]; show 1 + _ ≤ _; omega) fun p3 f3 => ?_
  have j3 := same_new (o := .lst ([V.str "pipe"] ++ A.hs.nm.map V.str)) f3
  have c3 : (upd H2 p3 (.lst ([V.str "pipe"] ++ A.hs.nm.map V.str))) p3 = some (.lst ([V.str "pipe"] ++ A.hs.nm.map V.str)) := upd_same
  generalize upd H2 p3 (.lst ([V.str "pipe"] ++ A.hs.nm.map V.str)) = H3 at j3 c3 ⊢
  refine ⟨_, rfl, d2, k2, rfl, .inl (j3 _ _ (j2 _ _ (j1 _ _ e2))), fun p4 f4 => ?_⟩
  rw [n2]
  have j4 := same_new (o := .lst (A.ks.nm.map V.str)) f4
  have c4 : (upd H3 p4 (.lst (A.ks.nm.map V.str))) p4 = some (.lst (A.ks.nm.map V.str)) := upd_same
  generalize upd H3 p4 (.lst (A.ks.nm.map V.str)) = H4 at j4 c4 ⊢
  refine cat_lists (j4 _ _ c3) c4 (by rw [List.length_append, List.length_map, List.length_map]; show 1 + _ + _ ≤ _; omega) fun p5 f5 => ?_
  have j5 := same_new (o := .lst ([V.str "pipe"] ++ A.hs.nm.map V.str ++ A.ks.nm.map V.str)) f5
  have c5 : (upd H4 p5 (.lst ([V.str "pipe"] ++ A.hs.nm.map V.str ++ A.ks.nm.map V.str))) p5 = some (.lst ([V.str "pipe"] ++ A.hs.nm.map V.str ++ A.ks.nm.map V.str)) := upd_same
  generalize upd H4 p5 (.lst ([V.str "pipe"] ++ A.hs.nm.map V.str ++ A.ks.nm.map V.str)) = H5 at j5 c5 ⊢
  refine ⟨_, rfl, d3, k3, rfl, .inl (j5 _ _ (j4 _ _ (j3 _ _ (j2 _ _ (j1 _ _ e3))))), fun p6 f6 => ?_⟩
  rw [n3]
  have j6 := same_new (o := .lst (A.ss.nm.map V.str)) f6
  have c6 : (upd H5 p6 (.lst (A.ss.nm.map V.str))) p6 = some (.lst (A.ss.nm.map V.str)) := upd_same
  generalize upd H5 p6 (.lst (A.ss.nm.map V.str)) = H6 at j6 c6 ⊢
  refine cat_lists (j6 _ _ c5) c6 (by rw [List.length_append, List.length_append, List.length_map, List.length_map, List.length_map]; show 1 + _ + _ + _ ≤ _; omega) fun p7 f7 => ?_
  have j7 := same_new (o := .lst ([V.str "pipe"] ++ A.hs.nm.map V.str ++ A.ks.nm.map V.str ++ A.ss.nm.map V.str)) f7
  have c7 : (upd H6 p7 (.lst ([V.str "pipe"] ++ A.hs.nm.map V.str ++ A.ks.nm.map V.str ++ A.ss.nm.map V.str))) p7 = some (.lst ([V.str "pipe"] ++ A.hs.nm.map V.str ++ A.ks.nm.map V.str ++ A.ss.nm.map V.str)) := upd_same
  generalize upd H6 p7 (.lst ([V.str "pipe"] ++ A.hs.nm.map V.str ++ A.ks.nm.map V.str ++ A.ss.nm.map V.str)) = H7 at j7 c7 ⊢
  have j := ((j1.trans j2).trans (j3.trans j4)).trans ((j5.trans j6).trans j7)
  have en : ([V.str "pipe"] ++ A.hs.nm.map V.str ++ A.ks.nm.map V.str ++ A.ss.nm.map V.str) = (("pipe" : Str) :: (A.hs.nm ++ A.ks.nm ++ A.ss.nm)).map V.str := by
    rw [List.map_cons, List.map_append, List.map_append, List.cons_append, List.nil_append, List.cons_append, List.cons_append]
  refine ⟨p7, _, rfl, SqL.of (by rw [c7, en]), by rw [List.length_cons, List.length_append, List.length_append]; omega, fun ys p8 perm so f8 => ?_⟩
  have nd : ys.Nodup := perm.nodup_iff.mpr ok.nd
  have ly : ys.length ≤ 13 := by rw [perm.length_eq, List.length_cons, List.length_append, List.length_append]; omega
  have ly1 : 1 ≤ ys.length := by rw [perm.length_eq, List.length_cons]; omega
  have j8 := same_new (o := .lst (ys.map V.str)) f8
  have e8 : (upd H7 p8 (HO.lst (ys.map V.str))) p8 = some (.lst (ys.map V.str)) := upd_same
  dsimp only [gName]
  generalize upd H7 p8 (HO.lst (ys.map V.str)) = G at j8 e8 ⊢
  have a8 := (ar.same j).same j8
  have jj := j.trans j8
  clear f1 f2 f3 f4 f5 f6 f7 j1 j2 j3 j4 j5 j6 j7 j j8 f8 c1 c2 c3 c4 c5 c6 c7
  refine ⟨_, rfl, .inl ⟨_, _, rfl, .inl ⟨_, SqL.of e8, rfl⟩, _, _, rfl, rfl, _, rfl, by rw [List.length_map]; omega, by rw [List.length_map]; omega, ?_⟩⟩
  have et : ((((ys.map V.str).length : Nat) : Int) - 1).toNat = ys.length - 1 := by rw [List.length_map]; omega
  rw [et]
  refine for_range (lo := 0) (n := ys.length - 1) (fun i σ' F => ∃ s4, σ' = [some (.ref d1), some (.ref d2), some (.ref d3), some (.ref p8), s4, none] ∧ F = G) ⟨_, rfl, rfl⟩ ?_ ?_
  · rintro i σ' F hi ⟨s4, rfl, rfl⟩
    have x1 : ys[i]? = some ys[i] := List.getElem?_eq_getElem (by omega)
    have x2 : ys[i + 1]? = some ys[i + 1] := List.getElem?_eq_getElem (by omega)
    have z2 : atI (ys.map V.str) (0 + (i : Int) + 1) = some (.str ys[i + 1]) := by
      have e : (ys.map V.str)[i + 1]? = some (.str ys[i + 1]) := by rw [List.getElem?_map, x2]; rfl
      rw [Int.zero_add]
      exact atI_nat e
    refine ⟨_, rfl, _, rfl, .inl ⟨p8, _, _, _, rfl, rfl, SqL.of e8, names_at (p := p8) x1, ?_⟩⟩
    refine ⟨_, rfl, _, rfl, .inl ⟨_, _, rfl, rfl, .inl ⟨p8, _, _, _, rfl, rfl, SqL.of e8, z2, ?_⟩⟩⟩
    refine .inl ⟨rfl, _, rfl, ?_⟩
    refine ifS (fun e => ?_) (fun _ => ⟨_, rfl, rfl⟩)
    have := (List.getElem_inj nd).mp e
    omega
  · rintro σ' F ⟨s4, rfl, rfl⟩
    exact rd_miss25 a8 ok fun s5 H' s => k H' (jj.trans s)
end
end Pk
set_option Elab.async false
set_option linter.all false
set_option maxRecDepth 100000
set_option maxHeartbeats 2000000
namespace Pk
open PySem PySem.Spec L2 PyProof.Rows
theorem Parts.ok.nds {A : Parts} (ok : A.ok) : A.hs.nm.Nodup ∧ A.ks.nm.Nodup ∧ A.ss.nm.Nodup := by
  have q := (List.nodup_cons.mp ok.nd).2
  rw [List.append_assoc] at q
  have q1 := List.nodup_append.mp q
  have q2 := List.nodup_append.mp q1.2.1
  exact ⟨q1.1, q2.1, q2.2.1⟩
section
variable {K : PySem.W.Frag} {C : Cs} {P P' : Addr → Prop} {vs : List V} {H H' G0 : Hp} {Q : VK} {E : XK} {ex t : Bool} {v v0 v1 v2 v3 : V} {a : Addr} {A : Parts} {n : Str}
theorem Grps.look {G : Grps} {g : GrpR} (h : TabAt ex t K C P H G.tab v) (nd : G.nm.Nodup) (m : (n, g) ∈ G) : ∃ d x, v = .ref d ∧ DGet H d (.str n) (some x) ∧ RowAt t K C H g.cells x := by
  obtain ⟨d, e, q, _⟩ := h.dget
  have e2 : Tab.get G.tab n = some g.cells := Tab.get_of (by rw [Grps.tab_nm]; exact nd) (List.mem_map.mpr ⟨_, m, rfl⟩)
  obtain ⟨x, h1, h2⟩ := q n _ e2
  exact ⟨d, x, e, h1, h2⟩
theorem Stms.look {G : Stms} {g : StmR} (h : TabAt ex t K C P H G.tab v) (nd : G.nm.Nodup) (m : (n, g) ∈ G) : ∃ d x, v = .ref d ∧ DGet H d (.str n) (some x) ∧ RowAt t K C H g.cells x := by
  obtain ⟨d, e, q, _⟩ := h.dget
  have e2 : Tab.get G.tab n = some g.cells := Tab.get_of (by rw [Stms.tab_nm]; exact nd) (List.mem_map.mpr ⟨_, m, rfl⟩)
  obtain ⟨x, h1, h2⟩ := q n _ e2
  exact ⟨d, x, e, h1, h2⟩
/-! ### rings -/
def sp_is_in_itself (K : PySem.W.Frag) (C : Cs) : Sp := fun vs H Q _ => ∃ n v G P, vs = [.str n, v] ∧ TabAt false true K C P H (Grps.tab G) v ∧ G.ok ∧ G.nm.Nodup ∧ n ∈ G.nm ∧ G.length ≤ 1000 ∧ Q (.bl false) H
def t_is_in_itself (K : PySem.W.Frag) : TS :=
  (tSeq (tAsg (tOp (rIx K) (tDGet (tVar 1) (tVar 0)) (tC (.int 3))) (gName 2))
    (tSeq (tFor (iRng1 (tCons (tCB rLenR (tCons (tVar 1) tNil)) tNil)) (gName 3) (tSeq (tIfS (tTest (tOp (rIsNn) (tVar 2) (tC .non))) (tRet (tC (.bl false))) tNext)
    (tSeq (tIfS (tTest (tOp (rEqU K) (tVar 2) (tVar 0))) (tRet (tC (.bl true))) tNext)
    (tAsg (tOp (rIx K) (tDGet (tVar 1) (tVar 2)) (tC (.int 3))) (gName 2)))))
    (tRet (tC (.bl false)))))
theorem ln_is_in_itself (h : sp_is_in_itself K C vs H Q E) : vs.length = 2 := by obtain ⟨_, _, _, _, rfl, _⟩ := h; rfl
theorem rd_is_in_itself (h : sp_is_in_itself K C vs H Q E) : t_is_in_itself K (EndsOf Q) (start ["", "", "", ""] vs) H := by
  obtain ⟨n, v, G, P, rfl, ht, ok, nd, hn, few, k⟩ := h
  obtain ⟨h, _, hh⟩ := ok.ar
  obtain ⟨g, hg⟩ := Grps.mem hn
  obtain ⟨d, x, rfl, dg, row⟩ := Grps.look ht nd hg
  obtain ⟨b, r, rfl, s, _⟩ := GrpR.at row
  refine ⟨_, rfl, _, rfl, d, _, rfl, dg, .inr (.inl ⟨b, _, 3, _, rfl, rfl, s, rfl, ?_⟩)⟩
  obtain ⟨_, ks, e, _, hks, kv⟩ := id ht
  cases e
  have lk := kv.length
  rw [Grps.len] at lk
  refine ⟨_, rfl, d, ks, rfl, hks.rd, _, rfl, by omega, by omega, ?_⟩
  refine for_range (lo := 0) (n := ((ks.length : Nat) : Int).toNat) (fun i σ' F => ∃ o s3, σ' = [some (.str n), some (.ref d), some (oV o), s3] ∧ F = H ∧ ∀ m, o = some m → m ∈ G.nm ∧ h m < h n) ⟨g.ar, _, rfl, rfl, fun m e => hh _ hg m e⟩ ?_ ?_
  · rintro i σ' F hi ⟨o, s3, rfl, rfl, ho⟩
    refine ⟨_, rfl, rfl, _, rfl, ?_⟩
    cases o with
    | none => exact iteT' (decide_eq_true rfl) k
    | some m =>
      refine iteF' (decide_eq_false (by intro z; cases z)) ?_
      obtain ⟨hm, lt⟩ := ho m rfl
      refine ⟨_, rfl, _, rfl, .inl ⟨rfl, _, rfl, ?_⟩⟩
      refine ifS (fun e => ?_) (fun _ => ?_)
      · rw [e] at lt
        omega
      · obtain ⟨g2, hg2⟩ := Grps.mem hm
        obtain ⟨d2, x2, e2, dg2, row2⟩ := Grps.look ht nd hg2
        cases e2
        obtain ⟨b2, r2, rfl, s2, _⟩ := GrpR.at row2
        refine ⟨_, rfl, _, rfl, d, _, rfl, dg2, .inr (.inl ⟨b2, _, 3, _, rfl, rfl, s2, rfl, ?_⟩)⟩
        refine ⟨g2.ar, _, rfl, rfl, fun m2 e => ?_⟩
        have q : m2 ∈ G.nm ∧ h m2 < h m := hh _ hg2 m2 e
        exact ⟨q.1, by omega⟩
  · rintro σ' F ⟨o, s3, rfl, rfl, _⟩
    exact k
def sp_check_rings (K : PySem.W.Frag) (C : Cs) : Sp := fun vs H Q _ => ∃ v0 v1 v2 v3 A P, vs = [v1, v2] ∧ ArgsAt K C P H A v0 v1 v2 v3 ∧ A.ok ∧ ∀ H', Same H H' → Q .non H'
def t_check_rings (K : PySem.W.Frag) (C : Cs) : TS :=
  (tSeq (tAsg (tLockE (tLc (iKeys (tVar 0)) (gName 3) (tB (tCall (sp_is_in_itself K C) [] E0 (tCons (tVar 3) (tCons (tVar 0) tNil)))) (tVar 3) [3])) (gName 2))
    (tSeq (tAsg (tOp (rAddU K) (tVar 2) (tLockE (tLc (iKeys (tVar 1)) (gName 3) (tB (tCall (sp_is_in_itself K C) [] E0 (tCons (tVar 3) (tCons (tVar 1) tNil)))) (tVar 3) [3]))) (gName 2))
    (tIfS (tTest (tOp (rGtI) (tCB (rLenU K) (tCons (tVar 2) tNil)) (tC (.int 0)))) tNever tNext)))
theorem ln_check_rings (h : sp_check_rings K C vs H Q E) : vs.length = 2 := by obtain ⟨_, _, _, _, _, _, rfl, _⟩ := h; rfl
theorem Grps.at_ {G : Grps} {ks : List (Key × V)} {r : Nat} {kv : Key × V} (q : KvAt t K C H G.tab ks) (e : ks[r]? = some kv) : ∃ n g, (n, g) ∈ G ∧ kv.1 = .inr n ∧ RowAt t K C H g.cells kv.2 := by
  obtain ⟨n, cs, e1, e2, row⟩ := q.at e
  unfold Grps.tab at e1
  rw [List.getElem?_map] at e1
  obtain ⟨⟨m, g⟩, e3, e4⟩ := Option.map_eq_some_iff.mp e1
  cases e4
  exact ⟨m, g, List.mem_of_getElem? e3, e2, row⟩
theorem Stms.at_ {G : Stms} {ks : List (Key × V)} {r : Nat} {kv : Key × V} (q : KvAt t K C H G.tab ks) (e : ks[r]? = some kv) : ∃ n g, (n, g) ∈ G ∧ kv.1 = .inr n ∧ RowAt t K C H g.cells kv.2 := by
  obtain ⟨n, cs, e1, e2, row⟩ := q.at e
  unfold Stms.tab at e1
  rw [List.getElem?_map] at e1
  obtain ⟨⟨m, g⟩, e3, e4⟩ := Option.map_eq_some_iff.mp e1
  cases e4
  exact ⟨m, g, List.mem_of_getElem? e3, e2, row⟩
theorem rd_check_rings (h : sp_check_rings K C vs H Q E) : t_check_rings K C (EndsOf Q) (start ["", "", "", ""] vs) H := by
  obtain ⟨v0, v1, v2, v3, A, P, rfl, ar, ok, k⟩ := h
  have g6 := ok.g6
  obtain ⟨nd1, nd2, nd3⟩ := ok.nds
  obtain ⟨d1, k1, rfl, _, e1, q1⟩ := id ar.hs
  have e1 : H d1 = some (.dK k1) := e1
  have l1 := q1.length
  rw [Grps.len] at l1
  dsimp only [t_check_rings, tSeq, tAsg]
  refine lc_keys (fun _ => none) e1 (by omega) (fun F R h => ⟨_, rfl, h⟩) (fun x => rfl) (fun o r key x F e sF Rr Ry hn hy => ?_) (fun p1 H1 f1 s1 z1 => ?_)
  · obtain ⟨n, g, hm, rfl, _⟩ := Grps.at_ q1 e
    refine ⟨_, rfl, _, rfl, n, _, A.hs, P, rfl, ar.hs.rd.kee ((Kee.lock e1).trans (Kee.same sF)), ok.hs, nd1, List.mem_map.mpr ⟨_, hm, rfl⟩, by omega, false, rfl, ?_⟩
    exact iteF' rfl (hn F (Same.refl F) rfl)
  rw [none_left fun _ _ => rfl] at z1
  have a1 := ar.same s1
  obtain ⟨d2, k2, rfl, _, e2, q2⟩ := id a1.ks
  have e2 : H1 d2 = some (.dK k2) := e2
  have l2 := q2.length
  rw [Grps.len] at l2
  dsimp only [gName]
  refine ⟨_, rfl, ?_⟩
  refine lc_keys (fun _ => none) e2 (by omega) (fun F R h => ⟨_, rfl, h⟩) (fun x => rfl) (fun o r key x F e sF Rr Ry hn hy => ?_) (fun p2 H2 f2 s2 z2 => ?_)
  · obtain ⟨n, g, hm, rfl, _⟩ := Grps.at_ q2 e
    refine ⟨_, rfl, _, rfl, n, _, A.ks, P, rfl, a1.ks.rd.kee ((Kee.lock e2).trans (Kee.same sF)), ok.ks, nd2, List.mem_map.mpr ⟨_, hm, rfl⟩, by omega, false, rfl, ?_⟩
    exact iteF' rfl (hn F (Same.refl F) rfl)
  rw [none_left fun _ _ => rfl] at z2
  refine cat_lists (s2 _ _ z1) z2 (by decide) fun p3 f3 => ?_
  have s3 := same_new (o := .lst ([] ++ [])) f3
  refine ⟨_, rfl, .inl ⟨_, _, rfl, .inl ⟨_, SqL.of upd_same, rfl⟩, _, _, rfl, rfl, _, rfl, iteF' (by decide) ?_⟩⟩
  exact k _ (s1.trans (s2.trans s3))
/-! ### guides -/
def sp_has_bad_guide (K : PySem.W.Frag) (C : Cs) : Sp := fun vs H Q _ => ∃ n v A P, vs = [.str n, v] ∧ TabAt false true K C P H (Stms.tab A.ss) v ∧ Parts.ok A ∧ n ∈ A.ss.nm ∧ Q (.bl false) H
def t_has_bad_guide (K : PySem.W.Frag) : TS :=
  (tSeq (tAsg (tDGet (tVar 1) (tVar 0)) (gName 2))
    (tSeq (tIfS (tTest (tOp (rIsNn) (tOp (rIx K) (tVar 2) (tC (.int 5))) (tC .non))) (tRet (tC (.bl false))) tNext)
    (tSeq (tAsg (tDGet (tVar 1) (tOp (rIx K) (tVar 2) (tC (.int 5)))) (gName 3))
    (tRet (tOrV (tOp (rNotNn) (tOp (rIx K) (tVar 3) (tC (.int 5))) (tC .non)) (tOrV (tOp (rNeU K) (tOp (rIx K) (tVar 3) (tC (.int 3))) (tOp (rIx K) (tVar 2) (tC (.int 3)))) (tOp (rNeU K) (tOp (rIx K) (tVar 3) (tC (.int 4))) (tOp (rIx K) (tVar 2) (tC (.int 4))))))))))
theorem ln_has_bad_guide (h : sp_has_bad_guide K C vs H Q E) : vs.length = 2 := by obtain ⟨_, _, _, _, rfl, _⟩ := h; rfl
theorem ne_oV {o : Option Str} {R : V → Hp → Prop} (k : R (.bl false) H) : rNeU K (oV o) (oV o) H R := by
  refine .inl ⟨by cases o <;> rfl, ?_⟩
  rw [decide_eq_true rfl]
  exact k
theorem rd_has_bad_guide (h : sp_has_bad_guide K C vs H Q E) : t_has_bad_guide K (EndsOf Q) (start ["", "", "", ""] vs) H := by
  obtain ⟨n, v, A, P, rfl, ht, ok, hn, k⟩ := h
  obtain ⟨_, _, nd3⟩ := ok.nds
  obtain ⟨g, hg⟩ := Stms.mem hn
  obtain ⟨d, x, rfl, dg, row⟩ := Stms.look ht nd3 hg
  obtain ⟨b, r, rfl, s, _⟩ := StmR.at row
  refine ⟨_, rfl, _, rfl, d, _, rfl, dg, ?_⟩
  refine ⟨_, rfl, .inr (.inl ⟨b, _, 5, _, rfl, rfl, s, rfl, rfl, _, rfl, ?_⟩)⟩
  cases hq : g.g with
  | none => exact iteT' (decide_eq_true rfl) k
  | some m =>
    refine iteF' (decide_eq_false (by intro z; cases z)) ?_
    obtain ⟨g2, hg2, i1, i2, i3⟩ := (ok.ss _ hg).2.2.2.2 m hq
    obtain ⟨d2, x2, e2, dg2, row2⟩ := Stms.look ht nd3 hg2
    cases e2
    obtain ⟨b2, r2, rfl, s2, _⟩ := StmR.at row2
    rw [i1, i2, i3] at s2
    have sq : SqT K H b [.int g.c, r, oI g.mo, oV g.h, oV g.k, oV (some m)] := by rw [← hq]; exact s
    refine ⟨_, rfl, _, rfl, .inr (.inl ⟨b, _, 5, _, rfl, rfl, sq, rfl, d, _, rfl, dg2, ?_⟩)⟩
    refine ⟨_, rfl, .inr (.inl ⟨b2, _, 5, _, rfl, rfl, s2, rfl, rfl, _, rfl, iteF' (by rw [decide_eq_true (show oV none = V.non from rfl)]; rfl) ?_⟩)⟩
    refine ⟨_, rfl, .inr (.inl ⟨b2, _, 3, _, rfl, rfl, s2, rfl, _, rfl, .inr (.inl ⟨b, _, 3, _, rfl, rfl, sq, rfl, ?_⟩)⟩)⟩
    refine ne_oV ⟨_, rfl, iteF' rfl ?_⟩
    refine ⟨_, rfl, .inr (.inl ⟨b2, _, 4, _, rfl, rfl, s2, rfl, _, rfl, .inr (.inl ⟨b, _, 4, _, rfl, rfl, sq, rfl, ?_⟩)⟩)⟩
    exact ne_oV k
def sp_check_guides (K : PySem.W.Frag) (C : Cs) : Sp := fun vs H Q _ => ∃ v0 v1 v2 v3 A P, vs = [v3] ∧ ArgsAt K C P H A v0 v1 v2 v3 ∧ A.ok ∧ ∀ H', Same H H' → Q .non H'
def t_check_guides (K : PySem.W.Frag) (C : Cs) : TS :=
  (tSeq (tAsg (tLockE (tLc (iKeys (tVar 0)) (gName 2) (tB (tCall (sp_has_bad_guide K C) [] E0 (tCons (tVar 2) (tCons (tVar 0) tNil)))) (tVar 2) [2])) (gName 1))
    (tIfS (tTest (tOp (rGtI) (tCB (rLenU K) (tCons (tVar 1) tNil)) (tC (.int 0)))) tNever tNext))
theorem ln_check_guides (h : sp_check_guides K C vs H Q E) : vs.length = 1 := by obtain ⟨_, _, _, _, _, _, rfl, _⟩ := h; rfl
theorem rd_check_guides (h : sp_check_guides K C vs H Q E) : t_check_guides K C (EndsOf Q) (start ["", "", ""] vs) H := by
  obtain ⟨v0, v1, v2, v3, A, P, rfl, ar, ok, k⟩ := h
  have s6 := ok.s6
  obtain ⟨d1, k1, rfl, _, e1, q1⟩ := id ar.ss
  have e1 : H d1 = some (.dK k1) := e1
  have l1 := q1.length
  rw [Stms.len] at l1
  dsimp only [t_check_guides, tSeq, tAsg]
  refine lc_keys (fun _ => none) e1 (by omega) (fun F R h => ⟨_, rfl, h⟩) (fun x => rfl) (fun o r key x F e sF Rr Ry hn hy => ?_) (fun p1 H1 f1 s1 z1 => ?_)
  · obtain ⟨n, g, hm, rfl, _⟩ := Stms.at_ q1 e
    refine ⟨_, rfl, _, rfl, n, _, A, P, rfl, ar.ss.rd.kee ((Kee.lock e1).trans (Kee.same sF)), ok, List.mem_map.mpr ⟨_, hm, rfl⟩, false, rfl, ?_⟩
    exact iteF' rfl (hn F (Same.refl F) rfl)
  rw [none_left fun _ _ => rfl] at z1
  dsimp only [gName]
  refine ⟨_, rfl, .inl ⟨_, _, rfl, .inl ⟨_, SqL.of z1, rfl⟩, _, _, rfl, rfl, _, rfl, iteF' (by decide) ?_⟩⟩
  exact k _ s1
/-! ### credits -/
def sp_is_narrow (K : PySem.W.Frag) (C : Cs) : Sp := fun vs H Q _ => ∃ v p, vs = [v] ∧ RowAt true K C H (PoolR.cells p) v ∧ p.ok ∧ Q (.bl false) H
def t_is_narrow (K : PySem.W.Frag) (C : Cs) : TS :=
  (tSeq (tAsg (tVar 0) (gTup K 3 (gCons (gName 1) (gCons (gName 2) (gCons (gName 3) gNil)))))
    (tRet (tAndV (tOp (rEqU K) (tVar 3) (tC (.str "come"))) (tOp (rLtI) (tVar 1) (tProp C.Rule (sp_Rule_threshold K C) [] E0 (tVar 2))))))
theorem ln_is_narrow (h : sp_is_narrow K C vs H Q E) : vs.length = 1 := by obtain ⟨_, _, rfl, _⟩ := h; rfl
theorem rd_is_narrow (h : sp_is_narrow K C vs H Q E) : t_is_narrow K C (EndsOf Q) (start ["", "", "", ""] vs) H := by
  obtain ⟨v, p, rfl, row, ok, k⟩ := h
  obtain ⟨a, r, rfl, s, l⟩ := PoolR.at row
  have l : RuleAt K C H r p.T := l
  obtain ⟨ra, rd, ru, rfl, hra, _⟩ := id l
  refine ⟨_, rfl, g3 s ?_⟩
  refine ⟨_, rfl, .inl ⟨rfl, _, rfl, ?_⟩⟩
  refine ifS (fun e => ?_) (fun e => k)
  refine ⟨_, rfl, _, rfl, ra, rd, _, rfl, hra, _, p.T, rfl, l, _, _, rfl, rfl, ?_⟩
  have := ok.nr e
  show Q (.bl (decide (p.c < p.T.top))) H
  rw [decide_eq_false (by omega)]
  exact k
def sp_least_own (K : PySem.W.Frag) (C : Cs) : Sp := fun vs H Q _ => ∃ r T mo, vs = [r, oI mo] ∧ RuleAt K C H r T ∧ Q (.int (T.top + (match mo with | none => 0 | some i => i - 1))) H
def t_least_own (K : PySem.W.Frag) (C : Cs) : TS :=
  (tRet (tOp (rAddU K) (tProp C.Rule (sp_Rule_threshold K C) [] E0 (tVar 0)) (tIf (tTest (tOp (rNotNn) (tVar 1) (tC .non))) (tOp (rSubI) (tVar 1) (tC (.int 1))) (tC (.int 0)))))
theorem ln_least_own (h : sp_least_own K C vs H Q E) : vs.length = 2 := by obtain ⟨_, _, _, rfl, _⟩ := h; rfl
theorem rd_least_own (h : sp_least_own K C vs H Q E) : t_least_own K C (EndsOf Q) (start ["", ""] vs) H := by
  obtain ⟨r, T, mo, rfl, l, k⟩ := h
  obtain ⟨ra, rd, ru, rfl, hra, _⟩ := id l
  refine ⟨_, rfl, ra, rd, _, rfl, hra, _, T, rfl, l, _, rfl, rfl, _, rfl, ?_⟩
  cases mo with
  | none => exact iteF' (by rw [decide_eq_true (show oI none = V.non from rfl)]; rfl) (.inl ⟨_, _, rfl, rfl, k⟩)
  | some i => exact iteT' (by rw [decide_eq_false (show ¬ oI (some i) = V.non from by intro z; cases z)]; rfl) ⟨_, rfl, _, _, rfl, rfl, .inl ⟨_, _, rfl, rfl, k⟩⟩
def sp_is_narrow_stream (K : PySem.W.Frag) (C : Cs) : Sp := fun vs H Q _ => ∃ v g, vs = [v] ∧ RowAt true K C H (StmR.cells g) v ∧ g.ok ∧ Q (.bl false) H
def t_is_narrow_stream (K : PySem.W.Frag) (C : Cs) : TS :=
  (tSeq (tAsg (tVar 0) (gTup K 6 (gCons (gName 1) (gCons (gName 2) (gCons (gName 3) (gCons (gName 4) (gCons (gName 4) (gCons (gName 4) gNil))))))))
    (tRet (tOp (rLtI) (tVar 1) (tCall (sp_least_own K C) [] E0 (tCons (tVar 2) (tCons (tVar 3) tNil))))))
theorem ln_is_narrow_stream (h : sp_is_narrow_stream K C vs H Q E) : vs.length = 1 := by obtain ⟨_, _, rfl, _⟩ := h; rfl
theorem rd_is_narrow_stream (h : sp_is_narrow_stream K C vs H Q E) : t_is_narrow_stream K C (EndsOf Q) (start ["", "", "", "", ""] vs) H := by
  obtain ⟨v, g, rfl, row, ok, k⟩ := h
  obtain ⟨a, r, rfl, s, l⟩ := StmR.at row
  refine ⟨_, rfl, g6 s ?_⟩
  refine ⟨_, rfl, _, rfl, _, rfl, r, g.T, g.mo, rfl, l, _, _, rfl, rfl, ?_⟩
  have := ok.nr
  show Q (.bl (decide (g.c < g.need))) H
  rw [decide_eq_false (by omega)]
  exact k
end
end Pk
set_option Elab.async false
set_option linter.all false
set_option maxRecDepth 100000
set_option maxHeartbeats 2000000
namespace Pk
open PySem PySem.Spec L2 PyProof.Rows
section
variable {K : PySem.W.Frag} {C : Cs} {P P' : Addr → Prop} {vs : List V} {H H' F : Hp} {Q : VK} {E : XK} {ex t : Bool} {v v0 v1 v2 v3 : V} {a : Addr} {A : Parts} {n : Str}
/-! ### check_credits, check_parts -/
def sp_check_credits (K : PySem.W.Frag) (C : Cs) : Sp := fun vs H Q _ => ∃ v0 v1 v2 v3 A P, vs = [v0, v1, v2, v3] ∧ ArgsAt K C P H A v0 v1 v2 v3 ∧ A.ok ∧ ∀ H', Same H H' → Q .non H'
def t_check_credits (K : PySem.W.Frag) (C : Cs) : TS :=
  (tSeq (tAsg (tIf (tB (tCall (sp_is_narrow K C) [] E0 (tCons (tVar 0) tNil))) (tLst (tCons (tC (.str "pipe")) tNil)) (tLst tNil)) (gName 4))
    (tSeq (tFor (iTup K (tTup (tCons (tVar 1) (tCons (tVar 2) tNil)))) (gName 5) (tAsg (tOp (rAddU K) (tVar 4) (tLockE (tLc (iItems (tVar 5)) (gTup K 2 (gCons (gName 6) (gCons (gName 8) gNil))) (tB (tCall (sp_is_narrow K C) [] E0 (tCons (tSl (rSlU K) (tVar 8) tNoPart (tPart (tC (.int 3)))) tNil))) (tVar 6) [6, 8]))) (gName 4)))
    (tSeq (tAsg (tOp (rAddU K) (tVar 4) (tLockE (tLc (iItems (tVar 3)) (gTup K 2 (gCons (gName 6) (gCons (gName 7) gNil))) (tB (tCall (sp_is_narrow_stream K C) [] E0 (tCons (tVar 7) tNil))) (tVar 6) [6, 7]))) (gName 4))
    (tIfS (tTest (tOp (rGtI) (tCB (rLenU K) (tCons (tVar 4) tNil)) (tC (.int 0)))) tNever tNext))))
theorem ln_check_credits (h : sp_check_credits K C vs H Q E) : vs.length = 4 := by obtain ⟨_, _, _, _, _, _, rfl, _⟩ := h; rfl
theorem rd_check_credits (h : sp_check_credits K C vs H Q E) : t_check_credits K C (EndsOf Q) (start ["", "", "", "", "", "", "", "", ""] vs) H := by
  obtain ⟨v0, v1, v2, v3, A, P, rfl, ar, ok, k⟩ := h
  have g6 := ok.g6
  have s6 := ok.s6
  refine ⟨_, rfl, v0, A.p, rfl, ar.pi, ok.pi, false, rfl, iteF' rfl ⟨Nat.zero_le _, fun p1 f1 => ?_⟩⟩
  have j1 := same_new (o := .lst []) f1
  have e1 : (upd H p1 (.lst [])) p1 = some (.lst []) := upd_same
  dsimp only [gName]
  generalize upd H p1 (.lst []) = H1 at j1 e1 ⊢
  refine ⟨_, rfl, _, rfl, two_fit.2.1, fun pt ht => ⟨pt, rfl, ⟨_, SqT.of upd_same⟩, ?_⟩⟩
  have j2 := same_new (o := .tup [v1, v2]) ht
  have e2 : (upd H1 pt (.tup [v1, v2])) pt = some (.tup [v1, v2]) := upd_same
  have c2 := j2 _ _ e1
  have j12 := j1.trans j2
  generalize upd H1 pt (.tup [v1, v2]) = H2 at j2 e2 c2 j12 ⊢
  refine for_tup (K := K) (a := pt) (xs := [v1, v2]) (fun j σ' F => ∃ p s5, σ' = [some v0, some v1, some v2, some v3, some (.ref p), s5, none, none, none] ∧ F p = some (.lst []) ∧ Same H F ∧ Same H2 F) ⟨_, _, rfl, c2, j12, Same.refl _⟩ (fun j σ' F _ ⟨_, _, _, _, _, s⟩ => SqT.of (s _ _ e2)) ?_ ?_
  · rintro j x σ' F hx ⟨p, s5, rfl, hp, sF, sF2⟩
    have aF := ar.same sF
    obtain ⟨G, hG, okG, few⟩ : ∃ G : Grps, TabAt true true K C P F G.tab x ∧ G.ok ∧ G.length ≤ 6 := by
      rcases (by have := (List.getElem?_eq_some_iff.mp hx).1; simp at this; omega : j = 0 ∨ j = 1) with rfl | rfl
      · cases hx; exact ⟨_, aF.hs, ok.hs, by omega⟩
      · cases hx; exact ⟨_, aF.ks, ok.ks, by omega⟩
    obtain ⟨d, ks, rfl, _, hd, q⟩ := hG
    have hd : F d = some (.dK ks) := hd
    have lk := q.length
    rw [Grps.len] at lk
    dsimp only [gName, List.set]
    refine ⟨_, rfl, ?_⟩
    refine lc_items (fun _ => none) hd (by omega) (fun F R h => ⟨_, rfl, h⟩) (fun x y => rfl) (fun o r key w F1 e s1 Rr Ry hn hy => ?_) (fun p2 F2 f2 s2 z2 => ?_)
    · obtain ⟨m, g, hm, rfl, row⟩ := Grps.at_ q e
      obtain ⟨b, rr, rfl, s, l⟩ := GrpR.at (row.kee (P := P) ((Kee.lock hd).trans (Kee.same s1)))
      refine ⟨_, rfl, _, rfl, three_cut s (by simp) fun q2 hq => ?_⟩
      have g1 := same_new (o := .tup [V.int g.p.c, rr, .str g.p.m]) hq
      exact ⟨_, g.p, rfl, PoolR.mk_at (SqT.of upd_same) (l.kee (P := P) (Kee.same g1)), (okG.nm _ hm).2, false, rfl, iteF' rfl (hn _ g1 rfl)⟩
    · rw [none_left fun _ _ => rfl] at z2
      refine cat_lists (s2 _ _ hp) z2 (by decide) fun p3 f3 => ?_
      have s3 := same_new (o := .lst ([] ++ [])) f3
      exact ⟨p3, _, rfl, upd_same, (sF.trans s2).trans s3, (sF2.trans s2).trans s3⟩
  · rintro σ' F ⟨p, s5, rfl, hp, sF, _⟩
    have aF := ar.same sF
    obtain ⟨d, ks, rfl, _, hd, q⟩ := aF.ss
    have hd : F d = some (.dK ks) := hd
    have lk := q.length
    rw [Stms.len] at lk
    refine ⟨_, rfl, ?_⟩
    refine lc_items (fun _ => none) hd (by omega) (fun F R h => ⟨_, rfl, h⟩) (fun x y => rfl) (fun o r key w F1 e s1 Rr Ry hn hy => ?_) (fun p2 F2 f2 s2 z2 => ?_)
    · obtain ⟨m, g, hm, rfl, row⟩ := Stms.at_ q e
      exact ⟨_, rfl, _, g, rfl, row.kee (P := P) ((Kee.lock hd).trans (Kee.same s1)), (ok.ss _ hm).2.1, false, rfl, iteF' rfl (hn _ (Same.refl _) rfl)⟩
    · rw [none_left fun _ _ => rfl] at z2
      refine cat_lists (s2 _ _ hp) z2 (by decide) fun p3 f3 => ?_
      have s3 := same_new (o := .lst ([] ++ [])) f3
      refine ⟨_, rfl, .inl ⟨_, _, rfl, .inl ⟨_, SqL.of upd_same, rfl⟩, _, _, rfl, rfl, _, rfl, iteF' (by decide) ?_⟩⟩
      exact k _ ((sF.trans s2).trans s3)
def sp_check_parts (K : PySem.W.Frag) (C : Cs) : Sp := fun vs H Q _ => ∃ v0 v1 v2 v3 A P, vs = [v0, v1, v2, v3] ∧ ArgsAt K C P H A v0 v1 v2 v3 ∧ A.ok ∧ ∀ H', Same H H' → Q .non H'
def t_check_parts (K : PySem.W.Frag) (C : Cs) : TS :=
  (tSeq (tDrop (tCall (sp_check_kinds K C) [] E0 (tCons (tVar 0) (tCons (tVar 1) (tCons (tVar 2) (tCons (tVar 3) tNil))))))
    (tSeq (tDrop (tCall (sp_check_names K C) [] E0 (tCons (tVar 1) (tCons (tVar 2) (tCons (tVar 3) tNil)))))
    (tSeq (tDrop (tCall (sp_check_rings K C) [] E0 (tCons (tVar 1) (tCons (tVar 2) tNil))))
    (tSeq (tDrop (tCall (sp_check_guides K C) [] E0 (tCons (tVar 3) tNil)))
    (tDrop (tCall (sp_check_credits K C) [] E0 (tCons (tVar 0) (tCons (tVar 1) (tCons (tVar 2) (tCons (tVar 3) tNil))))))))))
theorem ln_check_parts (h : sp_check_parts K C vs H Q E) : vs.length = 4 := by obtain ⟨_, _, _, _, _, _, rfl, _⟩ := h; rfl
theorem rd_check_parts (h : sp_check_parts K C vs H Q E) : t_check_parts K C (EndsOf Q) (start ["", "", "", ""] vs) H := by
  obtain ⟨v0, v1, v2, v3, A, P, rfl, ar, ok, k⟩ := h
  refine ⟨_, rfl, _, rfl, _, rfl, _, rfl, v0, v1, v2, v3, A, P, rfl, ar, ok, fun H1 s1 => ?_⟩
  have a1 := ar.same s1
  refine ⟨_, rfl, _, rfl, _, rfl, v0, v1, v2, v3, A, P, rfl, a1, ok, fun H2 s2 => ?_⟩
  have a2 := a1.same s2
  refine ⟨_, rfl, _, rfl, v0, v1, v2, v3, A, P, rfl, a2, ok, fun H3 s3 => ?_⟩
  have a3 := a2.same s3
  refine ⟨_, rfl, v0, v1, v2, v3, A, P, rfl, a3, ok, fun H4 s4 => ?_⟩
  have a4 := a3.same s4
  refine ⟨_, rfl, _, rfl, _, rfl, _, rfl, v0, v1, v2, v3, A, P, rfl, a4, ok, fun H5 s5 => ?_⟩
  exact k _ ((s1.trans s2).trans (s3.trans (s4.trans s5)))
/-! ### ordered -/
/-- what was there -/
def Old (H : Hp) : Addr → Prop := fun a => H a ≠ none
theorem Old.no {p : Addr} (h : H p = none) : ¬ Old H p := fun z => z h
def Tab.inOrder (T : Tab) (zs : List Str) : Tab := zs.map fun n => (n, (T.get n).getD [])
theorem Tab.inOrder_nm (T : Tab) (zs : List Str) : (T.inOrder zs).names = zs := by
  unfold Tab.inOrder Tab.names
  rw [List.map_map]
  have e : (Prod.fst ∘ fun n => (n, (Tab.get T n).getD [])) = id := rfl
  rw [e, List.map_id]
theorem Tab.inOrder_self {T : Tab} (nd : T.names.Nodup) : T.inOrder T.names = T := by
  unfold Tab.inOrder Tab.names
  rw [List.map_map]
  have : ∀ r ∈ T, ((fun n => (n, (Tab.get T n).getD [])) ∘ fun x => x.1) r = id r := by
    rintro ⟨m, cs⟩ hr
    show (m, (Tab.get T m).getD []) = (m, cs)
    rw [Tab.get_of nd hr]
    rfl
  rw [List.map_congr_left this, List.map_id]
theorem Tab.inOrder_perm {T : Tab} {zs : List Str} (nd : T.names.Nodup) (p : zs.Perm T.names) : (T.inOrder zs).Perm T := by
  have q : (T.inOrder zs).Perm (T.inOrder T.names) := p.map _
  rwa [Tab.inOrder_self nd] at q
def sp_ordered (K : PySem.W.Frag) (C : Cs) : Sp := fun vs H Q _ => ∃ v T P, vs = [v] ∧ TabAt false true K C P H T v ∧ T.names.Nodup ∧ T.length ≤ 60 ∧
  ∀ p T' H', H p = none → Same H H' → T'.Perm T → sortedS T'.names = true → TabAt true true K C (Old H) H' T' (.ref p) → Q (.ref p) H'
def t_ordered (K : PySem.W.Frag) : TS :=
  (tRet (tDc (iList K (tCB rKeysS (tCons (tVar 0) tNil))) (gName 1) tYes (tVar 1) (tCB (rTupleOf K) (tCons (tDGet (tVar 0) (tVar 1)) tNil)) [1]))
theorem ln_ordered (h : sp_ordered K C vs H Q E) : vs.length = 1 := by obtain ⟨_, _, _, rfl, _⟩ := h; rfl
theorem rd_ordered (h : sp_ordered K C vs H Q E) : t_ordered K (EndsOf Q) (start ["", ""] vs) H := by
  obtain ⟨v, T, P, rfl, ht, nd, few, k⟩ := h
  obtain ⟨d, ks, rfl, _, hd, kv⟩ := id ht
  have lT : T.names.length = T.length := by unfold Tab.names; rw [List.length_map]
  refine ⟨_, rfl, d, ks, T.names, rfl, hd.rd, kv.keys.1, by omega, fun zs q perm so hq => ?_⟩
  have lz : zs.length = T.length := by rw [perm.length_eq, lT]
  have ndz : zs.Nodup := perm.nodup_iff.mpr nd
  have s1 := same_new (o := .lst (zs.map V.str)) hq
  have e1 : (upd H q (.lst (zs.map V.str))) q = some (.lst (zs.map V.str)) := upd_same
  generalize upd H q (.lst (zs.map V.str)) = G at s1 e1 ⊢
  refine ⟨q, rfl, ⟨_, SqL.of e1⟩, fun D hD => ?_⟩
  refine dc_walk (walk_list (K := K) (a := q) (xs := zs.map V.str)) (fun i F => Same G F ∧ ∃ ps, F D = some (.dK ps) ∧ KvAt true K C F ((T.inOrder zs).take i) ps) ⟨same_new hD, [], upd_same, rfl⟩ (fun i F _ p => SqL.of (p.1 _ _ e1)) ?_ ?_
  · rintro i x F F' hi ⟨sF, ps, hz, kF⟩ ⟨rfl, hx⟩
    rw [List.length_map] at hi
    rw [List.getElem?_map] at hx
    obtain ⟨n, hn, rfl⟩ := Option.map_eq_some_iff.mp hx
    refine ⟨rfl, ?_⟩
    have mem : n ∈ T.names := perm.mem_iff.mp (List.mem_of_getElem? hn)
    obtain ⟨cs, hcs⟩ : ∃ cs, T.get n = some cs := by
      cases g : T.get n with
      | none => exact absurd mem (Tab.get_none.mp g)
      | some cs => exact ⟨cs, rfl⟩
    have sH := s1.trans sF
    obtain ⟨d', e', g1, _⟩ := (ht.rd.kee (Kee.same sH)).dget
    cases e'
    obtain ⟨x, dx, row⟩ := g1 n cs hcs
    obtain ⟨b, xs, rfl, sb, cb⟩ := id row
    refine ⟨_, rfl, _, rfl, _, rfl, d, _, rfl, dx, b, xs, rfl, .inr ⟨sb, ps, .inr n, rfl, hz, ?_, fun c o e => ?_, ?_⟩⟩
    · have := kF.length
      rw [List.length_take] at this
      exact small1000 (by omega)
    · rw [upd_ne (ne_of_none e hD)]
      exact sF c o e
    · have kk : Kee K C (fun _ => True) F' (upd F' D (.dK (putK ps (.inr n) (.ref b)))) := (KeeX.dict kp_put hz trivial).toKee
      refine ⟨_, upd_same, ?_⟩
      have et : (T.inOrder zs).take (i + 1) = (T.inOrder zs).take i ++ [(n, cs)] := by
        have e2 : (T.inOrder zs)[i]? = some (n, cs) := by
          unfold Tab.inOrder
          rw [List.getElem?_map, hn]
          show some (n, (Tab.get T n).getD []) = _
          rw [hcs]
          rfl
        rw [List.take_add_one, e2]
        rfl
      rw [et]
      refine (kF.put row ?_).kee kk
      show n ∉ Tab.names ((T.inOrder zs).take i)
      have e3 : Tab.names ((T.inOrder zs).take i) = zs.take i := by
        show ((T.inOrder zs).take i).map (·.1) = _
        rw [List.map_take]
        show (Tab.names (T.inOrder zs)).take i = _
        rw [Tab.inOrder_nm]
      rw [e3]
      intro m
      obtain ⟨j, hj, ej⟩ := List.mem_take_iff_getElem.mp m
      have hj2 : j < zs.length := by omega
      obtain ⟨hi2, ei⟩ := List.getElem?_eq_some_iff.mp hn
      have := (List.getElem_inj ndz).mp (ej.trans ei.symm)
      omega
  · rintro F ⟨sF, ps, hz, kF⟩
    have e2 : (T.inOrder zs).take (zs.map V.str).length = T.inOrder zs := by
      apply List.take_of_length_le
      unfold Tab.inOrder
      rw [List.length_map, List.length_map]
      exact Nat.le_refl _
    rw [e2] at kF
    have sH := s1.trans sF
    have fD := s1.free hD
    exact k D _ F fD sH (Tab.inOrder_perm nd perm) (by rw [Tab.inOrder_nm]; exact so) ⟨D, ps, rfl, Old.no fD, hz, kF⟩
end
end Pk
set_option Elab.async false
set_option linter.all false
set_option maxRecDepth 100000
set_option maxHeartbeats 2000000
namespace Pk
open PySem PySem.Spec L2 PyProof.Rows
/-! ### the pools of a plan -/
def Grps.ptab (G : Grps) : Tab := G.map fun r => (r.1, r.2.p.cells)
def StmR.pool (s : StmR) : PoolR := ⟨s.c, s.T, "read"⟩
def Stms.ptab (S : Stms) : Tab := S.map fun r => (r.1, r.2.pool.cells)
def Parts.ptab (A : Parts) : Tab := [(("pipe" : Str), A.p.cells)] ++ A.hs.ptab ++ A.ks.ptab ++ A.ss.ptab
theorem Grps.ptab_nm (G : Grps) : G.ptab.names = G.nm := by unfold Grps.ptab Tab.names Grps.nm; rw [List.map_map]; rfl
theorem Stms.ptab_nm (S : Stms) : S.ptab.names = S.nm := by unfold Stms.ptab Tab.names Stms.nm; rw [List.map_map]; rfl
theorem Tab.names_app (T U : Tab) : Tab.names (T ++ U) = Tab.names T ++ Tab.names U := List.map_append
theorem Parts.ptab_nm (A : Parts) : A.ptab.names = ("pipe" : Str) :: (A.hs.nm ++ A.ks.nm ++ A.ss.nm) := by
  unfold Parts.ptab
  rw [Tab.names_app, Tab.names_app, Tab.names_app, Grps.ptab_nm, Grps.ptab_nm, Stms.ptab_nm]
  rfl
theorem Parts.ptab_len (A : Parts) (ok : A.ok) : A.ptab.length ≤ 13 := by
  unfold Parts.ptab Grps.ptab Stms.ptab
  rw [List.length_append, List.length_append, List.length_append, List.length_map, List.length_map, List.length_map]
  have := ok.g6
  have := ok.s6
  have : ([(("pipe" : Str), A.p.cells)] : Tab).length = 1 := rfl
  omega
section
variable {K : PySem.W.Frag} {C : Cs} {P P' : Addr → Prop} {vs : List V} {H H' F G : Hp} {Q : VK} {E : XK} {ex t : Bool} {v v0 v1 v2 v3 : V} {a : Addr} {A : Parts} {n : Str}
theorem Kee.unlock {o : Obj} {ks : List (Key × V)} (h : F a = some (.frz o (.dK ks))) : Kee K C (fun _ => True) F (upd F a (.dK ks)) := by
  have k : Kp a F (upd F a (.dK ks)) := kp_put
  refine ⟨fun b xs q => ?_, fun _ _ _ e => k _ _ e (ne_of e h fun z => nomatch z), fun _ _ _ _ e => k _ _ e (ne_of e h fun z => nomatch z), fun _ _ z => absurd trivial z⟩
  rcases q with (q | ⟨o2, q⟩) | q
  · exact .inl (.inl (k _ _ q (ne_of q h fun z => nomatch z)))
  · exact .inl (.inr ⟨o2, k _ _ q (ne_of q h fun z => by cases z)⟩)
  · exact .inr q
/-- a table's rows, made anew and put into the dict at D -/
theorem fillD {D : Addr} {ks ps : List (Key × V)} {T0 U : Tab} {td : TE} {tb : TS} {s5 s6 s7 : Option V} {N : Ends}
    (hd : ∀ (F : Hp) (R : V → Hp → Prop), R (.ref a) F → td [some v0, some v1, some v2, some v3, some (.ref D), s5, s6, s7] F R)
    (ha : G a = some (.dK ks)) (hD : G D = some (.dK ps)) (ne : D ≠ a) (k0 : KvAt true K C G T0 ps) (nd : (Tab.names (T0 ++ U)).Nodup) (few : T0.length + U.length ≤ 500) (lk : ks.length = U.length)
    (kn : ∀ (r : Nat) (kv : Key × V), ks[r]? = some kv → ∃ n cs, U[r]? = some (n, cs) ∧ kv.1 = .inr n)
    (step : ∀ (o : Obj) (r : Nat) (n : Str) (cs : List Cell) (w : V) (F : Hp) (qs : List (Key × V)) (N2 : Ends), ks[r]? = some (.inr n, w) → U[r]? = some (n, cs) → Kp D (upd G a (.frz o (.dK ks))) F → F D = some (.dK qs) → qs.length < sizeLine →
      (∀ x F2, Same F F2 → RowAt true K C F2 cs x → N2.nx [some v0, some v1, some v2, some v3, some (.ref D), s5, some (.str n), some w] (upd F2 D (.dK (putK qs (.inr n) x)))) →
      tb N2 [some v0, some v1, some v2, some v3, some (.ref D), s5, some (.str n), some w] F)
    (done : ∀ s6 s7 F qs, Kp D G F → F D = some (.dK qs) → KvAt true K C F (T0 ++ U) qs → N.nx [some v0, some v1, some v2, some v3, some (.ref D), s5, s6, s7] F) :
    tLock (tFor (iItems td) (gTup K 2 (gCons (gName 6) (gCons (gName 7) gNil))) tb) N [some v0, some v1, some v2, some v3, some (.ref D), s5, s6, s7] G := by
  refine ⟨a, _, ha, True.intro, fun o => ?_⟩
  refine hd _ _ ⟨a, o, ks, rfl, upd_same, ?_⟩
  have kL : Kee K C (fun _ => True) G (upd G a (.frz o (.dK ks))) := Kee.lock ha
  refine for_it walk_items (fun r σ' F => ∃ s6 s7 qs, σ' = [some v0, some v1, some v2, some v3, some (.ref D), s5, s6, s7] ∧ Kp D (upd G a (.frz o (.dK ks))) F ∧ F D = some (.dK qs) ∧ KvAt true K C F (T0 ++ U.take r) qs)
    ⟨_, _, ps, rfl, Kp.refl, by rw [upd_ne ne]; exact hD, by rw [List.take_zero, List.append_nil]; exact k0.kee kL⟩ (fun r σ' F _ ⟨_, _, _, _, k, _, _⟩ => k _ _ upd_same ne.symm) ?_ ?_
  · rintro r x σ' F F' hr ⟨s6, s7, qs, rfl, kF, hz, kv⟩ ⟨T, y1, y2, rfl, hT, rfl, e1, e2⟩
    obtain ⟨⟨key, w⟩, e3⟩ : ∃ kv, ks[r]? = some kv := ⟨_, List.getElem?_eq_getElem hr⟩
    dsimp only at e1 e2
    rw [e3] at e1 e2
    cases e1
    cases e2
    obtain ⟨n, cs, eU, rfl⟩ := kn r _ e3
    have g := same_new (o := .tup [V.str n, w]) hT
    have lq := kv.length
    have : (T0 ++ U.take r).length ≤ 500 := by rw [List.length_append, List.length_take]; omega
    refine ⟨T, _, rfl, SqT.of upd_same, rfl, _, _, rfl, _, _, rfl, rfl, ?_⟩
    refine step o r n cs w _ qs _ e3 eU (kF.trans (Kp.of g)) (g _ _ hz) (small1000 (by omega)) fun x F2 s2 row => ?_
    refine ⟨_, _, putK qs (.inr n) x, rfl, ((kF.trans (Kp.of g)).trans (Kp.of s2)).trans kp_put, upd_same, ?_⟩
    have kk : Kee K C (fun _ => True) F2 (upd F2 D (.dK (putK qs (.inr n) x))) := (KeeX.dict kp_put (s2 _ _ (g _ _ hz)) trivial).toKee
    have et : T0 ++ U.take (r + 1) = (T0 ++ U.take r) ++ [(n, cs)] := by
      rw [List.take_add_one, eU, List.append_assoc]
      rfl
    rw [et]
    have kv2 : KvAt true K C F2 (T0 ++ U.take r) qs := (kv.kee (P := fun _ => True) (Kee.same g)).kee (P := fun _ => True) (Kee.same s2)
    refine (kv2.put row ?_).kee kk
    have e5 : Tab.names (T0 ++ U) = Tab.names (T0 ++ U.take r) ++ (n :: Tab.names (U.drop (r + 1))) := by
      obtain ⟨hlt, eg⟩ := List.getElem?_eq_some_iff.mp eU
      have e6 : U = U.take r ++ ((n, cs) :: U.drop (r + 1)) := by
        rw [← eg, ← List.drop_eq_getElem_cons hlt, List.take_append_drop]
      conv => lhs; rw [e6]
      rw [← List.append_assoc, Tab.names_app]
      rfl
    rw [e5] at nd
    have q := (List.nodup_append.mp nd).2.2
    intro m
    exact q n m n (List.mem_cons_self ..) rfl
  · rintro σ' F ⟨s6, s7, qs, rfl, kF, hz, kv⟩
    have fa : F a = some (.frz o (.dK ks)) := kF _ _ upd_same ne.symm
    refine ⟨fa, done _ _ _ qs (fun c u e nc => ?_) (by rw [upd_ne ne]; exact hz) ?_⟩
    · by_cases h : c = a
      · subst h
        rw [ha] at e
        cases e
        exact upd_same
      · rw [upd_ne h]
        exact kF _ _ (by rw [upd_ne h]; exact e) nc
    · rw [lk, List.take_length] at kv
      exact kv.kee (Kee.unlock fa)
def sp_pools_of (K : PySem.W.Frag) (C : Cs) : Sp := fun vs H Q _ => ∃ v0 v1 v2 v3 A P, vs = [v0, v1, v2, v3] ∧ ArgsAt K C P H A v0 v1 v2 v3 ∧ A.ok ∧
  ∀ p T' H', H p = none → Same H H' → T'.Perm A.ptab → sortedS T'.names = true → TabAt true true K C (Old H) H' T' (.ref p) → Q (.ref p) H'
def t_pools_of (K : PySem.W.Frag) (C : Cs) : TS :=
  (tSeq (tAsg (tDisp [((tC (.str "pipe")), (tVar 0))]) (gName 4))
    (tSeq (tFor (iTup K (tTup (tCons (tVar 1) (tCons (tVar 2) tNil)))) (gName 5) (tLock (tFor (iItems (tVar 5)) (gTup K 2 (gCons (gName 6) (gCons (gName 7) gNil))) (tAsg (tSl (rSlU K) (tVar 7) tNoPart (tPart (tC (.int 3)))) (gSub (tVar 4) (tVar 6) rSetD)))))
    (tSeq (tLock (tFor (iItems (tVar 3)) (gTup K 2 (gCons (gName 6) (gCons (gName 7) gNil))) (tAsg (tOp (rAddU K) (tSl (rSlU K) (tVar 7) tNoPart (tPart (tC (.int 2)))) (tTup (tCons (tC (.str "read")) tNil))) (gSub (tVar 4) (tVar 6) rSetD))))
    (tRet (tCall (sp_ordered K C) [] E0 (tCons (tVar 4) tNil))))))
theorem ln_pools_of (h : sp_pools_of K C vs H Q E) : vs.length = 4 := by obtain ⟨_, _, _, _, _, _, rfl, _⟩ := h; rfl
theorem Old.mono {T : Tab} (h : TabAt ex t K C (Old G) H T v) (s : Same F G) : TabAt ex t K C (Old F) H T v := h.less fun a z e => by
  cases q : F a with
  | none => exact z q
  | some o => rw [s _ _ q] at e; cases e
theorem rd_pools_of (h : sp_pools_of K C vs H Q E) : t_pools_of K C (EndsOf Q) (start ["", "", "", "", "", "", "", ""] vs) H := by
  obtain ⟨v0, v1, v2, v3, A, P, rfl, ar, ok, k⟩ := h
  have g6 := ok.g6
  have s6 := ok.s6
  have nd := ok.nd
  rw [← A.ptab_nm] at nd
  intro D hD
  refine ⟨_, rfl, upd_same, [(.inr "pipe", v0)], rfl, by show 1 ≤ 15; decide, ?_⟩
  rw [upd_upd]
  have s0 := same_new (o := .dK (mergeK [] [((.inr "pipe" : Key), v0)])) hD
  have e0 : (upd H D (.dK (mergeK [] [((.inr "pipe" : Key), v0)]))) D = some (.dK [((.inr "pipe" : Key), v0)]) := upd_same
  dsimp only [gName]
  generalize upd H D (.dK (mergeK [] [((.inr "pipe" : Key), v0)])) = H1 at s0 e0 ⊢
  have kp0 : KvAt true K C H1 [(("pipe" : Str), A.p.cells)] [((.inr "pipe" : Key), v0)] := ⟨_, _, rfl, ar.pi.kee (P := P) (Kee.same s0), rfl⟩
  refine ⟨_, rfl, _, rfl, two_fit.2.1, fun pt ht => ⟨pt, rfl, ⟨_, SqT.of upd_same⟩, ?_⟩⟩
  have j2 := same_new (o := .tup [v1, v2]) ht
  have et : (upd H1 pt (.tup [v1, v2])) pt = some (.tup [v1, v2]) := upd_same
  have eD := j2 _ _ e0
  have sH := s0.trans j2
  have kp1 := kp0.kee (P := P) (Kee.same j2)
  generalize upd H1 pt (.tup [v1, v2]) = H2 at j2 et eD sH kp1 ⊢
  clear kp0 e0
  have nDt : pt ≠ D := fun z => by rw [z, eD] at et; cases et
  have neD : ∀ {d : Addr} {o : HO}, H d = some o → D ≠ d := fun e z => by rw [← z, hD] at e; cases e
  -- what stands in the dict behind j turns
  refine for_tup (K := K) (a := pt) (xs := [v1, v2]) (fun j σ' F => ∃ s5 s6 s7 qs, σ' = [some v0, some v1, some v2, some v3, some (.ref D), s5, s6, s7] ∧ Same H F ∧ F pt = some (.tup [v1, v2]) ∧ F D = some (.dK qs) ∧
      KvAt true K C F (match j with | 0 => [(("pipe" : Str), A.p.cells)] | 1 => [(("pipe" : Str), A.p.cells)] ++ A.hs.ptab | _ => [(("pipe" : Str), A.p.cells)] ++ A.hs.ptab ++ A.ks.ptab) qs)
    ⟨_, _, _, _, rfl, sH, et, eD, kp1⟩ (fun j σ' F _ ⟨_, _, _, _, _, _, e, _⟩ => SqT.of e) ?_ ?_
  · rintro j x σ' F hx ⟨s5, s6, s7, qs, rfl, sF, ept, hz, kv⟩
    have gos : ∀ {GG : Grps} {T0 T1 : Tab}, TabAt true true K C P H GG.tab x → T1 = T0 ++ GG.ptab → (Tab.names T1).Nodup → T1.length ≤ 500 → KvAt true K C F T0 qs →
        (∀ s5 s6 s7 qs F2, Same H F2 → F2 pt = some (.tup [v1, v2]) → F2 D = some (.dK qs) → KvAt true K C F2 T1 qs → ∃ s5' s6' s7' qs', ([some v0, some v1, some v2, some v3, some (.ref D), s5, s6, s7] : L2.St) = [some v0, some v1, some v2, some v3, some (.ref D), s5', s6', s7'] ∧ Same H F2 ∧ F2 pt = some (.tup [v1, v2]) ∧ F2 D = some (.dK qs') ∧
          KvAt true K C F2 T1 qs') := fun _ _ _ _ _ s5 s6 s7 qs F2 h1 h2 h3 h4 => ⟨_, _, _, _, rfl, h1, h2, h3, h4⟩
    have one : ∀ {GG : Grps} {T0 : Tab} {N : Ends}, TabAt true true K C P H GG.tab x → (Tab.names (T0 ++ GG.ptab)).Nodup → T0.length + GG.ptab.length ≤ 500 → KvAt true K C F T0 qs →
        (∀ s6 s7 F2 qs2, Same H F2 → F2 pt = some (.tup [v1, v2]) → F2 D = some (.dK qs2) → KvAt true K C F2 (T0 ++ GG.ptab) qs2 → N.nx [some v0, some v1, some v2, some v3, some (.ref D), some x, s6, s7] F2) →
        tLock (tFor (iItems (tVar 5)) (gTup K 2 (gCons (gName 6) (gCons (gName 7) gNil))) (tAsg (tSl (rSlU K) (tVar 7) tNoPart (tPart (tC (.int 3)))) (gSub (tVar 4) (tVar 6) rSetD))) N [some v0, some v1, some v2, some v3, some (.ref D), some x, s6, s7] F := by
      intro GG T0 N hG nd1 few1 kv1 done
      obtain ⟨d, ks, rfl, _, hd, q⟩ := hG
      have hd : H d = some (.dK ks) := hd
      have ne := neD hd
      refine fillD (K := K) (C := C) (U := GG.ptab) (fun F R h => ⟨_, rfl, h⟩) (sF _ _ hd) hz ne kv1 nd1 few1 (by rw [q.length, Grps.len]; unfold Grps.ptab; rw [List.length_map]) (fun r kv e => ?_) (fun o r n cs w F1 qs1 N2 e eU kF1 hz1 few2 nx => ?_) (fun s6 s7 F2 qs2 k2 hz2 kv2 => ?_)
      · obtain ⟨n, cs, e1, e2, _⟩ := q.at e
        unfold Grps.tab at e1
        rw [List.getElem?_map] at e1
        obtain ⟨⟨m, g⟩, e3, e4⟩ := Option.map_eq_some_iff.mp e1
        cases e4
        exact ⟨m, g.p.cells, by unfold Grps.ptab; rw [List.getElem?_map, e3]; rfl, e2⟩
      · obtain ⟨n2, cs2, e1, e2, row⟩ := q.at e
        unfold Grps.tab at e1
        unfold Grps.ptab at eU
        rw [List.getElem?_map] at e1 eU
        obtain ⟨⟨m, g⟩, e3, e4⟩ := Option.map_eq_some_iff.mp e1
        rw [e3] at eU
        cases eU
        cases e4
        have kA : Kee K C (fun _ => True) F F1 := (Kee.lock (sF _ _ hd)).trans (KeeX.dict kF1 (show (upd F d (.frz o (.dK ks))) D = some (.dK qs) by rw [upd_ne ne]; exact hz) trivial).toKee
        obtain ⟨b, rr, rfl, s, l⟩ := GrpR.at ((row.kee (P := fun _ => True) (Kee.same sF)).kee kA)
        refine ⟨_, rfl, _, rfl, three_cut s (by simp) fun q2 hq => ?_⟩
        have g1 := same_new (o := .tup [V.int g.p.c, rr, .str g.p.m]) hq
        refine ⟨_, rfl, _, rfl, D, _, rfl, .inl ⟨qs1, .inr m, g1 _ _ hz1, rfl, few2, rfl⟩, ?_⟩
        exact nx _ _ g1 (PoolR.mk_at (SqT.of upd_same) (l.kee (P := fun _ => True) (Kee.same g1)))
      · refine done s6 s7 F2 qs2 (fun c u e => k2 _ _ (sF _ _ e) (neD e).symm) (k2 _ _ ept nDt) hz2 kv2
    have nd1 : (Tab.names ([(("pipe" : Str), A.p.cells)] ++ A.hs.ptab ++ A.ks.ptab)).Nodup := by
      have e : A.ptab = ([(("pipe" : Str), A.p.cells)] ++ A.hs.ptab ++ A.ks.ptab) ++ A.ss.ptab := rfl
      rw [e, Tab.names_app] at nd
      exact (List.nodup_append.mp nd).1
    have nd0 : (Tab.names ([(("pipe" : Str), A.p.cells)] ++ A.hs.ptab)).Nodup := by
      rw [Tab.names_app] at nd1
      exact (List.nodup_append.mp nd1).1
    have l1 : A.hs.ptab.length = A.hs.length := by unfold Grps.ptab; rw [List.length_map]
    have l2 : A.ks.ptab.length = A.ks.length := by unfold Grps.ptab; rw [List.length_map]
    have l0 : ([(("pipe" : Str), A.p.cells)] : Tab).length = 1 := rfl
    clear gos
    dsimp only [gName, List.set]
    rcases (by have := (List.getElem?_eq_some_iff.mp hx).1; simp at this; omega : j = 0 ∨ j = 1) with rfl | rfl
    · cases hx
      exact one ar.hs nd0 (by omega) kv fun s6 s7 F2 qs2 h1 h2 h3 h4 => ⟨_, _, _, _, rfl, h1, h2, h3, h4⟩
    · cases hx
      exact one ar.ks nd1 (by rw [List.length_append]; omega) kv fun s6 s7 F2 qs2 h1 h2 h3 h4 => ⟨_, _, _, _, rfl, h1, h2, h3, h4⟩
  · rintro σ' F ⟨s5, s6', s7, qs, rfl, sF, ept, hz, kv⟩
    have kv : KvAt true K C F ([(("pipe" : Str), A.p.cells)] ++ A.hs.ptab ++ A.ks.ptab) qs := kv
    obtain ⟨d, ks, rfl, _, hd, q⟩ := id ar.ss
    have hd : H d = some (.dK ks) := hd
    have ne := neD hd
    have l2 := A.ptab_len ok
    refine fillD (K := K) (C := C) (U := A.ss.ptab) (fun F R h => ⟨_, rfl, h⟩) (sF _ _ hd) hz ne kv nd (by have e : A.ptab.length = ([(("pipe" : Str), A.p.cells)] ++ A.hs.ptab ++ A.ks.ptab).length + A.ss.ptab.length := List.length_append; omega)
      (by rw [q.length, Stms.len]; unfold Stms.ptab; rw [List.length_map]) (fun r kv e => ?_) (fun o r n cs w F1 qs1 N2 e eU kF1 hz1 few2 nx => ?_) (fun s6 s7 F2 qs2 k2 hz2 kv2 => ?_)
    · obtain ⟨n, cs, e1, e2, _⟩ := q.at e
      unfold Stms.tab at e1
      rw [List.getElem?_map] at e1
      obtain ⟨⟨m, g⟩, e3, e4⟩ := Option.map_eq_some_iff.mp e1
      cases e4
      exact ⟨m, g.pool.cells, by unfold Stms.ptab; rw [List.getElem?_map, e3]; rfl, e2⟩
    · obtain ⟨n2, cs2, e1, e2, row⟩ := q.at e
      unfold Stms.tab at e1
      unfold Stms.ptab at eU
      rw [List.getElem?_map] at e1 eU
      obtain ⟨⟨m, g⟩, e3, e4⟩ := Option.map_eq_some_iff.mp e1
      rw [e3] at eU
      cases eU
      cases e4
      have kA : Kee K C (fun _ => True) F F1 := (Kee.lock (sF _ _ hd)).trans (KeeX.dict kF1 (show (upd F d (.frz o (.dK ks))) D = some (.dK qs) by rw [upd_ne ne]; exact hz) trivial).toKee
      obtain ⟨b, rr, rfl, s, l⟩ := StmR.at ((row.kee (P := fun _ => True) (Kee.same sF)).kee kA)
      have cut : ∀ {R : VK}, (∀ q, F1 q = none → R (.ref q) (upd F1 q (.tup [.int g.c, rr]))) → rSlU K (.ref b) none (some 2) F1 R := by
        intro R kR
        refine .inr ⟨b, _, rfl, s, fun w => ?_, fun p hp => ?_⟩
        · have w2 : HT.sIx 6 6 (some ((2 : Nat) : Int)) = 6 := w.2
          rw [HT.sIx_nat] at w2
          exact absurd w2 (by decide)
        · have e : cutV [V.int g.c, rr, oI g.mo, oV g.h, oV g.k, oV g.g] none (some ((2 : Nat) : Int)) = [V.int g.c, rr] := cutV_to _ 2
          have e2 : cutV [V.int g.c, rr, oI g.mo, oV g.h, oV g.k, oV g.g] none (some 2) = [V.int g.c, rr] := e
          rw [e2]
          exact kR p hp
      refine ⟨_, rfl, _, rfl, cut fun q2 hq => ⟨two_fit.1, fun q3 hq3 => ?_⟩⟩
      have g1 := same_new (o := .tup [V.int g.c, rr]) hq
      have g2 := same_new (o := .tup [V.str "read"]) hq3
      refine .inr (.inr (.inr ⟨q2, q3, _, _, rfl, rfl, SqT.of (g2 _ _ upd_same), SqT.of upd_same, two_fit.2.2.1, fun z => (nomatch z), fun _ z => (nomatch z), fun _ _ q4 hq4 => ?_⟩))
      have g3' := same_new (o := .tup ([V.int g.c, rr] ++ [V.str "read"])) hq4
      have gg := g1.trans (g2.trans g3')
      refine ⟨_, rfl, _, rfl, D, _, rfl, .inl ⟨qs1, .inr m, gg _ _ hz1, rfl, few2, rfl⟩, ?_⟩
      exact nx _ _ gg (PoolR.mk_at (p := g.pool) (SqT.of upd_same) (l.kee (P := fun _ => True) (Kee.same gg)))
    · have sF2 : Same H F2 := fun c u e => k2 _ _ (sF _ _ e) (neD e).symm
      refine ⟨_, rfl, .ref D, A.ptab, fun _ => False, rfl, ⟨D, qs2, rfl, fun z => z, .inl hz2, kv2⟩, nd, by omega, fun p T' H' hp s' perm so tab => ?_⟩
      exact k p T' H' (sF2.free hp) (sF2.trans s') perm so (Old.mono tab sF2)
end
end Pk
set_option Elab.async false
set_option linter.all false
set_option maxRecDepth 100000
set_option maxHeartbeats 2000000
namespace Pk
open PySem PySem.Spec L2 PyProof.Rows
theorem perm_lift {α β : Type} (f : α → β) : ∀ {L M : List β}, L.Perm M → ∀ G : List α, M = G.map f → ∃ G' : List α, G'.Perm G ∧ G'.map f = L := by
  intro L M p
  induction p with
  | nil =>
    intro G e
    exact ⟨G, List.Perm.refl _, e.symm⟩
  | cons x p ih =>
    intro G e
    cases G with
    | nil => cases e
    | cons g G =>
      rw [List.map_cons] at e
      injection e with e1 e2
      obtain ⟨G', q1, q2⟩ := ih G e2
      exact ⟨g :: G', q1.cons g, by rw [List.map_cons, q2, ← e1]⟩
  | swap x y l =>
    intro G e
    match G, e with
    | g1 :: g2 :: G, e =>
      rw [List.map_cons, List.map_cons] at e
      injection e with e1 e2
      injection e2 with e2 e3
      exact ⟨g2 :: g1 :: G, List.Perm.swap .., by rw [List.map_cons, List.map_cons, ← e1, ← e2, ← e3]⟩
  | trans p q ih1 ih2 =>
    intro G e
    obtain ⟨G1, a1, a2⟩ := ih2 G e
    obtain ⟨G2, b1, b2⟩ := ih1 G1 a2.symm
    exact ⟨G2, b1.trans a1, b2⟩
/-- B: A with its names in order -/
structure Parts.of (B A : Parts) : Prop where
  p : B.p = A.p
  hs : B.hs.Perm A.hs
  ks : B.ks.Perm A.ks
  ss : B.ss.Perm A.ss
  o1 : sortedS B.hs.nm = true
  o2 : sortedS B.ks.nm = true
  o3 : sortedS B.ss.nm = true
theorem Grps.ok.perm {G G' : Grps} (p : G'.Perm G) (ok : G.ok) : G'.ok := by
  obtain ⟨h, hb, q⟩ := ok.ar
  have pm : G'.nm.Perm G.nm := p.map _
  exact ⟨fun r hr => ok.nm r (p.mem_iff.mp hr), h, hb, fun r hr n hn => ⟨pm.mem_iff.mpr (q r (p.mem_iff.mp hr) n hn).1, (q r (p.mem_iff.mp hr) n hn).2⟩⟩
theorem Parts.of.ok {A B : Parts} (o : B.of A) (ok : A.ok) : B.ok := by
  have p1 : B.hs.nm.Perm A.hs.nm := o.hs.map _
  have p2 : B.ks.nm.Perm A.ks.nm := o.ks.map _
  have p3 : B.ss.nm.Perm A.ss.nm := o.ss.map _
  refine ⟨by rw [o.p]; exact ok.pi, ok.hs.perm o.hs, ok.ks.perm o.ks, ?_, by rw [o.hs.length_eq, o.ks.length_eq]; exact ok.g6, by rw [o.ss.length_eq]; exact ok.s1, by rw [o.ss.length_eq]; exact ok.s6, fun r hr => ?_⟩
  · exact ((List.Perm.cons _ ((p1.append p2).append p3)).nodup_iff).mpr ok.nd
  · obtain ⟨h1, h2, h3, h4, h5⟩ := ok.ss r (o.ss.mem_iff.mp hr)
    refine ⟨h1, h2, fun n hn => p1.mem_iff.mpr (h3 n hn), fun n hn => p2.mem_iff.mpr (h4 n hn), fun n hn => ?_⟩
    obtain ⟨s, q1, q2⟩ := h5 n hn
    exact ⟨s, o.ss.mem_iff.mpr q1, q2⟩
/-! ### Plans -/
structure FxPlan (K : PySem.W.Frag) (C : Cs) : Prop where
  cl : Cls K C.Plan
  n1 : NoAttr K C.Plan "_pipe"
  n2 : NoAttr K C.Plan "_houses"
  n3 : NoAttr K C.Plan "_kinds"
  n4 : NoAttr K C.Plan "_streams"
  n5 : NoAttr K C.Plan "_pools"
  ic : C8.InsC K C.Plan
def planF (p h k s o : V) : List (Str × V) := [("_pipe", p), ("_houses", h), ("_kinds", k), ("_streams", s), ("_pools", o)]
theorem pn_eq : (("_houses" : Str) == "_pipe") = false ∧ (("_kinds" : Str) == "_pipe") = false ∧ (("_kinds" : Str) == "_houses") = false ∧ (("_streams" : Str) == "_pipe") = false ∧ (("_streams" : Str) == "_houses") = false ∧ (("_streams" : Str) == "_kinds") = false ∧
  (("_pools" : Str) == "_pipe") = false ∧ (("_pools" : Str) == "_houses") = false ∧ (("_pools" : Str) == "_kinds") = false ∧ (("_pools" : Str) == "_streams") = false := by decide +kernel
theorem pn_ne : ("_pipe" : Str) ≠ "_houses" ∧ ("_pipe" : Str) ≠ "_kinds" ∧ ("_houses" : Str) ≠ "_kinds" ∧ ("_pipe" : Str) ≠ "_streams" ∧ ("_houses" : Str) ≠ "_streams" ∧ ("_kinds" : Str) ≠ "_streams" ∧
  ("_pipe" : Str) ≠ "_pools" ∧ ("_houses" : Str) ≠ "_pools" ∧ ("_kinds" : Str) ≠ "_pools" ∧ ("_streams" : Str) ≠ "_pools" ∧ ("_pipe" : Str) ≠ "_tree" := by decide +kernel
section
variable {p h k s o : V} {r : List (Str × V)}
theorem pf1 : List.lookup ("_pipe" : Str) (("_pipe", p) :: r) = some p := by rw [List.lookup, beq_self_eq_true]
theorem pf2 : List.lookup ("_houses" : Str) (("_pipe", p) :: ("_houses", h) :: r) = some h := by rw [List.lookup, pn_eq.1, List.lookup, beq_self_eq_true]
theorem pf3 : List.lookup ("_kinds" : Str) (("_pipe", p) :: ("_houses", h) :: ("_kinds", k) :: r) = some k := by rw [List.lookup, pn_eq.2.1, List.lookup, pn_eq.2.2.1, List.lookup, beq_self_eq_true]
theorem pf4 : List.lookup ("_streams" : Str) (("_pipe", p) :: ("_houses", h) :: ("_kinds", k) :: ("_streams", s) :: r) = some s := by rw [List.lookup, pn_eq.2.2.2.1, List.lookup, pn_eq.2.2.2.2.1, List.lookup, pn_eq.2.2.2.2.2.1, List.lookup, beq_self_eq_true]
theorem pf5 : List.lookup ("_pools" : Str) (planF p h k s o) = some o := by
  unfold planF
  rw [List.lookup, pn_eq.2.2.2.2.2.2.1, List.lookup, pn_eq.2.2.2.2.2.2.2.1, List.lookup, pn_eq.2.2.2.2.2.2.2.2.1, List.lookup, pn_eq.2.2.2.2.2.2.2.2.2, List.lookup, beq_self_eq_true]
theorem pp2 : putF "_houses" h [(("_pipe" : Str), p)] = [(("_pipe" : Str), p), (("_houses" : Str), h)] := by rw [putF, if_neg pn_ne.1, putF]
theorem pp3 : putF "_kinds" k [(("_pipe" : Str), p), (("_houses" : Str), h)] = [(("_pipe" : Str), p), (("_houses" : Str), h), (("_kinds" : Str), k)] := by rw [putF, if_neg pn_ne.2.1, putF, if_neg pn_ne.2.2.1, putF]
theorem pp4 : putF "_streams" s [(("_pipe" : Str), p), (("_houses" : Str), h), (("_kinds" : Str), k)] = [(("_pipe" : Str), p), (("_houses" : Str), h), (("_kinds" : Str), k), (("_streams" : Str), s)] := by rw [putF, if_neg pn_ne.2.2.2.1, putF, if_neg pn_ne.2.2.2.2.1, putF, if_neg pn_ne.2.2.2.2.2.1, putF]
theorem pp5 : putF "_pools" o [(("_pipe" : Str), p), (("_houses" : Str), h), (("_kinds" : Str), k), (("_streams" : Str), s)] = planF p h k s o := by
  rw [putF, if_neg pn_ne.2.2.2.2.2.2.1, putF, if_neg pn_ne.2.2.2.2.2.2.2.1, putF, if_neg pn_ne.2.2.2.2.2.2.2.2.1, putF, if_neg pn_ne.2.2.2.2.2.2.2.2.2.1, putF]
  rfl
end
/-- a Plan of the parts B (in order), its pools O -/
def PlanAt (ex : Bool) (K : PySem.W.Frag) (C : Cs) (P : Addr → Prop) (H : Hp) (v : V) (B : Parts) : Prop := ∃ a dx vp vh vk vs vo O, v = .ref a ∧ H a = some (.ins C.Plan dx (planF vp vh vk vs vo)) ∧
  RowAt true K C H B.p.cells vp ∧ TabAt ex true K C P H B.hs.tab vh ∧ TabAt ex true K C P H B.ks.tab vk ∧ TabAt ex true K C P H B.ss.tab vs ∧ TabAt ex true K C P H O vo ∧
  O.Perm B.ptab ∧ sortedS O.names = true ∧ B.of B ∧ B.ok ∧ FxPlan K C
section
variable {K : PySem.W.Frag} {C : Cs} {P P' : Addr → Prop} {vs : List V} {H H' F G : Hp} {Q : VK} {E : XK} {ex t : Bool} {v v0 v1 v2 v3 : V} {a p : Addr} {A B : Parts} {n : Str} {fs : List (Str × V)}
theorem PlanAt.keeX (h : PlanAt ex K C P H v B) (k : KeeX K C P H H') : PlanAt ex K C P H' v B := by
  obtain ⟨a, dx, vp, vh, vk, vs, vo, O, e, h0, h1, h2, h3, h4, h5, r⟩ := h
  exact ⟨a, dx, vp, vh, vk, vs, vo, O, e, k.pl _ _ _ rfl h0, h1.kee k.toKee, h2.keeX k, h3.keeX k, h4.keeX k, h5.keeX k, r⟩
theorem PlanAt.kee (h : PlanAt false K C P H v B) (k : Kee K C P H H') : PlanAt false K C P H' v B := by
  obtain ⟨a, dx, vp, vh, vk, vs, vo, O, e, h0, h1, h2, h3, h4, h5, r⟩ := h
  exact ⟨a, dx, vp, vh, vk, vs, vo, O, e, k.pl _ _ _ rfl h0, h1.kee k, h2.kee k, h3.kee k, h4.kee k, h5.kee k, r⟩
theorem PlanAt.rd (h : PlanAt ex K C P H v B) : PlanAt false K C P H v B := by
  obtain ⟨a, dx, vp, vh, vk, vs, vo, O, e, h0, h1, h2, h3, h4, h5, r⟩ := h
  exact ⟨a, dx, vp, vh, vk, vs, vo, O, e, h0, h1, h2.rd, h3.rd, h4.rd, h5.rd, r⟩
theorem PlanAt.less (h : PlanAt ex K C P H v B) (s : ∀ a, P' a → P a) : PlanAt ex K C P' H v B := by
  obtain ⟨a, dx, vp, vh, vk, vs, vo, O, e, h0, h1, h2, h3, h4, h5, r⟩ := h
  exact ⟨a, dx, vp, vh, vk, vs, vo, O, e, h0, h1, h2.less s, h3.less s, h4.less s, h5.less s, r⟩
theorem PlanAt.same (h : PlanAt ex K C P H v B) (s : Same H H') : PlanAt ex K C P H' v B := h.keeX (KeeX.same s)
/-- an instance that is being made is written -/
theorem KeeX.init {D dx : Addr} (k : Kp p H H') (h : H p = some (.ins D dx fs)) (n1 : ∀ x : V, fs ≠ [(("_tree" : Str), x)]) (n2 : fs.length ≠ 5) : KeeX K C P H H' :=
  ⟨⟨fun a xs q => by
      rcases q with (q | ⟨o, q⟩) | q
      · exact .inl (.inl (k _ _ q (ne_of q h fun z => nomatch z)))
      · exact .inl (.inr ⟨o, k _ _ q (ne_of q h fun z => nomatch z)⟩)
      · exact .inr q, fun a d x e => k _ _ e (ne_of e h fun z => n1 x (HO.ins.inj z).2.2.symm), fun a d gs l e => k _ _ e (ne_of e h fun z => n2 ((HO.ins.inj z).2.2 ▸ l)),
    fun a ks _ e => e.elim (fun e => .inl (k _ _ e (ne_of e h fun z => nomatch z))) fun ⟨o, e⟩ => .inr ⟨o, k _ _ e (ne_of e h fun z => nomatch z)⟩⟩, fun a ks _ e => k _ _ e (ne_of e h fun z => nomatch z)⟩
theorem ArgsAt.keeX (h : ArgsAt K C P H A v0 v1 v2 v3) (k : KeeX K C P H H') : ArgsAt K C P H' A v0 v1 v2 v3 := ⟨h.pi.kee k.toKee, h.hs.keeX k, h.ks.keeX k, h.ss.keeX k⟩
theorem Old.more {T : Tab} (h : TabAt ex t K C (Old G) H T v) (s : ∀ a, F a ≠ none → G a ≠ none) : TabAt ex t K C (Old F) H T v := h.less fun a z => s a z
theorem tree_no {v x : V} {r : List (Str × V)} : (((("_pipe" : Str), v) :: r) : List (Str × V)) ≠ [(("_tree" : Str), x)] := fun e => pn_ne.2.2.2.2.2.2.2.2.2.2 (by injection e with e _; exact congrArg Prod.fst e)
def sp_Plan___init__ (K : PySem.W.Frag) (C : Cs) : Sp := fun vs H Q _ => ∃ p dx v0 v1 v2 v3 A P, vs = [.ref p, v0, v1, v2, v3] ∧ H p = some (.ins C.Plan dx []) ∧ ArgsAt K C P H A v0 v1 v2 v3 ∧ A.ok ∧ FxPlan K C ∧
  ∀ H' B, Kp p H H' → B.of A → PlanAt true K C (Old H) H' (.ref p) B → Q .non H'
def t_Plan___init__ (K : PySem.W.Frag) (C : Cs) : TS :=
  (tSeq (tDrop (tCall (sp_check_parts K C) [] E0 (tCons (tVar 1) (tCons (tVar 2) (tCons (tVar 3) (tCons (tVar 4) tNil))))))
    (tSeq (sFld K (tVar 0) (tCB (rTupleOf K) (tCons (tVar 1) tNil)) "_pipe")
    (tSeq (sFld K (tVar 0) (tCall (sp_ordered K C) [] E0 (tCons (tVar 2) tNil)) "_houses")
    (tSeq (sFld K (tVar 0) (tCall (sp_ordered K C) [] E0 (tCons (tVar 3) tNil)) "_kinds")
    (tSeq (sFld K (tVar 0) (tCall (sp_ordered K C) [] E0 (tCons (tVar 4) tNil)) "_streams")
    (sFld K (tVar 0) (tCall (sp_pools_of K C) [] E0 (tCons (tFld K (tVar 0) "_pipe") (tCons (tFld K (tVar 0) "_houses") (tCons (tFld K (tVar 0) "_kinds") (tCons (tFld K (tVar 0) "_streams") tNil))))) "_pools"))))))
theorem ln_Plan___init__ (h : sp_Plan___init__ K C vs H Q E) : vs.length = 5 := by obtain ⟨_, _, _, _, _, _, _, _, rfl, _⟩ := h; rfl
theorem rd_Plan___init__ (h : sp_Plan___init__ K C vs H Q E) : t_Plan___init__ K C (EndsOf Q) (start ["", "", "", "", ""] vs) H := by
  obtain ⟨p, dx, v0, v1, v2, v3, A, P, rfl, hp, ar, ok, fx, k⟩ := h
  obtain ⟨nd1, nd2, nd3⟩ := ok.nds
  have g6 := ok.g6
  have s6 := ok.s6
  refine ⟨_, rfl, _, rfl, _, rfl, _, rfl, v0, v1, v2, v3, A, P, rfl, ar, ok, fun H1 s1 => ?_⟩
  have a1 := ar.same s1
  have hp1 := s1 _ _ hp
  have kp1 : Kp p H H1 := Kp.of s1
  obtain ⟨b, xs, rfl, sb, cb⟩ := id a1.pi
  refine ⟨_, rfl, b, xs, rfl, .inr ⟨sb, ?_⟩⟩
  refine ⟨_, rfl, p, _, dx, _, rfl, hp1, fx.cl, fx.n1, by show 0 < 1000; decide, ?_⟩
  have e2 : (upd H1 p (.ins C.Plan dx (putF "_pipe" (.ref b) []))) p = some (.ins C.Plan dx [("_pipe", .ref b)]) := upd_same
  have k2 : Kp p H1 (upd H1 p (.ins C.Plan dx (putF "_pipe" (.ref b) []))) := kp_put
  generalize upd H1 p (.ins C.Plan dx (putF "_pipe" (.ref b) [])) = H2 at e2 k2 ⊢
  have a2 := a1.keeX (KeeX.init k2 hp1 (fun x z => (by cases z)) (by decide))
  -- the houses
  refine ⟨_, rfl, v1, A.hs.tab, P, rfl, a2.hs.rd, by rw [Grps.tab_nm]; exact nd1, by rw [Grps.len]; omega, fun q1 T1 H3 f3 s3 pm1 so1 tab1 => ?_⟩
  have hp3 := s3 _ _ e2
  refine ⟨_, rfl, p, _, dx, _, rfl, hp3, fx.cl, fx.n2, by show 1 < 1000; decide, ?_⟩
  rw [pp2]
  have e4 : (upd H3 p (.ins C.Plan dx [("_pipe", V.ref b), ("_houses", .ref q1)])) p = some (.ins C.Plan dx [("_pipe", .ref b), ("_houses", .ref q1)]) := upd_same
  have k4 : Kp p H3 (upd H3 p (.ins C.Plan dx [("_pipe", V.ref b), ("_houses", .ref q1)])) := kp_put
  generalize upd H3 p (.ins C.Plan dx [("_pipe", V.ref b), ("_houses", .ref q1)]) = H4 at e4 k4 ⊢
  have x4 : ∀ {P}, KeeX K C P H3 H4 := fun {P} => KeeX.init k4 hp3 (fun x => tree_no) (by show 1 ≠ 5; decide)
  have a4 := (a2.same s3).keeX x4
  have tab1 := tab1.keeX x4
  -- the kinds
  refine ⟨_, rfl, v2, A.ks.tab, P, rfl, a4.ks.rd, by rw [Grps.tab_nm]; exact nd2, by rw [Grps.len]; omega, fun q2 T2 H5 f5 s5 pm2 so2 tab2 => ?_⟩
  have hp5 := s5 _ _ e4
  refine ⟨_, rfl, p, _, dx, _, rfl, hp5, fx.cl, fx.n3, by show 2 < 1000; decide, ?_⟩
  rw [pp3]
  have e6 : (upd H5 p (.ins C.Plan dx [("_pipe", V.ref b), ("_houses", .ref q1), ("_kinds", .ref q2)])) p = some (.ins C.Plan dx [("_pipe", .ref b), ("_houses", .ref q1), ("_kinds", .ref q2)]) := upd_same
  have k6 : Kp p H5 (upd H5 p (.ins C.Plan dx [("_pipe", V.ref b), ("_houses", .ref q1), ("_kinds", .ref q2)])) := kp_put
  generalize upd H5 p (.ins C.Plan dx [("_pipe", V.ref b), ("_houses", .ref q1), ("_kinds", .ref q2)]) = H6 at e6 k6 ⊢
  have x6 : ∀ {P}, KeeX K C P H5 H6 := fun {P} => KeeX.init k6 hp5 (fun x => tree_no) (by show 2 ≠ 5; decide)
  have a6 := (a4.same s5).keeX x6
  have tab1 := (tab1.same s5).keeX x6
  have tab2 := tab2.keeX x6
  -- the streams
  refine ⟨_, rfl, v3, A.ss.tab, P, rfl, a6.ss.rd, by rw [Stms.tab_nm]; exact nd3, by rw [Stms.len]; omega, fun q3 T3 H7 f7 s7 pm3 so3 tab3 => ?_⟩
  have hp7 := s7 _ _ e6
  refine ⟨_, rfl, p, _, dx, _, rfl, hp7, fx.cl, fx.n4, by show 3 < 1000; decide, ?_⟩
  rw [pp4]
  have e8 : (upd H7 p (.ins C.Plan dx [("_pipe", V.ref b), ("_houses", .ref q1), ("_kinds", .ref q2), ("_streams", .ref q3)])) p = some (.ins C.Plan dx [("_pipe", .ref b), ("_houses", .ref q1), ("_kinds", .ref q2), ("_streams", .ref q3)]) := upd_same
  have k8 : Kp p H7 (upd H7 p (.ins C.Plan dx [("_pipe", V.ref b), ("_houses", .ref q1), ("_kinds", .ref q2), ("_streams", .ref q3)])) := kp_put
  generalize upd H7 p (.ins C.Plan dx [("_pipe", V.ref b), ("_houses", .ref q1), ("_kinds", .ref q2), ("_streams", .ref q3)]) = H8 at e8 k8 ⊢
  have x8 : ∀ {P}, KeeX K C P H7 H8 := fun {P} => KeeX.init k8 hp7 (fun x => tree_no) (by show 3 ≠ 5; decide)
  have a8 := (a6.same s7).keeX x8
  have tab1 := (tab1.same s7).keeX x8
  have tab2 := (tab2.same s7).keeX x8
  have tab3 := tab3.keeX x8
  -- in order
  obtain ⟨hs', ph, eh⟩ := perm_lift _ pm1 A.hs rfl
  obtain ⟨ks', pk, ek⟩ := perm_lift _ pm2 A.ks rfl
  obtain ⟨ss', ps, es⟩ := perm_lift _ pm3 A.ss rfl
  have eh : Grps.tab hs' = T1 := eh
  have ek : Grps.tab ks' = T2 := ek
  have es : Stms.tab ss' = T3 := es
  subst eh
  subst ek
  subst es
  rw [Grps.tab_nm] at so1 so2
  rw [Stms.tab_nm] at so3
  have oB : Parts.of ⟨A.p, hs', ks', ss'⟩ A := ⟨rfl, ph, pk, ps, so1, so2, so3⟩
  have okB := oB.ok ok
  have rowB : RowAt true K C H8 A.p.cells (.ref b) := a8.pi
  have arB : ArgsAt K C (fun _ => False) H8 ⟨A.p, hs', ks', ss'⟩ (.ref b) (.ref q1) (.ref q2) (.ref q3) := ⟨rowB, tab1.less fun _ z => z.elim, tab2.less fun _ z => z.elim, tab3.less fun _ z => z.elim⟩
  refine ⟨_, rfl, p, _, dx, _, _, rfl, e8, fx.cl, fx.n1, pf1, _, rfl, p, _, dx, _, _, rfl, e8, fx.cl, fx.n2, pf2, _, rfl, p, _, dx, _, _, rfl, e8, fx.cl, fx.n3, pf3, _, rfl, p, _, dx, _, _, rfl, e8, fx.cl, fx.n4, pf4, ?_⟩
  refine ⟨_, _, _, _, _, _, rfl, arB, okB, fun q4 O H9 f9 s9 pm4 so4 tab4 => ?_⟩
  have hp9 := s9 _ _ e8
  refine ⟨_, rfl, p, _, dx, _, rfl, hp9, fx.cl, fx.n5, by show 4 < 1000; decide, ?_⟩
  rw [pp5]
  have k10 : Kp p H9 (upd H9 p (.ins C.Plan dx (planF (.ref b) (.ref q1) (.ref q2) (.ref q3) (.ref q4)))) := kp_put
  have x10 : ∀ {P}, KeeX K C P H9 (upd H9 p (.ins C.Plan dx (planF (.ref b) (.ref q1) (.ref q2) (.ref q3) (.ref q4)))) := fun {P} => KeeX.init k10 hp9 (fun x => tree_no) (by show 4 ≠ 5; decide)
  have m1 : ∀ c, H c ≠ none → H1 c ≠ none := fun c z e => by cases q : H c with | none => exact z q | some o => rw [s1 _ _ q] at e; cases e
  have up : ∀ {F G : Hp}, Kp p F G → G p ≠ none → ∀ c, F c ≠ none → G c ≠ none := fun {F G} kk gp c z e => by
    by_cases h : c = p
    · rw [h] at e; exact gp e
    · cases q : F c with
      | none => exact z q
      | some o => rw [kk _ _ q h] at e; cases e
  have sm : ∀ {F G : Hp}, Same F G → ∀ c, F c ≠ none → G c ≠ none := fun {F G} ss c z e => by cases q : F c with | none => exact z q | some o => rw [ss _ _ q] at e; cases e
  have m2 : ∀ c, H c ≠ none → H2 c ≠ none := fun c z => up k2 (by rw [e2]; exact fun z => nomatch z) c (m1 c z)
  have m4 : ∀ c, H c ≠ none → H4 c ≠ none := fun c z => up k4 (by rw [e4]; exact fun z => nomatch z) c (sm s3 c (m2 c z))
  have m6 : ∀ c, H c ≠ none → H6 c ≠ none := fun c z => up k6 (by rw [e6]; exact fun z => nomatch z) c (sm s5 c (m4 c z))
  have m8 : ∀ c, H c ≠ none → H8 c ≠ none := fun c z => up k8 (by rw [e8]; exact fun z => nomatch z) c (sm s7 c (m6 c z))
  refine k _ ⟨A.p, hs', ks', ss'⟩ ?_ oB ⟨p, dx, _, _, _, _, _, O, rfl, upd_same, (rowB.kee (P := fun _ => True) (Kee.same s9)).kee (P := fun _ => True) x10.toKee, Old.more ((tab1.same s9).keeX x10) m2, Old.more ((tab2.same s9).keeX x10) m4, Old.more ((tab3.same s9).keeX x10) m6, Old.more (tab4.keeX x10) m8,
    pm4, so4, ⟨rfl, List.Perm.refl _, List.Perm.refl _, List.Perm.refl _, so1, so2, so3⟩, okB, fx⟩
  exact kp1.trans (k2.trans ((Kp.of s3).trans (k4.trans ((Kp.of s5).trans (k6.trans ((Kp.of s7).trans (k8.trans ((Kp.of s9).trans k10))))))))
end
end Pk
set_option Elab.async false
set_option linter.all false
set_option maxRecDepth 100000
set_option maxHeartbeats 2000000
namespace Pk
open PySem PySem.Spec L2 PyProof.Rows
/-! ### groups over groups -/
inductive Chain (G : Grps) : Option Str → List Str → Prop where
  | nil : Chain G none []
  | cons {n : Str} {g : GrpR} {l : List Str} (m : (n, g) ∈ G) (k : Chain G g.ar l) : Chain G (some n) (n :: l)
theorem Grps.uniq {G : Grps} {n : Str} {g g' : GrpR} (nd : G.nm.Nodup) (h : (n, g) ∈ G) (h' : (n, g') ∈ G) : g = g' := by
  induction G with
  | nil => cases h
  | cons r G ih =>
    have nd : r.1 ∉ G.map (·.1) ∧ (G.map (·.1)).Nodup := List.nodup_cons.mp nd
    rcases List.mem_cons.mp h with e | h
    · rcases List.mem_cons.mp h' with e' | h'
      · exact (Prod.mk.inj (e.trans e'.symm)).2
      · exact absurd (List.mem_map.mpr ⟨_, h', by rw [← e]⟩) nd.1
    · rcases List.mem_cons.mp h' with e' | h'
      · exact absurd (List.mem_map.mpr ⟨_, h, by rw [← e']⟩) nd.1
      · exact ih nd.2 h h'
theorem Stms.uniq {G : Stms} {n : Str} {g g' : StmR} (nd : G.nm.Nodup) (h : (n, g) ∈ G) (h' : (n, g') ∈ G) : g = g' := by
  induction G with
  | nil => cases h
  | cons r G ih =>
    have nd : r.1 ∉ G.map (·.1) ∧ (G.map (·.1)).Nodup := List.nodup_cons.mp nd
    rcases List.mem_cons.mp h with e | h
    · rcases List.mem_cons.mp h' with e' | h'
      · exact (Prod.mk.inj (e.trans e'.symm)).2
      · exact absurd (List.mem_map.mpr ⟨_, h', by rw [← e]⟩) nd.1
    · rcases List.mem_cons.mp h' with e' | h'
      · exact absurd (List.mem_map.mpr ⟨_, h, by rw [← e']⟩) nd.1
      · exact ih nd.2 h h'
theorem Chain.one {G : Grps} (nd : G.nm.Nodup) {o : Option Str} {l : List Str} (h : Chain G o l) : ∀ {l' : List Str}, Chain G o l' → l = l' := by
  induction h with
  | nil => intro l' h'; cases h'; rfl
  | cons m k ih =>
    intro l' h'
    cases h' with
    | cons m' k' =>
      have e := Grps.uniq nd m m'
      subst e
      rw [ih k']
theorem Chain.perm {G G' : Grps} (p : G.Perm G') {o : Option Str} {l : List Str} (h : Chain G o l) : Chain G' o l := by
  induction h with
  | nil => exact .nil
  | cons m _ ih => exact .cons (p.mem_iff.mp m) ih
/-- the pools over a stream -/
def Parts.Over (B : Parts) (n : Str) (L : List Str) : Prop := ∃ g l1 l2, (n, g) ∈ B.ss ∧ Chain B.hs g.h l1 ∧ Chain B.ks g.k l2 ∧ L = n :: (l1 ++ (l2 ++ [("pipe" : Str)]))
theorem Parts.Over.one {B : Parts} (ok : B.ok) {n : Str} {L L' : List Str} (h : B.Over n L) (h' : B.Over n L') : L = L' := by
  obtain ⟨nd1, nd2, nd3⟩ := ok.nds
  obtain ⟨g, l1, l2, m, c1, c2, rfl⟩ := h
  obtain ⟨g', l1', l2', m', c1', c2', rfl⟩ := h'
  have e := Stms.uniq nd3 m m'
  subst e
  rw [c1.one nd1 c1', c2.one nd2 c2']
theorem Parts.Over.of {A B : Parts} (o : B.of A) {n : Str} {L : List Str} (h : B.Over n L) : A.Over n L := by
  obtain ⟨g, l1, l2, m, c1, c2, e⟩ := h
  exact ⟨g, l1, l2, o.ss.mem_iff.mp m, c1.perm o.hs, c2.perm o.ks, e⟩
/-- all pools' names -/
def Parts.nm (B : Parts) : List Str := ("pipe" : Str) :: (B.hs.nm ++ B.ks.nm ++ B.ss.nm)
theorem pipe_nm : isNm "pipe" = true := by decide +kernel
theorem Parts.ok.names {B : Parts} (ok : B.ok) : ∀ n ∈ B.nm, isNm n = true := by
  intro n hn
  rcases List.mem_cons.mp hn with rfl | hn
  · exact pipe_nm
  rcases List.mem_append.mp hn with hn | hn
  · rcases List.mem_append.mp hn with hn | hn
    · obtain ⟨g, hg⟩ := Grps.mem hn
      exact (ok.hs.nm _ hg).1
    · obtain ⟨g, hg⟩ := Grps.mem hn
      exact (ok.ks.nm _ hg).1
  · obtain ⟨g, hg⟩ := Stms.mem hn
    exact (ok.ss _ hg).1
section
variable {K : PySem.W.Frag} {C : Cs} {P P' : Addr → Prop} {vs : List V} {H H' F G : Hp} {Q : VK} {E : XK} {ex t : Bool} {v v0 v1 v2 v3 x : V} {a p : Addr} {A B : Parts} {n : Str} {fs : List (Str × V)}
def sp_outward (K : PySem.W.Frag) (C : Cs) : Sp := fun vs H Q _ => ∃ o v G P, vs = [oV o, v] ∧ TabAt false true K C P H (Grps.tab G) v ∧ G.ok ∧ G.nm.Nodup ∧ (∀ n, o = some n → n ∈ G.nm) ∧ ∀ p l H', H p = none → Same H H' → Chain G o l → H' p = some (.lst (l.map V.str)) → l.length ≤ 101 → Q (.ref p) H'
def t_outward (K : PySem.W.Frag) : TS :=
  (tSeq (tAsg (tLst tNil) (gName 2))
    (tSeq (tWhile (tTest (tOp (rNotNn) (tVar 0) (tC .non))) (tSeq (tDrop (tBM K "list" rAppend (tVar 2) (tCons (tVar 0) tNil)))
    (tAsg (tOp (rIx K) (tDGet (tVar 1) (tVar 0)) (tC (.int 3))) (gName 0))))
    (tRet (tVar 2))))
theorem ln_outward (h : sp_outward K C vs H Q E) : vs.length = 2 := by obtain ⟨_, _, _, _, rfl, _⟩ := h; rfl
theorem rd_outward (h : sp_outward K C vs H Q E) : t_outward K (EndsOf Q) (start ["", "", ""] vs) H := by
  obtain ⟨o, v, GG, P, rfl, ht, ok, nd, ho, k⟩ := h
  obtain ⟨h, hb, hh⟩ := ok.ar
  obtain ⟨d, e, _⟩ := id ht.dget
  subst e
  refine ⟨Nat.zero_le _, fun p hp => ?_⟩
  have s0 := same_new (o := .lst []) hp
  refine ⟨fun m σ' F => ∃ (o' : Option Str) (dn : List Str), σ' = [some (oV o'), some (.ref d), some (.ref p)] ∧ F p = some (.lst (dn.map V.str)) ∧ Same H F ∧ (∀ l, Chain GG o' l → Chain GG o (dn ++ l)) ∧ (∀ n, o' = some n → n ∈ GG.nm) ∧ dn.length + m ≤ 101 ∧ m = (match o' with | none => 0 | some n => h n + 1),
    ⟨_, o, [], rfl, upd_same, s0, fun l c => c, ho, ?_, rfl⟩, ?_⟩
  · show 0 + _ ≤ 101
    cases o with
    | none => show 0 + 0 ≤ 101; decide
    | some n => have := hb n; show 0 + (h n + 1) ≤ 101; omega
  rintro m σ' F ⟨o', dn, rfl, hz, sF, ch, ho', le, em⟩
  refine ⟨_, rfl, rfl, _, rfl, ?_⟩
  cases o' with
  | none =>
    refine iteF' (by rw [decide_eq_true (show oV none = V.non from rfl)]; rfl) ?_
    have c := ch [] .nil
    rw [List.append_nil] at c
    exact ⟨_, rfl, k p dn F hp sF c hz (by omega)⟩
  | some n =>
    refine iteT' (by rw [decide_eq_false (show ¬ oV (some n) = V.non from by intro z; cases z)]; rfl) ?_
    have em : m = h n + 1 := em
    obtain ⟨g, hg⟩ := Grps.mem (ho' n rfl)
    refine ⟨fun σ2 F2 => ∃ (o2 : Option Str), σ2 = [some (oV o2), some (.ref d), some (.ref p)] ∧ F2 p = some (.lst ((dn ++ [n]).map V.str)) ∧ Same H F2 ∧ o2 = g.ar, fun σ2 F2 ⟨o2, a1, a2, a3, a4⟩ => ?_, ?_⟩
    · subst a4
      have q := hh _ hg
      refine ⟨_, ?_, g.ar, dn ++ [n], a1, a2, a3, fun l c => ?_, fun n2 e => (q n2 e).1, ?_, rfl⟩
      · cases e : g.ar with
        | none => show 0 < m; omega
        | some n2 => have : h n2 < h n := (q n2 e).2; show h n2 + 1 < m; omega
      · rw [List.append_assoc]
        exact ch _ (.cons hg c)
      · rw [List.length_append, List.length_singleton]
        cases e : g.ar with
        | none => show dn.length + 1 + 0 ≤ 101; omega
        | some n2 => have : h n2 < h n := (q n2 e).2; show dn.length + 1 + (h n2 + 1) ≤ 101; omega
    · refine ⟨_, rfl, .inl ⟨rfl, _, SqL.of hz⟩, _, rfl, p, _, _, rfl, rfl, hz, small1000 (by rw [List.length_map]; omega), ?_⟩
      have s1 : Same H (upd F p (.lst (dn.map V.str ++ [V.str n]))) := fun c u e => by rw [upd_ne (ne_of_none e hp)]; exact sF _ _ e
      obtain ⟨d', x, e', dg, row⟩ := Grps.look (ht.kee (Kee.same s1)) nd hg
      cases e'
      obtain ⟨b, r, rfl, s, _⟩ := GrpR.at row
      refine ⟨_, rfl, _, rfl, d, _, rfl, dg, .inr (.inl ⟨b, _, 3, _, rfl, rfl, s, rfl, ?_⟩)⟩
      exact ⟨g.ar, rfl, by rw [upd_same, List.map_append]; rfl, s1, rfl⟩
/-! ### what is refused -/
structure FxUn (K : PySem.W.Frag) (C : Cs) : Prop where
  ox : OexC K C.Unknown
  nf : PySem.W.findIn K (.ref C.Unknown) "name" = some none
  em : PySem.W.exmOne K (.ref C.Unknown) (.ref C.PipeError) = some true
def LetsU (C : Cs) (x : V) (H : Hp) (E : XK) : Prop := ∀ d H', H d = none → Same H H' → H' d = some (.xd [("name", x)]) → E (.ref C.Unknown) (some d) H'
theorem LetsU.same (h : LetsU C x H E) (s : Same H G) : LetsU C x G E := fun d H' hd s2 e => h d H' (s.free hd) (s.trans s2) e
/-- no name of these -/
def NotNm (K : PySem.W.Frag) (H : Hp) (x : V) (ns : List Str) : Prop := NoStr K H x ∨ ∃ z : Str, x = .str z ∧ z.length ≤ 100 ∧ z ∉ ns
def sp_Plan__rowX (K : PySem.W.Frag) (C : Cs) : Sp := fun vs H Q E => ∃ o x B P, vs = [o, x] ∧ PlanAt false K C P H o B ∧ FxUn K C ∧
  ((∃ n g, x = .str n ∧ (n, g) ∈ B.ss ∧ ∀ w H', Same H H' → RowAt true K C H' g.cells w → Q w H') ∨ (NotNm K H x B.ss.nm ∧ LetsU C x H E))
def t_Plan__rowX (K : PySem.W.Frag) (C : Cs) (E : XK) : TS :=
  (tSeq (tIfS (tOr (tNot (tB (tCall (sp_is_name K) [] E0 (tCons (tVar 1) tNil)))) (tB (tDNotIn (tVar 1) (tFld K (tVar 0) "_streams")))) (tRaise C.Unknown (rOneI K C.Unknown "name") (tCons (tVar 1) tNil) E) tNext)
    (tRet (tDGet (tFld K (tVar 0) "_streams") (tVar 1))))
def t_Unknown___init__ (K : PySem.W.Frag) : TS :=
  (tOst K "name" (tVar 0) (tVar 1))
theorem ln_Unknown___init__ (h : rOneI K C.Unknown "name" vs H Q E) : vs.length = 2 := by obtain ⟨_, _, rfl, _⟩ := h; rfl
theorem rd_Unknown___init__ (h : rOneI K C.Unknown "name" vs H Q E) : t_Unknown___init__ K (EndsOf Q) (start ["", ""] vs) H := by
  obtain ⟨a, y, rfl, ox, nf, ha, k⟩ := h
  exact ⟨_, rfl, _, rfl, a, _, rfl, ox, nf, .inl ⟨ha, k⟩⟩
theorem ln_Plan__rowX (h : sp_Plan__rowX K C vs H Q E) : vs.length = 2 := by obtain ⟨_, _, _, _, rfl, _⟩ := h; rfl
theorem rd_Plan__rowX (h : sp_Plan__rowX K C vs H Q E) : t_Plan__rowX K C E (EndsOf Q) (start ["", ""] vs) H := by
  obtain ⟨o, x, B, P, rfl, ⟨a, dx, vp, vh, vk, vss, vo, O, rfl, h0, h1, h2, h3, h4, h5, pm, so, oo, ok, fx⟩, fu, cs⟩ := h
  obtain ⟨nd1, nd2, nd3⟩ := ok.nds
  have lk : List.lookup ("_streams" : Str) (planF vp vh vk vss vo) = some vss := pf4
  have raise : ∀ {G : Hp}, LetsU C x G E → tRaise C.Unknown (rOneI K C.Unknown "name") (tCons (tVar 1) tNil) E (EndsOf Q) [some (.ref a), some x] G := fun k => ⟨_, rfl, made_err fu.ox fu.nf k⟩
  rcases cs with ⟨n, g, rfl, hm, k⟩ | ⟨nt | ⟨z, rfl, few, nm⟩, kE⟩
  · have nm := isNm_len (ok.ss _ hm).1
    refine ⟨_, rfl, _, rfl, .inl ⟨n, rfl, by have : n.length ≤ 8 := nm.2; omega, fun H1 s1 => ⟨_, rfl, ?_⟩⟩⟩
    rw [(ok.ss _ hm).1]
    refine iteF' rfl ?_
    obtain ⟨d, w, rfl, dg, row⟩ := Stms.look (h4.kee (Kee.same s1)) nd3 hm
    refine ⟨_, rfl, _, rfl, a, _, dx, _, _, rfl, s1 _ _ h0, fx.cl, fx.n4, lk, d, some w, rfl, dg, false, rfl, iteF' rfl ?_⟩
    exact ⟨_, rfl, a, _, dx, _, _, rfl, s1 _ _ h0, fx.cl, fx.n4, lk, _, rfl, d, w, rfl, dg, k w H1 s1 row⟩
  · skip
    exact ⟨_, rfl, _, rfl, .inr ⟨nt, false, rfl, iteT' rfl (raise kE)⟩⟩
  · refine ⟨_, rfl, _, rfl, .inl ⟨z, rfl, few, fun H1 s1 => ⟨_, rfl, ?_⟩⟩⟩
    cases hz : isNm z with
    | false => exact iteT' rfl (raise (kE.same s1))
    | true =>
      refine iteF' rfl ?_
      obtain ⟨d, rfl, _, g2⟩ := (h4.kee (Kee.same s1)).dget
      have dg := g2 z (Tab.get_none.mpr (by rw [Stms.tab_nm]; exact nm))
      exact ⟨_, rfl, _, rfl, a, _, dx, _, _, rfl, s1 _ _ h0, fx.cl, fx.n4, lk, d, none, rfl, dg, true, rfl, iteT' rfl (raise (kE.same s1))⟩
/-! ### most, guide, in, [] -/
def sp_Plan_mostX (K : PySem.W.Frag) (C : Cs) : Sp := fun vs H Q E => ∃ o x B P, vs = [o, x] ∧ PlanAt false K C P H o B ∧ FxUn K C ∧ ((∃ n g, x = .str n ∧ (n, g) ∈ B.ss ∧ ∀ H', Same H H' → Q (oI g.mo) H') ∨ (NotNm K H x B.ss.nm ∧ LetsU C x H E))
def sp_Plan_guideX (K : PySem.W.Frag) (C : Cs) : Sp := fun vs H Q E => ∃ o x B P, vs = [o, x] ∧ PlanAt false K C P H o B ∧ FxUn K C ∧ ((∃ n g, x = .str n ∧ (n, g) ∈ B.ss ∧ ∀ H', Same H H' → Q (oV g.g) H') ∨ (NotNm K H x B.ss.nm ∧ LetsU C x H E))
def t_Plan_mostX (K : PySem.W.Frag) (C : Cs) (E : XK) : TS :=
  (tRet (tOp (rIx K) (tMeth C.Plan "_row" (sp_Plan__rowX K C) [] E (tVar 0) (tCons (tVar 1) tNil)) (tC (.int 2))))
def t_Plan_guideX (K : PySem.W.Frag) (C : Cs) (E : XK) : TS :=
  (tRet (tOp (rIx K) (tMeth C.Plan "_row" (sp_Plan__rowX K C) [] E (tVar 0) (tCons (tVar 1) tNil)) (tC (.int 5))))
theorem ln_Plan_mostX (h : sp_Plan_mostX K C vs H Q E) : vs.length = 2 := by obtain ⟨_, _, _, _, rfl, _⟩ := h; rfl
theorem ln_Plan_guideX (h : sp_Plan_guideX K C vs H Q E) : vs.length = 2 := by obtain ⟨_, _, _, _, rfl, _⟩ := h; rfl
theorem PlanAt.ins (h : PlanAt ex K C P H v B) : ∃ a dx vp vh vk vs vo, v = .ref a ∧ H a = some (.ins C.Plan dx (planF vp vh vk vs vo)) ∧ FxPlan K C := by
  obtain ⟨a, dx, vp, vh, vk, vs, vo, O, e, h0, h1, h2, h3, h4, h5, _, _, _, _, fx⟩ := h
  exact ⟨a, dx, vp, vh, vk, vs, vo, e, h0, fx⟩
theorem pl_no {f : Str} {p h k s o : V} (h1 : (f == ("_pipe" : Str)) = false := by decide +kernel) (h2 : (f == ("_houses" : Str)) = false := by decide +kernel) (h3 : (f == ("_kinds" : Str)) = false := by decide +kernel) (h4 : (f == ("_streams" : Str)) = false := by decide +kernel)
    (h5 : (f == ("_pools" : Str)) = false := by decide +kernel) : List.lookup f (planF p h k s o) = none := by
  unfold planF
  rw [List.lookup, h1, List.lookup, h2, List.lookup, h3, List.lookup, h4, List.lookup, h5, List.lookup]
theorem rd_Plan_mostX (h : sp_Plan_mostX K C vs H Q E) : t_Plan_mostX K C E (EndsOf Q) (start ["", ""] vs) H := by
  obtain ⟨o, x, B, P, rfl, pl, fu, cs⟩ := h
  obtain ⟨a, dx, vp, vh, vk, vss, vo, rfl, h0, fx⟩ := pl.ins
  refine ⟨_, rfl, a, dx, _, rfl, h0, pl_no, _, rfl, _, x, B, P, rfl, pl, fu, ?_⟩
  rcases cs with ⟨n, g, rfl, hm, k⟩ | ⟨nm, kE⟩
  · refine .inl ⟨n, g, rfl, hm, fun w H1 s1 row => ?_⟩
    obtain ⟨b, r, rfl, s, _⟩ := StmR.at row
    exact .inr (.inl ⟨b, _, 2, _, rfl, rfl, s, rfl, k H1 s1⟩)
  · exact .inr ⟨nm, kE⟩
theorem rd_Plan_guideX (h : sp_Plan_guideX K C vs H Q E) : t_Plan_guideX K C E (EndsOf Q) (start ["", ""] vs) H := by
  obtain ⟨o, x, B, P, rfl, pl, fu, cs⟩ := h
  obtain ⟨a, dx, vp, vh, vk, vss, vo, rfl, h0, fx⟩ := pl.ins
  refine ⟨_, rfl, a, dx, _, rfl, h0, pl_no, _, rfl, _, x, B, P, rfl, pl, fu, ?_⟩
  rcases cs with ⟨n, g, rfl, hm, k⟩ | ⟨nm, kE⟩
  · refine .inl ⟨n, g, rfl, hm, fun w H1 s1 row => ?_⟩
    obtain ⟨b, r, rfl, s, _⟩ := StmR.at row
    exact .inr (.inl ⟨b, _, 5, _, rfl, rfl, s, rfl, k H1 s1⟩)
  · exact .inr ⟨nm, kE⟩
def sp_Plan___contains__ (K : PySem.W.Frag) (C : Cs) : Sp := fun vs H Q _ => ∃ o x B P, vs = [o, x] ∧ PlanAt false K C P H o B ∧ ((∃ n, x = .str n ∧ n ∈ B.nm ∧ ∀ H', Same H H' → Q (.bl true) H') ∨ (NotNm K H x B.nm ∧ ∀ H', Same H H' → Q (.bl false) H'))
def t_Plan___contains__ (K : PySem.W.Frag) : TS :=
  (tRet (tAndV (tCall (sp_is_name K) [] E0 (tCons (tVar 1) tNil)) (tDIn (tVar 1) (tFld K (tVar 0) "_pools"))))
theorem ln_Plan___contains__ (h : sp_Plan___contains__ K C vs H Q E) : vs.length = 2 := by obtain ⟨_, _, _, _, rfl, _⟩ := h; rfl
theorem rd_Plan___contains__ (h : sp_Plan___contains__ K C vs H Q E) : t_Plan___contains__ K (EndsOf Q) (start ["", ""] vs) H := by
  obtain ⟨o, x, B, P, rfl, ⟨a, dx, vp, vh, vk, vss, vo, O, rfl, h0, h1, h2, h3, h4, h5, pm, so, oo, ok, fx⟩, cs⟩ := h
  have pn : O.names.Perm B.nm := by
    have q : O.names.Perm B.ptab.names := pm.map _
    rwa [B.ptab_nm] at q
  rcases cs with ⟨n, rfl, hn, k⟩ | ⟨nt | ⟨z, rfl, few, nm⟩, k⟩
  · have nm := ok.names n hn
    have l8 := isNm_len nm
    refine ⟨_, rfl, _, rfl, .inl ⟨n, rfl, by have : n.length ≤ 8 := l8.2; omega, fun H1 s1 => ⟨_, rfl, ?_⟩⟩⟩
    rw [nm]
    refine iteT' rfl ?_
    obtain ⟨d, rfl, g1, _⟩ := (h5.kee (Kee.same s1)).dget
    cases e : O.get n with
    | none => exact absurd (pn.mem_iff.mpr hn) (Tab.get_none.mp e)
    | some cs =>
      obtain ⟨w, dg, _⟩ := g1 n cs e
      exact ⟨_, rfl, _, rfl, a, _, dx, _, _, rfl, s1 _ _ h0, fx.cl, fx.n5, pf5, d, some w, rfl, dg, k H1 s1⟩
  · skip
    exact ⟨_, rfl, _, rfl, .inr ⟨nt, false, rfl, iteF' rfl (k H (Same.refl H))⟩⟩
  · refine ⟨_, rfl, _, rfl, .inl ⟨z, rfl, few, fun H1 s1 => ⟨_, rfl, ?_⟩⟩⟩
    cases hz : isNm z with
    | false => exact iteF' rfl (k H1 s1)
    | true =>
      refine iteT' rfl ?_
      obtain ⟨d, rfl, _, g2⟩ := (h5.kee (Kee.same s1)).dget
      have dg := g2 z (Tab.get_none.mpr fun m => nm (pn.mem_iff.mp m))
      exact ⟨_, rfl, _, rfl, a, _, dx, _, _, rfl, s1 _ _ h0, fx.cl, fx.n5, pf5, d, none, rfl, dg, k H1 s1⟩
def sp_Plan___getitem__X (K : PySem.W.Frag) (C : Cs) : Sp := fun vs H Q E => ∃ o x B P, vs = [o, x] ∧ PlanAt false K C P H o B ∧ FxUn K C ∧
  ((∃ n cs, x = .str n ∧ (n, cs) ∈ B.ptab ∧ ∀ w H', Same H H' → RowAt true K C H' cs w → Q w H') ∨ (NotNm K H x B.nm ∧ LetsU C x H E))
def t_Plan___getitem__X (K : PySem.W.Frag) (C : Cs) (E : XK) : TS :=
  (tSeq (tIfS (tTest (tOp (rNotInOwn C.Plan (sp_Plan___contains__ K C) E0) (tVar 1) (tVar 0))) (tRaise C.Unknown (rOneI K C.Unknown "name") (tCons (tVar 1) tNil) E) tNext)
    (tRet (tDGet (tFld K (tVar 0) "_pools") (tVar 1))))
theorem ln_Plan___getitem__X (h : sp_Plan___getitem__X K C vs H Q E) : vs.length = 2 := by obtain ⟨_, _, _, _, rfl, _⟩ := h; rfl
theorem rd_Plan___getitem__X (h : sp_Plan___getitem__X K C vs H Q E) : t_Plan___getitem__X K C E (EndsOf Q) (start ["", ""] vs) H := by
  obtain ⟨o, x, B, P, rfl, pl, fu, cs⟩ := h
  obtain ⟨a, dx, vp, vh, vk, vss, vo, O, rfl, h0, h1, h2, h3, h4, h5, pm, so, oo, ok, fx⟩ := id pl
  rcases cs with ⟨n, cs, rfl, hm, k⟩ | ⟨nm, kE⟩
  · have hn : n ∈ B.nm := by
      show n ∈ ("pipe" : Str) :: (B.hs.nm ++ B.ks.nm ++ B.ss.nm)
      rw [← B.ptab_nm]
      exact List.mem_map.mpr ⟨_, hm, rfl⟩
    refine ⟨_, rfl, _, rfl, a, dx, _, rfl, h0, _, _, B, P, rfl, pl, .inl ⟨n, rfl, hn, fun H1 s1 => ⟨true, rfl, _, rfl, iteF' rfl ?_⟩⟩⟩
    have nd : O.names.Nodup := by
      have q : O.names.Perm B.ptab.names := pm.map _
      rw [q.nodup_iff, B.ptab_nm]
      exact ok.nd
    obtain ⟨d, rfl, g1, _⟩ := (h5.kee (Kee.same s1)).dget
    obtain ⟨w, dg, row⟩ := g1 n cs (Tab.get_of nd (pm.mem_iff.mpr hm))
    exact ⟨_, rfl, a, _, dx, _, _, rfl, s1 _ _ h0, fx.cl, fx.n5, pf5, _, rfl, d, w, rfl, dg, k w H1 s1 row⟩
  · refine ⟨_, rfl, _, rfl, a, dx, _, rfl, h0, _, _, B, P, rfl, pl, .inr ⟨nm, fun H1 s1 => ⟨false, rfl, _, rfl, iteT' rfl ?_⟩⟩⟩
    exact ⟨_, rfl, made_err fu.ox fu.nf (kE.same s1)⟩
end
end Pk
set_option Elab.async false
set_option linter.all false
set_option maxRecDepth 100000
set_option maxHeartbeats 2000000
namespace Pk
open PySem PySem.Spec L2 PyProof.Rows
theorem Chain.exists {G : Grps} (ok : G.ok) : ∀ o : Option Str, (∀ n, o = some n → n ∈ G.nm) → ∃ l, Chain G o l := by
  obtain ⟨h, _, hh⟩ := ok.ar
  have go : ∀ m : Nat, ∀ n, h n < m → n ∈ G.nm → ∃ l, Chain G (some n) l := by
    intro m
    induction m with
    | zero => exact fun n z => absurd z (Nat.not_lt_zero _)
    | succ m ih =>
      intro n lt hn
      obtain ⟨g, hg⟩ := Grps.mem hn
      cases e : g.ar with
      | none => exact ⟨[n], .cons hg (by rw [e]; exact .nil)⟩
      | some n2 =>
        have q : n2 ∈ G.nm ∧ h n2 < h n := hh _ hg n2 e
        obtain ⟨l, hl⟩ := ih n2 (by omega) q.1
        exact ⟨n :: l, .cons hg (by rw [e]; exact hl)⟩
  intro o ho
  cases o with
  | none => exact ⟨[], .nil⟩
  | some n => exact go _ n (Nat.lt_succ_self _) (ho n rfl)
theorem Parts.ok.overs {B : Parts} (ok : B.ok) : ∃ L : Str → List Str, ∀ s ∈ B.ss.nm, B.Over s (L s) := by
  have one : ∀ s, ∃ l, s ∈ B.ss.nm → B.Over s l := by
    intro s
    by_cases hs : s ∈ B.ss.nm
    · obtain ⟨g, hg⟩ := Stms.mem hs
      obtain ⟨_, _, i3, i4, _⟩ := ok.ss _ hg
      obtain ⟨l1, c1⟩ := Chain.exists ok.hs g.h i3
      obtain ⟨l2, c2⟩ := Chain.exists ok.ks g.k i4
      exact ⟨_, fun _ => ⟨g, l1, l2, hg, c1, c2, rfl⟩⟩
    · exact ⟨[], fun z => absurd z hs⟩
  exact ⟨fun s => Classical.choose (one s), fun s hs => Classical.choose_spec (one s) hs⟩
theorem if_in {b : Bool} {A B : Prop} (h1 : b = true → A) (h2 : ¬ b = true → B) : if (if false = true then !b else b) = true then A else B := by
  cases b
  · exact h2 (by decide)
  · exact h1 rfl
theorem inV_strs {n : Str} : ∀ {L : List Str}, inV (V.str n) (L.map V.str) = decide (n ∈ L)
  | [] => rfl
  | z :: L => by
    show ((z == n) || inV (V.str n) (L.map V.str)) = _
    rw [inV_strs]
    by_cases h : n = z
    · rw [h, decide_eq_true (List.mem_cons_self ..)]; simp
    · rw [beq_eq_false_iff_ne.mpr fun e => h e.symm, Bool.false_or]
      by_cases g : n ∈ L
      · rw [decide_eq_true g, decide_eq_true (List.mem_cons_of_mem _ g)]
      · rw [decide_eq_false g, decide_eq_false fun m => (List.mem_cons.mp m).elim h g]
theorem range_get {α β : Type} (ys : List α) (h : α → Option β) : (List.range ys.length).filterMap (fun r => (ys[r]?).bind h) = ys.filterMap h := by
  have go : ∀ k, k ≤ ys.length → (List.range k).filterMap (fun r => (ys[r]?).bind h) = (ys.take k).filterMap h := by
    intro k
    induction k with
    | zero => intro _; rfl
    | succ k ih =>
      intro le
      rw [taken, ih (by omega), List.take_add_one, List.filterMap_append]
      have e : ys[k]? = some ys[k] := List.getElem?_eq_getElem (by omega)
      rw [e]
      cases q : h ys[k] <;> simp [q]
  rw [go _ (Nat.le_refl _), List.take_length]
theorem keep_strs {p : Str → Bool} : ∀ ys : List Str, ys.filterMap (fun s => if p s = true then some (V.str s) else none) = (ys.filter p).map V.str
  | [] => rfl
  | y :: ys => by
    rw [List.filterMap_cons, List.filter_cons]
    cases h : p y with
    | true => simp [keep_strs ys]
    | false => simp [keep_strs ys]
section
variable {K : PySem.W.Frag} {C : Cs} {P P' : Addr → Prop} {vs : List V} {H H' F G : Hp} {Q : VK} {E : XK} {ex t : Bool} {v v0 v1 v2 v3 x : V} {a p : Addr} {A B : Parts} {n : Str} {fs : List (Str × V)}
def sp_Plan_overX (K : PySem.W.Frag) (C : Cs) : Sp := fun vs H Q E => ∃ o x B P, vs = [o, x] ∧ PlanAt false K C P H o B ∧ FxUn K C ∧
  ((∃ n, x = .str n ∧ n ∈ B.ss.nm ∧ ∀ p L H', H p = none → Same H H' → B.Over n L → H' p = some (.lst (L.map V.str)) → L.length ≤ 300 → Q (.ref p) H') ∨ (NotNm K H x B.ss.nm ∧ LetsU C x H E))
def t_Plan_overX (K : PySem.W.Frag) (C : Cs) (E : XK) : TS :=
  (tSeq (tAsg (tMeth C.Plan "_row" (sp_Plan__rowX K C) [] E (tVar 0) (tCons (tVar 1) tNil)) (gName 2))
    (tRet (tOp (rAddU K) (tOp (rAddU K) (tOp (rAddU K) (tLst (tCons (tVar 1) tNil)) (tCall (sp_outward K C) [] E0 (tCons (tOp (rIx K) (tVar 2) (tC (.int 3))) (tCons (tFld K (tVar 0) "_houses") tNil)))) (tCall (sp_outward K C) [] E0 (tCons (tOp (rIx K) (tVar 2) (tC (.int 4))) (tCons (tFld K (tVar 0) "_kinds") tNil)))) (tLst (tCons (tC (.str "pipe")) tNil)))))
theorem ln_Plan_overX (h : sp_Plan_overX K C vs H Q E) : vs.length = 2 := by obtain ⟨_, _, _, _, rfl, _⟩ := h; rfl
theorem rd_Plan_overX (h : sp_Plan_overX K C vs H Q E) : t_Plan_overX K C E (EndsOf Q) (start ["", "", ""] vs) H := by
  obtain ⟨o, x, B, P, rfl, pl, fu, cs⟩ := h
  obtain ⟨a, dx, vp, vh, vk, vss, vo, O, rfl, h0, h1, h2, h3, h4, h5, pm, so, oo, ok, fx⟩ := id pl
  obtain ⟨nd1, nd2, nd3⟩ := ok.nds
  rcases cs with ⟨n, rfl, hn, k⟩ | ⟨nm, kE⟩
  · obtain ⟨g, hm⟩ := Stms.mem hn
    obtain ⟨_, _, i3, i4, _⟩ := ok.ss _ hm
    refine ⟨_, rfl, a, dx, _, rfl, h0, pl_no, _, rfl, _, _, B, P, rfl, pl, fu, .inl ⟨n, g, rfl, hm, fun w H1 s1 row => ?_⟩⟩
    obtain ⟨b, r, rfl, s, _⟩ := StmR.at row
    dsimp only [gName]
    refine ⟨_, rfl, two_fit.1, fun p1 f1 => ?_⟩
    have j1 := same_new (o := .lst [V.str n]) f1
    have e1 : (upd H1 p1 (.lst [V.str n])) p1 = some (.lst [V.str n]) := upd_same
    generalize upd H1 p1 (.lst [V.str n]) = H2 at j1 e1 ⊢
    have s2 := s1.trans j1
    have ss2 := Tups.same (K := K) j1 _ _ s
    refine ⟨_, rfl, .inr (.inl ⟨b, _, 3, _, rfl, rfl, ss2, rfl, _, rfl, a, _, dx, _, _, rfl, s2 _ _ h0, fx.cl, fx.n2, pf2, ?_⟩)⟩
    refine ⟨g.h, vh, B.hs, P, rfl, h2.same s2, ok.hs, nd1, i3, fun p2 l1 H3 f2 s3 c1 e2 len1 => ?_⟩
    refine cat_lists (s3 _ _ e1) e2 (by rw [List.length_map]; show 1 + _ ≤ _; omega) fun p3 f3 => ?_
    have j4 := same_new (o := .lst ([V.str n] ++ l1.map V.str)) f3
    have e3 : (upd H3 p3 (.lst ([V.str n] ++ l1.map V.str))) p3 = some (.lst ([V.str n] ++ l1.map V.str)) := upd_same
    generalize upd H3 p3 (.lst ([V.str n] ++ l1.map V.str)) = H4 at j4 e3 ⊢
    have s4 := (s2.trans s3).trans j4
    have ss4 := Tups.same (K := K) (s3.trans j4) _ _ ss2
    refine ⟨_, rfl, .inr (.inl ⟨b, _, 4, _, rfl, rfl, ss4, rfl, _, rfl, a, _, dx, _, _, rfl, s4 _ _ h0, fx.cl, fx.n3, pf3, ?_⟩)⟩
    refine ⟨g.k, vk, B.ks, P, rfl, h3.same s4, ok.ks, nd2, i4, fun p4 l2 H5 f4 s5 c2 e4 len2 => ?_⟩
    refine cat_lists (s5 _ _ e3) e4 (by rw [List.length_append, List.length_map, List.length_map]; show 1 + _ + _ ≤ _; omega) fun p5 f5 => ?_
    have j6 := same_new (o := .lst ([V.str n] ++ l1.map V.str ++ l2.map V.str)) f5
    have e5 : (upd H5 p5 (.lst ([V.str n] ++ l1.map V.str ++ l2.map V.str))) p5 = some (.lst ([V.str n] ++ l1.map V.str ++ l2.map V.str)) := upd_same
    generalize upd H5 p5 (.lst ([V.str n] ++ l1.map V.str ++ l2.map V.str)) = H6 at j6 e5 ⊢
    refine ⟨two_fit.1, fun p6 f6 => ?_⟩
    have j7 := same_new (o := .lst [V.str "pipe"]) f6
    refine cat_lists (j7 _ _ e5) upd_same (by rw [List.length_append, List.length_append, List.length_map, List.length_map]; show 1 + _ + _ + 1 ≤ _; omega) fun p7 f7 => ?_
    have j8 := same_new (o := .lst ([V.str n] ++ l1.map V.str ++ l2.map V.str ++ [V.str "pipe"])) f7
    have sA := (s4.trans s5).trans (j6.trans j7)
    refine k p7 (n :: (l1 ++ (l2 ++ [("pipe" : Str)]))) _ (sA.free f7) (sA.trans j8) ⟨g, l1, l2, hm, c1, c2, rfl⟩ ?_ ?_
    · rw [upd_same]
      simp
    · rw [List.length_cons, List.length_append, List.length_append, List.length_singleton]
      omega
  · exact ⟨_, rfl, a, dx, _, rfl, h0, pl_no, _, rfl, _, _, B, P, rfl, pl, fu, .inr ⟨nm, kE⟩⟩
def sp_Plan_over (K : PySem.W.Frag) (C : Cs) : Sp := fun vs H Q _ => ∃ o B P n, vs = [o, .str n] ∧ PlanAt false K C P H o B ∧ FxUn K C ∧ n ∈ B.ss.nm ∧ ∀ p L H', H p = none → Same H H' → B.Over n L → H' p = some (.lst (L.map V.str)) → L.length ≤ 300 → Q (.ref p) H'
theorem weak_Plan_over (h : sp_Plan_over K C vs H Q E) : sp_Plan_overX K C vs H Q E := by
  obtain ⟨o, B, P, n, rfl, pl, fu, m, k⟩ := h
  exact ⟨o, _, B, P, rfl, pl, fu, .inl ⟨n, rfl, m, k⟩⟩
def sp_Plan_underX (K : PySem.W.Frag) (C : Cs) : Sp := fun vs H Q E => ∃ o x B P, vs = [o, x] ∧ PlanAt true K C P H o B ∧ FxUn K C ∧
  ((∃ n, x = .str n ∧ n ∈ B.nm ∧ ∀ p (L : Str → List Str) H', H p = none → Same H H' → (∀ s ∈ B.ss.nm, B.Over s (L s)) → H' p = some (.lst ((B.ss.nm.filter fun s => decide (n ∈ L s)).map V.str)) → Q (.ref p) H') ∨ (NotNm K H x B.nm ∧ LetsU C x H E))
def t_Plan_underX (K : PySem.W.Frag) (C : Cs) (E : XK) : TS :=
  (tSeq (tIfS (tTest (tOp (rNotInOwn C.Plan (sp_Plan___contains__ K C) E0) (tVar 1) (tVar 0))) (tRaise C.Unknown (rOneI K C.Unknown "name") (tCons (tVar 1) tNil) E) tNext)
    (tRet (tLockE (tLc (iKeys (tFld K (tVar 0) "_streams")) (gName 2) (tTest (tOp (rInU K) (tVar 1) (tMeth C.Plan "over" (sp_Plan_over K C) [] E0 (tVar 0) (tCons (tVar 2) tNil)))) (tVar 2) [2]))))
theorem ln_Plan_underX (h : sp_Plan_underX K C vs H Q E) : vs.length = 2 := by obtain ⟨_, _, _, _, rfl, _⟩ := h; rfl
theorem rd_Plan_underX (h : sp_Plan_underX K C vs H Q E) : t_Plan_underX K C E (EndsOf Q) (start ["", "", ""] vs) H := by
  obtain ⟨o, x, B, P, rfl, pl, fu, cs⟩ := h
  obtain ⟨a, dx, vp, vh, vk, vss, vo, O, rfl, h0, h1, h2, h3, h4, h5, pm, so, oo, ok, fx⟩ := id pl
  obtain ⟨nd1, nd2, nd3⟩ := ok.nds
  rcases cs with ⟨n, rfl, hn, k⟩ | ⟨nm, kE⟩
  · obtain ⟨L, hL⟩ := ok.overs
    refine ⟨_, rfl, _, rfl, a, dx, _, rfl, h0, _, _, B, P, rfl, pl.rd, .inl ⟨n, rfl, hn, fun H1 s1 => ⟨true, rfl, _, rfl, iteF' rfl ?_⟩⟩⟩
    have pl1 := pl.same s1
    have h01 := s1 _ _ h0
    obtain ⟨d, ks, rfl, _, hd, kv⟩ := id (h4.same s1)
    have hd : H1 d = some (.dK ks) := hd
    have lk := kv.length
    rw [Stms.len] at lk
    have s6 := ok.s6
    have nad : a ≠ d := ne_of h01 hd fun z => nomatch z
    dsimp only [tRet]
    refine lc_keys (fun r => (B.ss.nm[r]?).bind fun s => if decide (n ∈ L s) = true then some (V.str s) else none) hd (by omega)
      (fun o R h => ⟨_, rfl, a, _, dx, _, _, rfl, by rw [upd_ne nad]; exact h01, fx.cl, fx.n4, pf4, h⟩) (fun x => rfl) (fun o r key w F e sF R Ry hnn hy => ?_) (fun p2 F f2 s2 z2 => ?_)
    · obtain ⟨s, cs, e1, rfl, _⟩ := kv.at e
      have es : B.ss.nm[r]? = some s := by
        rw [← Stms.tab_nm]
        show (B.ss.tab.map (·.1))[r]? = _
        rw [List.getElem?_map, e1]
        rfl
      have ms : s ∈ B.ss.nm := List.mem_of_getElem? es
      have kF : Kee K C P H1 F := (Kee.lock hd).trans (Kee.same sF)
      have hF0 : F a = some (.ins C.Plan dx (planF vp vh vk (.ref d) vo)) := sF _ _ (by rw [upd_ne nad]; exact h01)
      refine ⟨_, rfl, _, rfl, a, dx, _, rfl, hF0, pl_no, _, rfl, _, B, P, s, rfl, pl1.rd.kee kF, fu, ms, fun p2 L' F2 f2 s2 ov e2 len => ?_⟩
      have eL : L' = L s := ov.one ok (hL s ms)
      subst eL
      refine .inl ⟨p2, _, rfl, .inl (SqL.of e2), rfl, flat_strs _, _, rfl, ?_⟩
      refine if_in (fun c => ?_) (fun c => ?_)
      · rw [inV_strs] at c
        exact ⟨_, rfl, hy _ _ s2 (by show (B.ss.nm[r]?).bind _ = _; rw [es]; show (if decide (n ∈ L s) = true then _ else _) = _; rw [if_pos (c)]; rfl)⟩
      · rw [inV_strs] at c
        exact hnn _ s2 (by show (B.ss.nm[r]?).bind _ = _; rw [es]; show (if decide (n ∈ L s) = true then _ else _) = _; rw [if_neg c])
    · have ln : ks.length = B.ss.nm.length := by rw [lk]; unfold Stms.nm; rw [List.length_map]
      rw [ln, range_get, keep_strs] at z2
      exact k p2 L F (s1.free f2) (s1.trans s2) hL z2
  · refine ⟨_, rfl, _, rfl, a, dx, _, rfl, h0, _, _, B, P, rfl, pl.rd, .inr ⟨nm, fun H1 s1 => ⟨false, rfl, _, rfl, iteT' rfl ?_⟩⟩⟩
    exact ⟨_, rfl, made_err fu.ox fu.nf (kE.same s1)⟩
end
end Pk

set_option Elab.async false
set_option linter.all false
set_option maxRecDepth 100000
set_option maxHeartbeats 2000000
namespace Pk
open PySem PySem.Spec L2 PyProof.Rows PkC
/-! ### names drawn, mixed -/
def pipeL : List Nat := [112, 105, 112, 101]
/-- twelve names, good but for the pipe's own -/
def Twelve (ls : List (List Nat)) : Prop := ls.length = 12 ∧ ls.Nodup ∧ (∀ m ∈ ls, (1 ≤ m.length ∧ m.length ≤ 8) ∧ m.all lowc = true) ∧ ¬ (pipeL ∈ ls ∧ pipeL ++ [115] ∈ ls)
instance (ls : List (List Nat)) : Decidable (Twelve ls) := by unfold Twelve; infer_instance
theorem isNm_S {l : List Nat} (h1 : 1 ≤ l.length ∧ l.length ≤ 8) (h2 : l.all lowc = true) : isNm (S l) = true := by
  unfold isNm
  rw [len_S, decide_eq_true h1]
  exact h2
theorem twelve_pw {f : Nat → List Nat} (ne : ∀ i j, i < 12 → j < 12 → f i = f j → i = j) : ((List.range 12).map f).Nodup := by
  refine List.pairwise_map.mpr (List.Pairwise.imp_of_mem (fun {a b} ha hb n e => ?_) List.nodup_range)
  exact n (ne a b (List.mem_range.mp ha) (List.mem_range.mp hb) e)
theorem low_at {n : Nat} : lowc (97 + n % 26) = true := by
  unfold lowc
  rw [decide_eq_true (by omega), decide_eq_true (by omega)]
  rfl
/-- a base and a letter -/
theorem twelve2 {base : List Nat} {t : Nat} (b1 : base.length ≤ 7) (b2 : base.all lowc = true) : Twelve ((List.range 12).map fun k => base ++ [97 + (t + 3 * k) % 26]) := by
  refine ⟨by rw [List.length_map, List.length_range], twelve_pw fun i j hi hj e => ?_, fun m hm => ?_, fun ⟨h1, h2⟩ => ?_⟩
  · have e1 := List.append_cancel_left e
    have e2 : 97 + (t + 3 * i) % 26 = 97 + (t + 3 * j) % 26 := List.head_eq_of_cons_eq e1
    omega
  · obtain ⟨k, _, rfl⟩ := List.mem_map.mp hm
    refine ⟨by rw [List.length_append, List.length_singleton]; omega, ?_⟩
    rw [List.all_append, b2, List.all_cons, low_at]
    rfl
  · obtain ⟨i, _, e1⟩ := List.mem_map.mp h1
    obtain ⟨j, _, e2⟩ := List.mem_map.mp h2
    have q1 := congrArg List.length e1
    have q2 := congrArg List.length e2
    rw [List.length_append, List.length_singleton] at q1 q2
    rw [List.length_append, List.length_singleton] at q2
    omega
/-- a letter and a part of the base -/
theorem twelve1 {base : List Nat} {t : Nat} (b2 : base.all lowc = true) : Twelve ((List.range 12).map fun k => (97 + (t + 3 * k) % 26) :: base.take ((t + k) % 8)) := by
  refine ⟨by rw [List.length_map, List.length_range], twelve_pw fun i j hi hj e => ?_, fun m hm => ?_, fun ⟨h1, h2⟩ => ?_⟩
  · have e2 : 97 + (t + 3 * i) % 26 = 97 + (t + 3 * j) % 26 := List.head_eq_of_cons_eq e
    omega
  · obtain ⟨k, _, rfl⟩ := List.mem_map.mp hm
    refine ⟨by rw [List.length_cons, List.length_take]; omega, ?_⟩
    rw [List.all_cons, low_at, Bool.true_and, List.all_eq_true]
    exact fun x hx => List.all_eq_true.mp b2 x (List.mem_of_mem_take hx)
  · obtain ⟨i, hi, e1⟩ := List.mem_map.mp h1
    obtain ⟨j, hj, e2⟩ := List.mem_map.mp h2
    have q1 : 97 + (t + 3 * i) % 26 = 112 := List.head_eq_of_cons_eq e1
    have q2 : 97 + (t + 3 * j) % 26 = 112 := List.head_eq_of_cons_eq e2
    have hi := List.mem_range.mp hi
    have hj := List.mem_range.mp hj
    obtain rfl : i = j := by omega
    rw [e1] at e2
    exact absurd e2 (by decide)
def words18 : List Str := Txt.split "begin send put read fetch pass wait come house kind stream gone pool back again plan log run" " "
def words18L : List (List Nat) := words18.map fun x => x.cps.toList
theorem words18_S : words18 = words18L.map S := by decide +kernel
/-- words in turn -/
theorem twelve0 : ∀ t : Nat, t < 18 → Twelve ((words18L.drop t ++ words18L.take t).take 12) := by decide +kernel
def fixL (l : List Nat) : List Nat := if l = pipeL then pipeL ++ [115] else l
theorem Twelve.fixed {ls : List (List Nat)} (h : Twelve ls) : (ls.map fixL).Nodup ∧ ∀ m ∈ ls.map fixL, isNm (S m) = true ∧ m ≠ pipeL := by
  obtain ⟨h1, h2, h3, h4⟩ := h
  constructor
  · refine List.pairwise_map.mpr (List.Pairwise.imp_of_mem (fun {a b} ha hb n e => ?_) h2)
    unfold fixL at e
    split at e
    · rename_i c
      split at e
      · rename_i d
        exact n (c.trans d.symm)
      · exact h4 ⟨c ▸ ha, e ▸ hb⟩
    · split at e
      · rename_i d
        exact h4 ⟨d ▸ hb, e ▸ ha⟩
      · exact n e
  · intro m hm
    obtain ⟨a, ha, rfl⟩ := List.mem_map.mp hm
    unfold fixL
    split
    · exact ⟨by decide +kernel, by decide⟩
    · rename_i c
      exact ⟨isNm_S (h3 a ha).1 (h3 a ha).2, c⟩
section
variable {K : PySem.W.Frag} {C : Cs} {vs : List V} {H H' G : Hp} {Q : VK} {E : XK} {b l : Addr}
/-- a bag is no list of names -/
theorem Bag.no_names {a : Addr} {ns : List Str} (B : Bag H b l) (ha : H a = some (.lst (ns.map V.str))) : a ≠ b := by
  obtain ⟨x, m, p, xs, h1, _⟩ := B.ex
  intro e
  rw [e, h1] at ha
  cases ns with
  | nil => cases ha
  | cons _ r => cases ha
def sp_law_mixed (K : PySem.W.Frag) : Sp := fun vs H Q _ => ∃ b l a, ∃ ns : List Str, vs = [.ref b, .ref a] ∧ Bag H b l ∧ H a = some (.lst (ns.map V.str)) ∧ ns.length ≤ 100 ∧
  ∀ p, ∀ ms : List Str, ∀ H', H p = none → ms.Perm ns → H' p = some (.lst (ms.map V.str)) → Bag H' b l → Kp b H H' → Q (.ref p) H'
def t_law_mixed (K : PySem.W.Frag) : TS :=
  (tSeq (tAsg (tLst tNil) (gName 2))
    (tSeq (tFor (iList K (tVar 1)) (gName 3) (tDrop (tBM K "list" rIns (tVar 2) (tCons (tCall (sp_law_take K) [] E0 (tCons (tVar 0) (tCons (tOp (rAddU K) (tCB (rLenU K) (tCons (tVar 2) tNil)) (tC (.int 1))) tNil))) (tCons (tVar 3) tNil)))))
    (tRet (tVar 2))))
theorem ln_law_mixed (h : sp_law_mixed K vs H Q E) : vs.length = 2 := by obtain ⟨_, _, _, _, rfl, _⟩ := h; rfl
theorem perm_put {α : Type} (ms : List α) (n : Nat) (x : α) : (ms.take n ++ [x] ++ ms.drop n).Perm (ms ++ [x]) := by
  have q := List.Perm.append_left (ms.take n) (List.perm_append_comm (l₁ := [x]) (l₂ := ms.drop n))
  rw [← List.append_assoc, ← List.append_assoc, List.take_append_drop] at q
  exact q
theorem rd_law_mixed (h : sp_law_mixed K vs H Q E) : t_law_mixed K (EndsOf Q) (start ["", "", "", ""] vs) H := by
  obtain ⟨b, l, a, ns, rfl, B, ha, few, k⟩ := h
  have nab := B.no_names ha
  refine ⟨Nat.zero_le _, fun p hp => ?_⟩
  have npa : a ≠ p := ne_of_none ha hp
  refine ⟨_, rfl, a, rfl, ⟨_, SqL.of (by rw [upd_ne npa]; exact ha)⟩, ?_⟩
  refine for_list (K := K) (a := a) (xs := ns.map V.str) (fun i σ' G => ∃ s3, ∃ ms : List Str, σ' = [some (.ref b), some (.ref a), some (.ref p), s3] ∧ Kp b H G ∧ Bag G b l ∧ G p = some (.lst (ms.map V.str)) ∧ ms.Perm (ns.take i))
    ⟨_, [], rfl, kp_new hp, B.same (same_new hp), upd_same, List.Perm.refl _⟩ (fun i σ' G _ ⟨_, _, _, kG, _⟩ => SqL.of (kG _ _ ha nab)) ?_ ?_
  · rintro i x σ' G hx ⟨s3, ms, rfl, kG, BG, hz, pm⟩
    rw [List.getElem?_map] at hx
    cases hn : ns[i]? with
    | none => rw [hn] at hx; cases hx
    | some n =>
      rw [hn] at hx
      cases hx
      have lm := pm.length_eq
      rw [List.length_take] at lm
      have few2 : ms.length ≤ 100 := by omega
      refine ⟨_, rfl, .inl ⟨rfl, _, SqL.of hz⟩, _, rfl, _, rfl, .inl ⟨_, _, rfl, (.inl ⟨_, SqL.of hz, rfl⟩), .inl ⟨_, _, rfl, rfl, b, l, _, rfl, BG, by omega, ?_, fun v G2 v0 v1 B2 k2 => ?_⟩⟩⟩
      · have e : ((ms.map V.str).length : Int) + 1 ≤ 10 ^ 100 := by rw [List.length_map]; omega
        exact e
      have hz2 := k2 _ _ hz (B.nb hp)
      rw [List.length_map] at v1
      refine ⟨_, rfl, p, ms.map V.str, v, V.str n, rfl, rfl, hz2, small1000 (by rw [List.length_map]; omega), v0, by omega, ?_⟩
      refine ⟨_, ms.take v.toNat ++ [n] ++ ms.drop v.toNat, rfl, (kG.trans k2).other hp, B2.put (B.nb hp).symm (B.nl hp).symm, by rw [upd_same, List.map_append, List.map_append, List.map_take, List.map_drop]; rfl, ?_⟩
      have e : ns.take (i + 1) = ns.take i ++ [n] := by rw [List.take_add_one, hn]; rfl
      rw [e]
      exact (perm_put ms v.toNat n).trans (pm.append_right [n])
  · rintro σ' G ⟨s3, ms, rfl, kG, BG, hz, pm⟩
    rw [List.length_map, List.take_length] at pm
    exact ⟨_, rfl, k p ms G hp pm hz BG kG⟩
/-! ### twelve names -/
def sp_law_draw_names (K : PySem.W.Frag) : Sp := fun vs H Q _ => ∃ b l, vs = [.ref b, .int 12] ∧ Bag H b l ∧
  ∀ p, ∀ ms : List Str, ∀ H', H p = none → ms.length = 12 → ms.Nodup → (∀ m ∈ ms, isNm m = true ∧ m ≠ "pipe") → H' p = some (.lst (ms.map V.str)) → Bag H' b l → Kp b H H' → Q (.ref p) H'
def t_law_draw_names (K : PySem.W.Frag) : TS :=
  (tSeq (tAsg (tC (.str "abcdefghijklmnopqrstuvwxyz")) (gName 2))
    (tSeq (tAsg (tC (.str "begin send put read fetch pass wait come house kind stream gone pool back again plan log run")) (gName 3))
    (tSeq (tAsg (tTup (tCons (PkC.tSplit (tVar 3) (tC (.str " "))) (tCons (tCall (sp_law_take K) [] E0 (tCons (tVar 0) (tCons (tC (.int 3)) tNil))) (tCons (tCall (sp_law_take K) [] E0 (tCons (tVar 0) (tCons (tC (.int 18)) tNil))) tNil)))) (gTup K 3 (gCons (gName 3) (gCons (gName 4) (gCons (gName 5) gNil)))))
    (tSeq (tAsg (PkB.tJoinL K (tC (.str "")) (tLc (iRng1 (tCons (tCall (sp_law_take K) [] E0 (tCons (tVar 0) (tCons (tC (.int 8)) tNil))) tNil)) (gName 8) tYes (tOp (rIx K) (tVar 2) (tCall (sp_law_take K) [] E0 (tCons (tVar 0) (tCons (tC (.int 26)) tNil)))) [8])) (gName 6))
    (tSeq (tAsg (tLc (iRng1 (tCons (tVar 1) tNil)) (gName 8) tYes (tOp (rAddU K) (tVar 6) (tOp (rIx K) (tVar 2) (tOp (rModI) (tCB (rIntU) (tCons (tOp (rAddU K) (tVar 5) (tOp (rMulU K) (tC (.int 3)) (tVar 8))) tNil)) (tC (.int 26))))) [8]) (gName 7))
    (Evl.tCut (tIfS (tTest (tOp (rEqU K) (tVar 4) (tC (.int 0)))) (tAsg (tSl (rSlU K) (tOp (rAddU K) (tSl (rSlU K) (tVar 3) (tPart (tVar 5)) tNoPart) (tSl (rSlU K) (tVar 3) tNoPart (tPart (tVar 5)))) tNoPart (tPart (tVar 1))) (gName 7)) tNext)
    (Evl.tCut (tIfS (tTest (tOp (rEqU K) (tVar 4) (tC (.int 1)))) (tAsg (tLc (iRng1 (tCons (tVar 1) tNil)) (gName 8) tYes (tOp (rAddU K) (tOp (rIx K) (tVar 2) (tOp (rModI) (tCB (rIntU) (tCons (tOp (rAddU K) (tVar 5) (tOp (rMulU K) (tC (.int 3)) (tVar 8))) tNil)) (tC (.int 26)))) (tSl (L2.rSlS) (tVar 6) tNoPart (tPart (tOp (rModI) (tCB (rIntU) (tCons (tOp (rAddU K) (tVar 5) (tVar 8)) tNil)) (tC (.int 8)))))) [8]) (gName 7)) tNext)
    (tRet (tLc (iList K (tVar 7)) (gName 9) tYes (tOp (rAddU K) (tVar 9) (tOp (rMulU K) (tC (.str "s")) (tCB (rIntU) (tCons (tOp (rEqU K) (tVar 9) (tC (.str "pipe"))) tNil)))) [9])))))))))
theorem ln_law_draw_names (h : sp_law_draw_names K vs H Q E) : vs.length = 2 := by obtain ⟨_, _, rfl, _⟩ := h; rfl
def abcS : Str := "abcdefghijklmnopqrstuvwxyz"
theorem abc_at : ∀ n : Nat, n < 26 → atI abcS.cps.toList (n : Int) = some (97 + n) := by decide +kernel
theorem abc_fit : abcS.length ≤ sizeLine := Nat.le_of_lt (small1000 (by decide +kernel))
/-- a letter drawn -/
theorem abc_drawn {v : Int} (h0 : 0 ≤ v) (h1 : v < 26) : ∃ c, atI abcS.cps.toList v = some c ∧ lowc c = true := by
  obtain ⟨n, rfl⟩ : ∃ n : Nat, v = (n : Int) := ⟨v.toNat, by omega⟩
  refine ⟨97 + n, abc_at n (by omega), ?_⟩
  unfold lowc
  rw [decide_eq_true (by omega), decide_eq_true (by omega)]
  rfl
theorem ones_join (cs : List Nat) : Txt.join "" (cs.map fun c => S [c]) = S cs := by
  have e : (cs.map fun c => S [c]) = (cs.map fun c => [c]).map SX.S := by rw [List.map_map]; rfl
  rw [e]
  have j := SX.join_S [] (cs.map fun c => [c])
  have e2 : TL.joinL [] (cs.map fun c => [c]) = cs := by
    clear e j
    induction cs with
    | nil => rfl
    | cons c cs ih =>
      cases cs with
      | nil => rfl
      | cons d cs => exact congrArg (c :: ·) ih
  rw [e2] at j
  exact j
theorem ones_fit {cs : List Nat} (h : cs.length ≤ 1000) : ((cs.map fun c => S [c]).map (·.length)).sum + (cs.map fun c => S [c]).length * ("" : Str).length ≤ 16777216 := by
  have e : ((cs.map fun c => S [c]).map (·.length)).sum ≤ cs.length := by
    clear h
    induction cs with
    | nil => exact Nat.le_refl _
    | cons c cs ih =>
      rw [List.map_cons, List.map_cons, List.sum_cons, List.length_cons]
      have : (S [c]).length = 1 := rfl
      omega
  have e0 : ("" : Str).length = 0 := rfl
  rw [e0]
  omega
theorem cutS_to {l : List Nat} {n : Nat} : cutS (S l) none (some (n : Int)) = S (l.take n) := by
  unfold cutS
  rw [HT.sIx_none, HT.sIx_nat, len_S]
  show S ((l.drop 0).take (min n l.length - 0)) = _
  rw [List.drop_zero, Nat.sub_zero, ← List.take_eq_take_min]
theorem nameS_fit {l : List Nat} (h : l.length ≤ 1000) : (S l).length ≤ sizeLine := by
  rw [len_S]
  exact Nat.le_of_lt (small1000 h)
/-- the index of the k-th letter -/
theorem turn_at (t k : Nat) : ((t : Int) + 3 * ((0 : Int) + (k : Int))) % 26 = ((t + 3 * k) % 26 : Nat) := by omega
theorem words_fit : (("begin send put read fetch pass wait come house kind stream gone pool back again plan log run" : Str)).length + 2 ≤ sizeLine := by
  have : (("begin send put read fetch pass wait come house kind stream gone pool back again plan log run" : Str)).length ≤ 100 := by decide +kernel
  rw [sizeLine_eq]
  omega
theorem S_inj {x y : List Nat} (h : S x = S y) : x = y := by
  have q := congrArg tl h
  rwa [tl_S, tl_S] at q
theorem pipe_S : ("pipe" : Str) = S pipeL := by decide +kernel
theorem fix_S (x : List Nat) : S x ++ Txt.mul "s" (if decide (V.str (S x) = V.str "pipe") = true then 1 else 0) = S (fixL x) ∧ (Txt.mul "s" (if decide (V.str (S x) = V.str "pipe") = true then 1 else 0)).length ≤ 1 := by
  unfold fixL
  by_cases h : x = pipeL
  · subst h
    exact ⟨by decide +kernel, by decide +kernel⟩
  · have e : decide (V.str (S x) = V.str "pipe") = false := decide_eq_false fun z => h (S_inj (by rw [← pipe_S]; exact V.str.inj z))
    rw [e, if_neg h, if_neg (by decide)]
    have e2 : Txt.mul "s" 0 = S [] := by decide +kernel
    rw [e2, app_S, List.append_nil]
    exact ⟨rfl, by decide⟩
theorem rd_law_draw_names (h : sp_law_draw_names K vs H Q E) : t_law_draw_names K (EndsOf Q) (start ["", "", "", "", "", "", "", "", "", ""] vs) H := by
  obtain ⟨b, l, rfl, B, k⟩ := h
  refine ⟨_, rfl, ⟨_, rfl⟩, _, _, rfl, rfl, by decide, words_fit, fun pw hw => ?_⟩
  rw [show Txt.split _ _ = words18L.map S from words18_S]
  have j1 := same_new (o := .lst ((words18L.map S).map V.str)) hw
  have e1 : (upd H pw (.lst ((words18L.map S).map V.str))) pw = some (.lst ((words18L.map S).map V.str)) := upd_same
  have B1 := B.same j1
  have npw : pw ≠ b := B.nb hw
  generalize upd H pw (.lst ((words18L.map S).map V.str)) = H1 at j1 e1 B1 ⊢
  refine ⟨_, rfl, b, l, 3, rfl, B1, by decide, by decide, fun way G1 w0 w1 B2 k2 => ?_⟩
  refine ⟨_, rfl, b, l, 18, rfl, B2, by decide, by decide, fun tt G2 t0 t1 B3 k3 => ?_⟩
  obtain ⟨t, rfl⟩ : ∃ t : Nat, tt = (t : Int) := ⟨tt.toNat, by omega⟩
  refine ⟨two_fit.2.2.1, fun T hT => ?_⟩
  refine ⟨T, _, rfl, SqT.of upd_same, rfl, _, _, rfl, _, _, rfl, _, _, rfl, rfl, ?_⟩
  have k3' : Kp b H1 (upd G2 T (.tup [.ref pw, .int way, .int t])) := (k2.trans k3).laid hT
  have B4 := B3.same (same_new (o := .tup [.ref pw, .int way, .int t]) hT)
  generalize upd G2 T (.tup [.ref pw, .int way, .int t]) = G3 at k3' B4 ⊢
  clear k2 k3 B2 B3 hT
  refine ⟨⟨_, rfl⟩, _, rfl, b, l, 8, rfl, B4, by decide, by decide, fun n G4 n0 n1 B5 k5 => ?_⟩
  obtain ⟨m, rfl⟩ : ∃ m : Nat, n = (m : Int) := ⟨n.toNat, by omega⟩
  have k6 := k3'.trans k5
  refine ⟨_, rfl, by omega, by omega, fun D hD => ?_⟩
  have fD := k6.freeB B5 hD
  refine lc_range (lo := 0) (n := m) (fun i G => ∃ cs : List Nat, cs.length = i ∧ cs.all lowc = true ∧ G D = some (.lst (cs.map fun c => V.str (S [c]))) ∧ Bag G b l ∧ Kp b H1 G) ⟨[], rfl, rfl, upd_same, B5.same (same_new hD), k6.laid hD⟩ ?_ ?_
  · rintro i G hi ⟨cs, lc, al, hz, BG, kG⟩
    refine ⟨rfl, _, rfl, _, rfl, b, l, 26, rfl, BG, by decide, by decide, fun v G' v0 v1 B' k' => ?_⟩
    obtain ⟨c, hc, lo⟩ := abc_drawn v0 v1
    refine .inr (.inr ⟨abcS, v, c, rfl, rfl, abc_fit, hc, _, k' _ _ hz (B1.nb fD), small1000 (by rw [List.length_map]; omega), cs ++ [c], by rw [List.length_append, lc]; rfl, by rw [List.all_append, al, List.all_cons, lo]; rfl, by rw [upd_same, List.map_append]; rfl, B'.put (B1.nb fD).symm (B1.nl fD).symm, (kG.trans k').other fD⟩)
  rintro G ⟨base, lb, al, hz, BG, kG⟩
  refine ⟨_, D, base.map fun c => S [c], rfl, rfl, .inl (SqL.of (by rw [List.map_map]; exact hz)), ones_fit (by omega), ?_⟩
  rw [ones_join]
  clear k6 k5 B5 k3' B4 hD fD hz
  refine ⟨_, rfl, _, rfl, by decide, by decide, fun D2 hD2 => ?_⟩
  have fD2 := kG.freeB BG hD2
  refine lc_range (lo := 0) (n := 12) (fun i G' => Same G G' ∧ G' D2 = some (.lst (((List.range i).map fun k => base ++ [97 + (t + 3 * k) % 26]).map fun x => V.str (S x)))) ⟨same_new hD2, upd_same⟩ ?_ ?_
  · rintro i G' hi ⟨s, hz⟩
    refine ⟨rfl, _, rfl, _, rfl, _, rfl, _, rfl, .inl ⟨_, _, rfl, rfl, .inl (.inl (by omega)), .inl ⟨_, _, rfl, rfl, .inl (.inl ⟨_, rfl, _, _, rfl, rfl, show (0 : Int) < 26 by decide, ?_⟩)⟩⟩⟩
    show rIx K (.str abcS) (.int (((t : Int) + 3 * ((0 : Int) + (i : Int))) % 26)) G' _
    rw [turn_at]
    refine .inr (.inr ⟨abcS, _, _, rfl, rfl, abc_fit, abc_at _ (by omega), ?_⟩)
    refine .inr (.inl ⟨_, _, rfl, rfl, ?_, ?_⟩)
    · rw [len_S]
      exact Nat.le_of_lt (small1000 (by show base.length + 1 ≤ 1000; omega))
    · refine ⟨_, hz, small1000 (by rw [List.length_map, List.length_map, List.length_range]; omega), fun c o e => by rw [upd_ne (ne_of_none e hD2)]; exact s _ _ e, ?_⟩
      have e : (S base ++ ⟨#[97 + (t + 3 * i) % 26]⟩ : Str) = S (base ++ [97 + (t + 3 * i) % 26]) := app_S base [_]
      rw [e, upd_same, List.range_succ, List.map_append, List.map_append]
      rfl
  rintro G5 ⟨s5, hz⟩
  have f2 := j1.free fD2
  have kG5 : Kp b H1 G5 := kG.trans (Kp.of s5)
  have BG5 := BG.same s5
  have tw2 := twelve2 (t := t) (base := base) (by omega) al
  generalize (List.range 12).map (fun k => base ++ [97 + (t + 3 * k) % 26]) = ls2 at hz tw2
  clear s5 hD2 kG BG
  have e2 : ∀ {G}, Kp b H1 G → G pw = some (.lst ((words18L.map S).map V.str)) := fun q => q _ _ e1 npw
  refine ⟨fun σ2 G2 => ∃ p, ∃ ls : List (List Nat), σ2 = [some (.ref b), some (.int 12), some (.str abcS), some (.ref pw), some (.int way), some (.int t), some (.str (S base)), some (.ref p), none, none] ∧
      G2 p = some (.lst (ls.map fun x => V.str (S x))) ∧ H p = none ∧ Twelve ls ∧ Bag G2 b l ∧ Kp b H1 G2, ?_, ?_⟩
  · refine ⟨_, rfl, .inl ⟨rfl, _, rfl, ?_⟩⟩
    refine ifI (fun _ => ?_) (fun _ => ⟨_, _, rfl, hz, f2, tw2, BG5, kG5⟩)
    refine ⟨_, rfl, _, rfl, _, rfl, .inl ⟨pw, _, rfl, SqL.of (e2 kG5), fun q1 f1 => ?_⟩⟩
    rw [cutV_from, ← List.map_drop]
    have s1 := same_new (o := .lst ((((words18L.map S).drop t)).map V.str)) f1
    have u1 : (upd G5 q1 (.lst ((((words18L.map S).drop t)).map V.str))) q1 = some (.lst ((((words18L.map S).drop t)).map V.str)) := upd_same
    generalize upd G5 q1 (.lst ((((words18L.map S).drop t)).map V.str)) = G6 at s1 u1 ⊢
    refine ⟨_, rfl, _, rfl, _, rfl, .inl ⟨pw, _, rfl, SqL.of (s1 _ _ (e2 kG5)), fun q2 f3 => ?_⟩⟩
    rw [cutV_to, ← List.map_take]
    have s2 := same_new (o := .lst ((((words18L.map S).take t)).map V.str)) f3
    have u2 : (upd G6 q2 (.lst ((((words18L.map S).take t)).map V.str))) q2 = some (.lst ((((words18L.map S).take t)).map V.str)) := upd_same
    generalize upd G6 q2 (.lst ((((words18L.map S).take t)).map V.str)) = G7 at s2 u2 ⊢
    have w18 : words18L.length = 18 := by decide +kernel
    refine cat_lists (s2 _ _ u1) u2 (by rw [List.length_map, List.length_map, List.length_drop, List.length_take, List.length_map, w18]; omega) fun q3 f4 => ?_
    rw [← List.map_append, ← List.map_drop, ← List.map_take, ← List.map_append]
    have s3 := same_new (o := .lst ((((words18L.drop t ++ words18L.take t).map S)).map V.str)) f4
    have u3 : (upd G7 q3 (.lst ((((words18L.drop t ++ words18L.take t).map S)).map V.str))) q3 = some (.lst ((((words18L.drop t ++ words18L.take t).map S)).map V.str)) := upd_same
    generalize upd G7 q3 (.lst ((((words18L.drop t ++ words18L.take t).map S)).map V.str)) = G8 at s3 u3 ⊢
    refine ⟨_, rfl, _, rfl, .inl ⟨q3, _, rfl, SqL.of u3, fun q4 f5 => ?_⟩⟩
    rw [show (12 : Int) = ((12 : Nat) : Int) from rfl, cutV_to, ← List.map_take, ← List.map_take]
    have sA := (s1.trans s2).trans s3
    have kA := kG5.trans (Kp.of (sA.trans (same_new (o := .lst ((((words18L.drop t ++ words18L.take t).take 12).map S).map V.str)) f5)))
    refine ⟨_, _, rfl, by rw [upd_same, List.map_map]; rfl, ?_, twelve0 t (by omega), (BG5.same sA).same (same_new f5), kA⟩
    exact j1.free (kG5.freeB BG5 (sA.free f5))
  rintro σ' G6 ⟨p, ls, rfl, hz, fp, tw, BG, kG⟩
  refine ⟨fun σ2 G2 => ∃ p, ∃ ls : List (List Nat), σ2 = [some (.ref b), some (.int 12), some (.str abcS), some (.ref pw), some (.int way), some (.int t), some (.str (S base)), some (.ref p), none, none] ∧
      G2 p = some (.lst (ls.map fun x => V.str (S x))) ∧ H p = none ∧ Twelve ls ∧ Bag G2 b l ∧ Kp b H1 G2, ?_, ?_⟩
  · refine ⟨_, rfl, .inl ⟨rfl, _, rfl, ?_⟩⟩
    refine ifI (fun _ => ?_) (fun _ => ⟨_, _, rfl, hz, fp, tw, BG, kG⟩)
    refine ⟨_, rfl, _, rfl, by decide, by decide, fun D2 hD2 => ?_⟩
    have fD2 := kG.freeB BG hD2
    refine lc_range (lo := 0) (n := 12) (fun i G' => Same G6 G' ∧ G' D2 = some (.lst (((List.range i).map fun k => (97 + (t + 3 * k) % 26) :: base.take ((t + k) % 8)).map fun x => V.str (S x)))) ⟨same_new hD2, upd_same⟩ ?_ ?_
    · rintro i G' hi ⟨s, hz⟩
      refine ⟨rfl, _, rfl, _, rfl, _, rfl, .inl ⟨_, _, rfl, rfl, .inl (.inl (by omega)), .inl ⟨_, _, rfl, rfl, .inl (.inl ⟨_, rfl, _, _, rfl, rfl, show (0 : Int) < 26 by decide, ?_⟩)⟩⟩⟩
      show rIx K (.str abcS) (.int (((t : Int) + 3 * ((0 : Int) + (i : Int))) % 26)) G' _
      rw [turn_at]
      refine .inr (.inr ⟨abcS, _, _, rfl, rfl, abc_fit, abc_at _ (by omega), ?_⟩)
      refine ⟨_, rfl, _, rfl, _, rfl, .inl ⟨_, _, rfl, rfl, .inl (.inl ⟨_, rfl, _, _, rfl, rfl, show (0 : Int) < 8 by decide, ?_⟩)⟩⟩
      refine ⟨_, rfl, ?_⟩
      show L2.rSlS (.str (S base)) none (some (((t : Int) + ((0 : Int) + (i : Int))) % 8)) G' _
      rw [show ((t : Int) + ((0 : Int) + (i : Int))) % 8 = (((t + i) % 8 : Nat) : Int) by omega]
      refine ⟨S base, rfl, nameS_fit (by omega), ?_⟩
      rw [cutS_to]
      have lt8 : (base.take ((t + i) % 8)).length ≤ 8 := by rw [List.length_take]; omega
      refine .inr (.inl ⟨_, _, rfl, rfl, ?_, ?_⟩)
      · rw [len_S]
        exact Nat.le_of_lt (small1000 (by show 1 + (base.take ((t + i) % 8)).length ≤ 1000; omega))
      · refine ⟨_, hz, small1000 (by rw [List.length_map, List.length_map, List.length_range]; omega), fun c o e => by rw [upd_ne (ne_of_none e hD2)]; exact s _ _ e, ?_⟩
        have e : (⟨#[97 + (t + 3 * i) % 26]⟩ ++ S (base.take ((t + i) % 8)) : Str) = S ((97 + (t + 3 * i) % 26) :: base.take ((t + i) % 8)) := app_S [_] _
        rw [e, upd_same, List.range_succ, List.map_append, List.map_append]
        rfl
    · rintro G' ⟨s, hz⟩
      exact ⟨_, _, rfl, hz, j1.free fD2, twelve1 al, BG.same s, kG.trans (Kp.of s)⟩
  rintro σ' G7 ⟨p, ls, rfl, hz, fp, tw, BG, kG⟩
  obtain ⟨n1, n2⟩ := tw.fixed
  have l12 := tw.1
  refine ⟨_, rfl, p, rfl, ⟨_, SqL.of hz⟩, fun D hD => ?_⟩
  refine lc_list (xs := ls.map fun x => V.str (S x)) (fun i G' => Same G7 G' ∧ G' D = some (.lst (((ls.take i).map fixL).map fun x => V.str (S x)))) ⟨same_new hD, upd_same⟩ (fun i G' _ ⟨s, _⟩ => SqL.of (s _ _ hz)) ?_ ?_
  · rintro i x G' hx ⟨s, hz2⟩
    rw [List.getElem?_map] at hx
    cases hn : ls[i]? with
    | none => rw [hn] at hx; cases hx
    | some y =>
      rw [hn] at hx
      cases hx
      obtain ⟨x1, x2⟩ := fix_S y
      have y8 : y.length ≤ 8 := (tw.2.2.1 y (List.mem_of_getElem? hn)).1.2
      refine ⟨rfl, _, rfl, _, rfl, .inl ⟨rfl, .inl (.inr ⟨_, rfl, .inr (.inl ⟨_, _, rfl, rfl, by decide, ?_, ?_, .inr (.inl ⟨_, _, rfl, rfl, ?_, ?_⟩)⟩)⟩)⟩⟩
      · split <;> decide
      · split <;> decide
      · have fit : (S y).length + (Txt.mul "s" (if decide (V.str (S y) = V.str "pipe") = true then 1 else 0)).length ≤ sizeLine := by
          rw [len_S]
          exact Nat.le_of_lt (small1000 (by omega))
        exact fit
      · rw [x1]
        refine ⟨_, hz2, small1000 (by rw [List.length_map, List.length_map, List.length_take]; omega), fun c o e => by rw [upd_ne (ne_of_none e hD)]; exact s _ _ e, ?_⟩
        rw [upd_same, List.take_add_one, hn, List.map_append, List.map_append]
        rfl
  · rintro G' ⟨s, hz2⟩
    rw [List.length_map, List.take_length] at hz2
    refine k D ((ls.map fixL).map S) G' (j1.free (kG.freeB BG hD)) (by rw [List.length_map, List.length_map, l12]) ?_ ?_ (by rw [List.map_map]; exact hz2) (BG.same s) ((Kp.of j1).trans (kG.trans (Kp.of s)))
    · exact List.pairwise_map.mpr (n1.imp fun n e => n (S_inj e))
    · intro m hm
      obtain ⟨y, hy, rfl⟩ := List.mem_map.mp hm
      obtain ⟨q1, q2⟩ := n2 y hy
      exact ⟨q1, fun e => q2 (S_inj (by rw [← pipe_S]; exact e))⟩
end
end Pk
set_option Elab.async false
set_option linter.all false
set_option maxRecDepth 100000
set_option maxHeartbeats 2000000
namespace Pk
open PySem PySem.Spec L2 PyProof.Rows PkC
/-! ### parts drawn -/
def P0 : Addr → Prop := fun _ => False
section
variable {K : PySem.W.Frag} {C : Cs} {vs : List V} {H H' G F : Hp} {Q : VK} {E : XK} {b l d : Addr} {top sc : Int} {σ : L2.St} {P : Addr → Prop} {t : Bool} {T : Tab} {v : V}
theorem pick4 {x y z w : V} {j : Int} (h0 : 0 ≤ j) (h1 : j < 4) : ∃ u, atI [x, y, z, w] j = some u ∧ (u = x ∨ u = y ∨ u = z ∨ u = w) := by
  rcases (by omega : j = 0 ∨ j = 1 ∨ j = 2 ∨ j = 3) with rfl | rfl | rfl | rfl
  · exact ⟨x, rfl, .inl rfl⟩
  · exact ⟨y, rfl, .inr (.inl rfl)⟩
  · exact ⟨z, rfl, .inr (.inr (.inl rfl))⟩
  · exact ⟨w, rfl, .inr (.inr (.inr rfl))⟩
/-- None, or one of the names -/
theorem pick_o {ns : List Str} {j : Int} (h0 : 0 ≤ j) (h1 : j < ns.length + 1) : ∃ o : Option Str, atI (V.non :: ns.map V.str) j = some (oV o) ∧ ∀ m, o = some m → m ∈ ns := by
  obtain ⟨n, rfl⟩ : ∃ n : Nat, j = (n : Int) := ⟨j.toNat, by omega⟩
  cases n with
  | zero => exact ⟨none, atI_nat rfl, fun _ z => nomatch z⟩
  | succ n =>
    have lt : n < ns.length := by omega
    refine ⟨some ns[n], atI_nat ?_, fun m z => by cases z; exact List.getElem_mem lt⟩
    rw [List.getElem?_cons_succ, List.getElem?_map, List.getElem?_eq_getElem lt]
    rfl
theorem KeeX.bagP (B : Bag H b l) (k : Kp b H H') : KeeX K C P H H' := KeeX.bag B k
/-- ([None] + list(d))[take(bag, len(d) + 1)] -/
theorem draw_key {td : TE} {ks : List (Key × V)} {ns : List Str} (hv : σ[0]? = some (some (.ref b))) (B : Bag H b l) (hd : H d = some (.dK ks)) (hk : (ks.map fun kv => kV kv.1) = ns.map V.str) (few : ns.length ≤ 100)
    (htd : ∀ F R, Kp b H F → R (.ref d) F → td σ F R) (k : ∀ o H', (∀ m, o = some m → m ∈ ns) → Bag H' b l → Kp b H H' → Q (oV o) H') :
    tOp (rIx K) (tOp (rAddU K) (tLst (tCons (tC .non) tNil)) (tCB rKeysL (tCons td tNil))) (tCall (sp_law_take K) [] E0 (tCons (tVar 0) (tCons (tOp (rAddU K) (tCB rLenR (tCons td tNil)) (tC (.int 1))) tNil))) σ H Q := by
  have lk : ks.length = ns.length := by have := congrArg List.length hk; rwa [List.length_map, List.length_map] at this
  have ndb : d ≠ b := by
    obtain ⟨ys, hb⟩ := B.at
    exact ne_of hd hb fun z => nomatch z
  refine ⟨two_fit.1, fun p1 f1 => ?_⟩
  have s1 := same_new (o := .lst [V.non]) f1
  have e1 : (upd H p1 (.lst [V.non])) p1 = some (.lst [V.non]) := upd_same
  generalize upd H p1 (.lst [V.non]) = H1 at s1 e1 ⊢
  refine htd _ _ (Kp.of s1) ⟨d, ks, rfl, .inl (s1 _ _ hd), fun p2 f2 => ?_⟩
  rw [hk]
  have s2 := same_new (o := .lst (ns.map V.str)) f2
  have e2 : (upd H1 p2 (.lst (ns.map V.str))) p2 = some (.lst (ns.map V.str)) := upd_same
  generalize upd H1 p2 (.lst (ns.map V.str)) = H2 at s2 e2 ⊢
  refine cat_lists (s2 _ _ e1) e2 (by rw [List.length_map, List.length_singleton]; omega) fun p3 f3 => ?_
  have s3 := same_new (o := .lst ([V.non] ++ ns.map V.str)) f3
  have e3 : (upd H2 p3 (.lst ([V.non] ++ ns.map V.str))) p3 = some (.lst ([V.non] ++ ns.map V.str)) := upd_same
  have B2 := B.same (s1.trans s2)
  have n3 : p3 ≠ b := B2.nb f3
  generalize upd H2 p3 (.lst ([V.non] ++ ns.map V.str)) = H3 at s3 e3 ⊢
  have sA := (s1.trans s2).trans s3
  refine ⟨_, hv, htd _ _ (Kp.of sA) ⟨d, ks, rfl, .inl (sA _ _ hd), .inl ⟨_, _, rfl, rfl, b, l, _, rfl, B.same sA, by omega, ?_, fun j G j0 j1 BG kG => ?_⟩⟩⟩
  · rw [lk]
    omega
  · rw [lk] at j1
    obtain ⟨o, ho, hm⟩ := pick_o j0 j1
    exact .inl ⟨p3, _, j, oV o, rfl, rfl, SqL.of (kG _ _ e3 n3), ho, k o G hm BG ((Kp.of sA).trans kG)⟩
/-! ### a pool -/
def sp_law_draw_pool (K : PySem.W.Frag) (C : Cs) : Sp := fun vs H Q _ => ∃ b l top sc, vs = [.ref b, .int top, .int sc] ∧ Bag H b l ∧ 1 ≤ top ∧ top ≤ 1000 ∧ 1 ≤ sc ∧ top * sc ≤ 10 ^ 50 ∧
  ∀ v (p : PoolR) H', RowAt false K C H' p.cells v → p.ok → Bag H' b l → Kp b H H' → Q v H'
def t_law_draw_pool (K : PySem.W.Frag) : TS :=
  (tSeq (tAsg (tCall (sp_law_draw_tree K 3) [] E0 (tCons (tVar 0) (tCons (tVar 1) (tCons (tVar 2) (tCons (tC (.int 1)) tNil))))) (gName 3))
    (tSeq (tAsg (tOp (rIx K) (tLst (tCons (tC (.str "read")) (tCons (tC (.str "come")) (tCons (tC (.str "read")) (tCons (tC (.str "read")) tNil))))) (tCall (sp_law_take K) [] E0 (tCons (tVar 0) (tCons (tC (.int 4)) tNil)))) (gName 4))
    (tSeq (tAsg (tCall (sp_law_draw_size K) [] E0 (tCons (tVar 0) (tCons (tVar 1) (tCons (tVar 2) tNil)))) (gName 5))
    (Evl.tCut (tIfS (tTest (tOp (rEqU K) (tVar 4) (tC (.str "come")))) (tAug 5 (tOp (rSubI) (tCall (sp_law_threshold K 7) [] E0 (tCons (tVar 3) tNil)) (tC (.int 1))) (ipI fun i j => i + j)) tNext)
    (tRet (tTup (tCons (tVar 5) (tCons (tVar 3) (tCons (tVar 4) tNil)))))))))
theorem ln_law_draw_pool (h : sp_law_draw_pool K C vs H Q E) : vs.length = 3 := by obtain ⟨_, _, _, _, rfl, _⟩ := h; rfl
theorem rd_law_draw_pool (h : sp_law_draw_pool K C vs H Q E) : t_law_draw_pool K (EndsOf Q) (start ["", "", "", "", "", ""] vs) H := by
  obtain ⟨b, l, top, sc, rfl, B, t1, t2, s1, ts, k⟩ := h
  refine ⟨_, rfl, _, rfl, _, rfl, b, l, top, sc, 1, rfl, B, t1, t2, s1, ts, by decide, fun v T H1 a1 a2 a3 a4 B1 k1 => ?_⟩
  refine ⟨two_fit.2.2.2, fun p hp => ?_⟩
  have g2 := same_new (o := .lst [V.str "read", .str "come", .str "read", .str "read"]) hp
  have e2 : (upd H1 p (.lst [V.str "read", .str "come", .str "read", .str "read"])) p = some (.lst [V.str "read", .str "come", .str "read", .str "read"]) := upd_same
  have B2 := B1.same g2
  have np : p ≠ b := B1.nb hp
  generalize upd H1 p (.lst [V.str "read", .str "come", .str "read", .str "read"]) = H2 at g2 e2 B2 ⊢
  refine ⟨_, rfl, b, l, 4, rfl, B2, by decide, by decide, fun j H3 j0 j1 B3 k3 => ?_⟩
  obtain ⟨u, hu, cu⟩ := pick4 (x := .str "read") (y := .str "come") (z := .str "read") (w := .str "read") j0 j1
  refine .inl ⟨p, _, j, u, rfl, rfl, SqL.of (k3 _ _ e2 np), hu, ?_⟩
  have cu : u = .str "come" ∨ u = .str "read" := by exact cu.elim .inr fun cu => cu.elim .inl fun cu => cu.elim .inr .inr
  refine ⟨_, rfl, _, rfl, _, rfl, b, l, top, sc, rfl, B3, t1, t2, s1, fun z H4 z0 z1 B4 k4 => ?_⟩
  have kA : Kp b H H4 := ((k1.trans (Kp.of g2)).trans k3).trans k4
  have hT : TrAt K H4 v T := ((a1.mono (Tups.same g2)).mono (B2.tups k3)).mono (B3.tups k4)
  have tp := Tr.top_ok a2
  refine ⟨fun σ2 G2 => ∃ (c : Int) (m : Str), σ2 = [some (.ref b), some (.int top), some (.int sc), some v, some (.str m), some (.int c)] ∧ Same H4 G2 ∧ 1 ≤ c ∧ c ≤ 10 ^ 60 ∧ (m = "come" ∨ m = "read") ∧ (m = "come" → T.top ≤ c), ?_, ?_⟩
  · rcases cu with rfl | rfl
    · refine ⟨_, rfl, .inl ⟨rfl, _, rfl, iteT' (decide_eq_true rfl) ?_⟩⟩
      exact ⟨_, rfl, _, rfl, v, T, rfl, hT, Tr.dp6 (by have : T.lv ≤ 2 ^ 1 := a4; omega), fun H5 s5 => ⟨_, _, rfl, rfl, _, _, rfl, rfl, _, _, rfl, s5, show 1 ≤ z + (T.top - 1) by omega, show z + (T.top - 1) ≤ 10 ^ 60 by omega, .inl rfl, fun _ => show T.top ≤ z + (T.top - 1) by omega⟩⟩
    · refine ⟨_, rfl, .inl ⟨rfl, _, rfl, iteF' (decide_eq_false (by decide +kernel)) ?_⟩⟩
      exact ⟨_, _, rfl, Same.refl _, z0, by omega, .inr rfl, fun e => absurd e (by decide +kernel)⟩
  · rintro σ' G ⟨c, m, rfl, s, c1, c2, hm, nr⟩
    refine ⟨_, rfl, _, rfl, _, rfl, two_fit.2.2.1, fun q hq => ?_⟩
    have g6 := same_new (o := .tup [V.int c, v, .str m]) hq
    have l6 : T.lv ≤ 6 := by have : T.lv ≤ 2 ^ 1 := a4; omega
    exact k (.ref q) ⟨c, T, m⟩ _ (PoolR.mk_at (SqT.of upd_same) ⟨hT.mono (Tups.same (s.trans g6)), a2, l6⟩) ⟨c1, c2, hm, nr, a2, l6⟩ (B4.same (s.trans g6)) (kA.trans (Kp.of (s.trans g6)))
/-! ### groups -/
theorem fresh_at {α : Type} {ns : List α} {n : α} {i : Nat} (nd : ns.Nodup) (hn : ns[i]? = some n) : n ∉ ns.take i := by
  obtain ⟨lt, e⟩ := List.getElem?_eq_some_iff.mp hn
  have e2 : ns = ns.take i ++ (n :: ns.drop (i + 1)) := by
    rw [← e, ← List.drop_eq_getElem_cons lt, List.take_append_drop]
  rw [e2] at nd
  intro m
  exact (List.nodup_append.mp nd).2.2 n m n (List.mem_cons_self ..) rfl
def Falls (G : Grps) (k : Nat) : Prop := ∃ h : Str → Nat, (∀ n, h n ≤ k) ∧ ∀ r ∈ G, ∀ n, r.2.ar = some n → n ∈ G.nm ∧ h n < h r.1
theorem Grps.nm_app (G G' : Grps) : Grps.nm (G ++ G') = G.nm ++ G'.nm := List.map_append
theorem Falls.put {G : Grps} {k : Nat} {n : Str} {g : GrpR} (f : Falls G k) (nn : n ∉ G.nm) (ha : ∀ m, g.ar = some m → m ∈ G.nm) : Falls (G ++ [(n, g)]) (k + 1) := by
  obtain ⟨h, hb, q⟩ := f
  have ne : ∀ m, m ∈ G.nm → m ≠ n := fun m hm e => nn (e ▸ hm)
  refine ⟨fun x => if x = n then k + 1 else h x, fun x => ?_, fun r hr m e => ?_⟩
  · have := hb x
    dsimp only
    split <;> omega
  · rw [Grps.nm_app]
    rcases List.mem_append.mp hr with hr | hr
    · obtain ⟨q1, q2⟩ := q r hr m e
      refine ⟨List.mem_append_left _ q1, ?_⟩
      dsimp only
      rw [if_neg (ne m q1), if_neg (ne r.1 (List.mem_map.mpr ⟨r, hr, rfl⟩))]
      exact q2
    · obtain rfl := List.mem_singleton.mp hr
      have q1 := ha m e
      refine ⟨List.mem_append_left _ q1, ?_⟩
      dsimp only
      rw [if_neg (ne m q1), if_pos rfl]
      have := hb m
      omega
def sp_law_draw_groups (K : PySem.W.Frag) (C : Cs) : Sp := fun vs H Q _ => ∃ b l a, ∃ ns : List Str, ∃ top sc, vs = [.ref b, .ref a, .int top, .int sc] ∧ Bag H b l ∧ H a = some (.lst (ns.map V.str)) ∧ ns.Nodup ∧ (∀ n ∈ ns, isNm n = true) ∧ ns.length ≤ 6 ∧
  1 ≤ top ∧ top ≤ 1000 ∧ 1 ≤ sc ∧ top * sc ≤ 10 ^ 50 ∧ ∀ p (G : Grps) H', H p = none → G.nm = ns → G.ok → TabAt true false K C P0 H' G.tab (.ref p) → Bag H' b l → Kp b H H' → Q (.ref p) H'
def t_law_draw_groups (K : PySem.W.Frag) (C : Cs) : TS :=
  (tSeq (tAsg tDNewK (gName 4))
    (tSeq (tFor (iList K (tVar 1)) (gName 5) (tSeq (tAsg (tOp (rIx K) (tOp (rAddU K) (tLst (tCons (tC .non) tNil)) (tCB rKeysL (tCons (tVar 4) tNil))) (tCall (sp_law_take K) [] E0 (tCons (tVar 0) (tCons (tOp (rAddU K) (tCB rLenR (tCons (tVar 4) tNil)) (tC (.int 1))) tNil)))) (gName 6))
    (tAsg (tOp (rAddU K) (tCall (sp_law_draw_pool K C) [] E0 (tCons (tVar 0) (tCons (tVar 2) (tCons (tVar 3) tNil)))) (tTup (tCons (tVar 6) tNil))) (gSub (tVar 4) (tVar 5) rSetD))))
    (tRet (tVar 4))))
theorem ln_law_draw_groups (h : sp_law_draw_groups K C vs H Q E) : vs.length = 4 := by obtain ⟨_, _, _, _, _, _, rfl, _⟩ := h; rfl
theorem Grps.tab_app (G G' : Grps) : Grps.tab (G ++ G') = G.tab ++ G'.tab := List.map_append
theorem rd_law_draw_groups (h : sp_law_draw_groups K C vs H Q E) : t_law_draw_groups K C (EndsOf Q) (start ["", "", "", "", "", "", ""] vs) H := by
  obtain ⟨b, l, a, ns, top, sc, rfl, B, ha, nd, nm, few, t1, t2, s1, ts, k⟩ := h
  have nab := B.no_names ha
  intro D hD
  have g1 := same_new (o := .dK []) hD
  have e1 : (upd H D (.dK [])) D = some (.dK []) := upd_same
  have B1 := B.same g1
  have nD : D ≠ b := B.nb hD
  have ha1 := g1 _ _ ha
  have nDa : D ≠ a := (ne_of_none ha hD).symm
  have kH : Kp b H (upd H D (.dK [])) := kp_new hD
  dsimp only [gName]
  generalize upd H D (.dK []) = H1 at g1 e1 B1 ha1 kH ⊢
  refine ⟨_, rfl, a, rfl, ⟨_, SqL.of ha1⟩, ?_⟩
  refine for_list (K := K) (a := a) (xs := ns.map V.str) (fun i σ' F => ∃ s5 s6, ∃ G : Grps, ∃ ks, σ' = [some (.ref b), some (.ref a), some (.int top), some (.int sc), some (.ref D), s5, s6] ∧ Kp b H F ∧ Bag F b l ∧ F D = some (.dK ks) ∧ KvAt false K C F G.tab ks ∧ G.nm = ns.take i ∧
      (∀ r ∈ G, isNm r.1 = true ∧ r.2.p.ok) ∧ Falls G i)
    ⟨_, _, [], [], rfl, kH, B1, e1, rfl, rfl, fun r z => (nomatch z), ⟨fun _ => 0, fun _ => Nat.le_refl _, fun r z => (nomatch z)⟩⟩ (fun i σ' F _ ⟨_, _, _, _, _, kF, _⟩ => SqL.of (kF _ _ ha nab)) ?_ ?_
  · rintro i x σ' F hx ⟨s5, s6, G, ks, rfl, kF, BF, hz, kv, gn, ok, fa⟩
    rw [List.getElem?_map] at hx
    cases hn : ns[i]? with
    | none => rw [hn] at hx; cases hx
    | some n =>
      rw [hn] at hx
      cases hx
      have lt := (List.getElem?_eq_some_iff.mp hn).1
      have gl : G.nm.length ≤ 6 := by rw [gn, List.length_take]; omega
      refine draw_key (ns := G.nm) rfl BF hz (by rw [kv.keys.2, Grps.tab_nm]) (by omega) (fun F2 R _ q => ⟨_, rfl, q⟩) fun o F2 ho B2 k2 => ?_
      refine ⟨_, rfl, _, rfl, _, rfl, b, l, top, sc, rfl, B2, t1, t2, s1, ts, fun w p F3 row pok B3 k3 => ?_⟩
      refine ⟨_, rfl, two_fit.1, fun q1 f1 => ?_⟩
      have j1 := same_new (o := .tup [oV o]) f1
      have u1 : (upd F3 q1 (.tup [oV o])) q1 = some (.tup [oV o]) := upd_same
      have row := row.kee (P := P0) (Kee.same j1)
      have B4 := B3.same j1
      have k4 := (k2.trans k3).trans (Kp.of j1)
      generalize upd F3 q1 (.tup [oV o]) = F4 at j1 u1 row B4 k4 ⊢
      obtain ⟨c, r, rfl, sc3, lf⟩ := PoolR.at row
      refine .inr (.inr (.inr ⟨c, q1, _, _, rfl, rfl, sc3, SqT.of u1, ?_, fun z => (nomatch z), fun _ z => (nomatch z), fun _ _ q2 f2 => ?_⟩))
      · exact two_fit.2.2.2
      have j2 := same_new (o := .tup ([V.int p.c, r, .str p.m] ++ [oV o])) f2
      have k5 := k4.trans (Kp.of j2)
      have hz5 := k5 _ _ hz nD
      have lq := kv.length
      rw [Grps.len] at lq
      have gl2 : G.length ≤ 6 := by rwa [Grps.nm, List.length_map] at gl
      refine ⟨_, rfl, _, rfl, D, _, rfl, .inl ⟨ks, .inr n, hz5, rfl, small1000 (by omega), rfl⟩, ?_⟩
      have nn : n ∉ G.nm := by
        rw [gn]
        exact fresh_at nd hn
      have j3 : Kee K C (fun _ => True) (upd F4 q2 (.tup ([V.int p.c, r, .str p.m] ++ [oV o]))) (upd (upd F4 q2 (.tup ([V.int p.c, r, .str p.m] ++ [oV o]))) D (.dK (putK ks (.inr n) (.ref q2)))) := (KeeX.dict kp_put hz5 trivial).toKee
      have et : Grps.tab (G ++ [(n, ⟨p, o⟩)]) = G.tab ++ [(n, GrpR.cells ⟨p, o⟩)] := Grps.tab_app G _
      refine ⟨_, _, G ++ [(n, ⟨p, o⟩)], putK ks (.inr n) (.ref q2), rfl, (kF.trans k5).other hD, (B4.same j2).put nD.symm (B.nl hD).symm, upd_same, ?_, ?_, ?_, fa.put nn ho⟩
      · rw [et]
        exact ((kv.kee (P := P0) (KeeX.bag BF k5).toKee).put (GrpR.mk_at (g := ⟨p, o⟩) (SqT.of upd_same) (lf.kee (P := P0) (Kee.same j2))) (by rw [Grps.tab_nm]; exact nn)).kee j3
      · rw [Grps.nm_app, gn, List.take_add_one, hn]
        rfl
      · intro r2 hr
        rcases List.mem_append.mp hr with hr | hr
        · exact ok r2 hr
        · obtain rfl := List.mem_singleton.mp hr
          exact ⟨nm n (List.mem_of_getElem? hn), pok⟩
  · rintro σ' F ⟨s5, s6, G, ks, rfl, kF, BF, hz, kv, gn, ok, h, hb, q⟩
    rw [List.length_map] at hb gn
    rw [List.take_length] at gn
    exact ⟨_, rfl, k D G F hD gn ⟨ok, h, fun n => by have := hb n; omega, q⟩ ⟨D, ks, rfl, fun z => z, hz, kv⟩ BF kF⟩
end
end Pk
set_option Elab.async false
set_option linter.all false
set_option maxRecDepth 100000
set_option maxHeartbeats 2000000
namespace Pk
open PySem PySem.Spec L2 PyProof.Rows PkC
/-! ### parts as a dict -/
def PtsAt (ex : Bool) (K : PySem.W.Frag) (C : Cs) (H : Hp) (A : Parts) (v : V) : Prop := ∃ d kvs vp vh vk vs, v = .ref d ∧ Has ex H d kvs ∧ valV kvs (.inr "pipe") = some vp ∧ valV kvs (.inr "houses") = some vh ∧ valV kvs (.inr "kinds") = some vk ∧
  valV kvs (.inr "streams") = some vs ∧ RowAt false K C H A.p.cells vp ∧ TabAt ex false K C P0 H A.hs.tab vh ∧ TabAt ex false K C P0 H A.ks.tab vk ∧ TabAt ex false K C P0 H A.ss.tab vs
section
variable {K : PySem.W.Frag} {C : Cs} {vs : List V} {H H' G F : Hp} {Q : VK} {E : XK} {b l d : Addr} {top sc : Int} {σ : L2.St} {P : Addr → Prop} {ex t : Bool} {T : Tab} {v : V} {A : Parts}
theorem PtsAt.keeX (h : PtsAt ex K C H A v) (k : KeeX K C P0 H H') : PtsAt ex K C H' A v := by
  obtain ⟨d, kvs, vp, vh, vk, vs, e, hd, e1, e2, e3, e4, h1, h2, h3, h4⟩ := h
  refine ⟨d, kvs, vp, vh, vk, vs, e, ?_, e1, e2, e3, e4, h1.kee k.toKee, h2.keeX k, h3.keeX k, h4.keeX k⟩
  cases ex with
  | true => exact k.dk _ _ (fun z => z) hd
  | false => exact k.rd _ _ (fun z => z) hd
theorem PtsAt.kee (h : PtsAt false K C H A v) (k : Kee K C P0 H H') : PtsAt false K C H' A v := by
  obtain ⟨d, kvs, vp, vh, vk, vs, e, hd, e1, e2, e3, e4, h1, h2, h3, h4⟩ := h
  exact ⟨d, kvs, vp, vh, vk, vs, e, k.rd _ _ (fun z => z) hd, e1, e2, e3, e4, h1.kee k, h2.kee k, h3.kee k, h4.kee k⟩
theorem PtsAt.rd (h : PtsAt ex K C H A v) : PtsAt false K C H A v := by
  obtain ⟨d, kvs, vp, vh, vk, vs, e, hd, e1, e2, e3, e4, h1, h2, h3, h4⟩ := h
  exact ⟨d, kvs, vp, vh, vk, vs, e, hd.rd, e1, e2, e3, e4, h1, h2.rd, h3.rd, h4.rd⟩
theorem PtsAt.same (h : PtsAt ex K C H A v) (s : Same H H') : PtsAt ex K C H' A v := h.keeX (KeeX.same s)
theorem PtsAt.bag (h : PtsAt ex K C H A v) (B : Bag H b l) (k : Kp b H H') : PtsAt ex K C H' A v := h.keeX (KeeX.bag B k)
theorem PtsAt.gp (h : PtsAt ex K C H A v) : ∃ d w, v = .ref d ∧ DGet H d (.str "pipe") (some w) ∧ RowAt false K C H A.p.cells w := by
  obtain ⟨d, kvs, vp, vh, vk, vs, e, hd, e1, e2, e3, e4, h1, h2, h3, h4⟩ := h
  exact ⟨d, vp, e, .inl ⟨kvs, .inr "pipe", hd.rd, rfl, e1.symm⟩, h1⟩
theorem PtsAt.gh (h : PtsAt ex K C H A v) : ∃ d w, v = .ref d ∧ DGet H d (.str "houses") (some w) ∧ TabAt ex false K C P0 H A.hs.tab w := by
  obtain ⟨d, kvs, vp, vh, vk, vs, e, hd, e1, e2, e3, e4, h1, h2, h3, h4⟩ := h
  exact ⟨d, vh, e, .inl ⟨kvs, .inr "houses", hd.rd, rfl, e2.symm⟩, h2⟩
theorem PtsAt.gk (h : PtsAt ex K C H A v) : ∃ d w, v = .ref d ∧ DGet H d (.str "kinds") (some w) ∧ TabAt ex false K C P0 H A.ks.tab w := by
  obtain ⟨d, kvs, vp, vh, vk, vs, e, hd, e1, e2, e3, e4, h1, h2, h3, h4⟩ := h
  exact ⟨d, vk, e, .inl ⟨kvs, .inr "kinds", hd.rd, rfl, e3.symm⟩, h3⟩
theorem PtsAt.gs (h : PtsAt ex K C H A v) : ∃ d w, v = .ref d ∧ DGet H d (.str "streams") (some w) ∧ TabAt ex false K C P0 H A.ss.tab w := by
  obtain ⟨d, kvs, vp, vh, vk, vs, e, hd, e1, e2, e3, e4, h1, h2, h3, h4⟩ := h
  exact ⟨d, vs, e, .inl ⟨kvs, .inr "streams", hd.rd, rfl, e4.symm⟩, h4⟩
/-! names as data -/
theorem dp_names : ∀ ns : List Str, DpAll K G (ns.map V.str) (ns.map PyData.str)
  | [] => .nil
  | n :: r => .cons (.str _) (dp_names r)
theorem nm_lay {n : Str} (h : isNm n = true) : (PyData.str n).canLay0 = true := by
  unfold isNm at h
  rw [Bool.and_eq_true] at h
  have h2 := h.2
  rw [List.all_eq_true] at h2
  show PyData.strOk n = true
  unfold PyData.strOk
  rw [Array.all_eq_true']
  intro c hc
  have q := h2 c (Array.mem_toList_iff.mpr hc)
  unfold lowc at q
  simp at q
  simp
  omega
theorem sh_names (ns : List Str) (h : ∀ n ∈ ns, isNm n = true) : SeqAt.shaped (.list (ns.map PyData.str)) = true := by
  have h1 : PyData.canLayAll0 (ns.map PyData.str) = true := by
    induction ns with
    | nil => rfl
    | cons n r ih => simp only [List.map_cons, PyData.canLayAll0, ih fun m hm => h m (List.mem_cons_of_mem _ hm), nm_lay (h n (List.mem_cons_self ..)), Bool.and_true]
  have h2 : PyData.depthAll (ns.map PyData.str) ≤ 0 := by
    clear h h1
    induction ns with
    | nil => simp [PyData.depthAll]
    | cons n r ih => simp only [List.map_cons, PyData.depthAll, PyData.depth]; omega
  refine shaped_iff.mpr ⟨by simp only [PyData.canLay0]; exact h1, ?_⟩
  simp only [PyData.depth]
  omega
theorem eqv_names (ns : List Str) : PyData.eqv (.list (ns.map PyData.str)) (.list []) = decide (ns = []) := by
  cases ns with
  | nil => rfl
  | cons n r => rfl
/-! ### a stream -/
def Linked (A : Parts) (s : StmR) : Prop := (∀ n, s.h = some n → n ∈ A.hs.nm) ∧ (∀ n, s.k = some n → n ∈ A.ks.nm) ∧ ∀ n, s.g = some n → ∃ s', (n, s') ∈ A.ss ∧ s'.g = none ∧ s'.h = s.h ∧ s'.k = s.k
def freeOf (r : Str × StmR) : Option Str := match r.2.g with
  | none => some r.1
  | some _ => none
def sp_law_draw_stream (K : PySem.W.Frag) (C : Cs) : Sp := fun vs H Q _ => ∃ b l v top sc A, vs = [.ref b, v, .int top, .int sc] ∧ Bag H b l ∧ PtsAt true K C H A v ∧ A.hs.length ≤ 6 ∧ A.ks.length ≤ 6 ∧ A.ss.length ≤ 6 ∧ A.ss.nm.Nodup ∧ (∀ r ∈ A.ss, isNm r.1 = true ∧ Linked A r.2) ∧
  1 ≤ top ∧ top ≤ 1000 ∧ 1 ≤ sc ∧ top * sc ≤ 10 ^ 50 ∧ ∀ w (s : StmR) H', RowAt false K C H' s.cells w → s.ok → Linked A s → Bag H' b l → Kp b H H' → Q w H'
def t_law_draw_stream (K : PySem.W.Frag) : TS :=
  (tSeq (tAsg (tOp (rIx K) (tOp (rAddU K) (tLst (tCons (tC .non) tNil)) (tCB rKeysL (tCons (tDGet (tVar 1) (tC (.str "houses"))) tNil))) (tCall (sp_law_take K) [] E0 (tCons (tVar 0) (tCons (tOp (rAddU K) (tCB rLenR (tCons (tDGet (tVar 1) (tC (.str "houses"))) tNil)) (tC (.int 1))) tNil)))) (gName 4))
    (tSeq (tAsg (tOp (rIx K) (tOp (rAddU K) (tLst (tCons (tC .non) tNil)) (tCB rKeysL (tCons (tDGet (tVar 1) (tC (.str "kinds"))) tNil))) (tCall (sp_law_take K) [] E0 (tCons (tVar 0) (tCons (tOp (rAddU K) (tCB rLenR (tCons (tDGet (tVar 1) (tC (.str "kinds"))) tNil)) (tC (.int 1))) tNil)))) (gName 5))
    (tSeq (tAsg (tLockE (tLc (iKeys (tDGet (tVar 1) (tC (.str "streams")))) (gName 11) (tTest (tOp (rIsNn) (tOp (rIx K) (tDGet (tDGet (tVar 1) (tC (.str "streams"))) (tVar 11)) (tC (.int 5))) (tC .non))) (tVar 11) [11])) (gName 6))
    (tSeq (tPar 7 8 (tCons (tC .non) (tCons (tCall (sp_law_draw_tree K 3) [] E0 (tCons (tVar 0) (tCons (tVar 2) (tCons (tVar 3) (tCons (tC (.int 1)) tNil))))) tNil)))
    (Evl.tCut (tIfS (tAnd (tTest (tOp (rNeU K) (tVar 6) (tLst tNil))) (tTest (tOp (rEqU K) (tCall (sp_law_take K) [] E0 (tCons (tVar 0) (tCons (tC (.int 3)) tNil))) (tC (.int 0))))) (tSeq (tAsg (tOp (rIx K) (tVar 6) (tCall (sp_law_take K) [] E0 (tCons (tVar 0) (tCons (tCB (rLenU K) (tCons (tVar 6) tNil)) tNil)))) (gName 7))
    (tAsg (tSl (rSlU K) (tDGet (tDGet (tVar 1) (tC (.str "streams"))) (tVar 7)) (tPart (tC (.int 3))) (tPart (tC (.int 5)))) (gTup K 2 (gCons (gName 4) (gCons (gName 5) gNil))))) tNext)
    (tSeq (tAsg (tOp (rIx K) (tLst (tCons (tC .non) (tCons (tCall (sp_law_draw_size K) [] E0 (tCons (tVar 0) (tCons (tVar 2) (tCons (tVar 3) tNil)))) (tCons (tOp (rAddU K) (tC (.int 1)) (tCall (sp_law_take K) [] E0 (tCons (tVar 0) (tCons (tC (.int 3)) tNil)))) tNil)))) (tCall (sp_law_take K) [] E0 (tCons (tVar 0) (tCons (tC (.int 3)) tNil)))) (gName 9))
    (tSeq (tAsg (tOp (rAddU K) (tOp (rSubI) (tOp (rAddU K) (tCall (sp_law_threshold K 7) [] E0 (tCons (tVar 8) tNil)) (tOrT K (tVar 9) (tC (.int 1)))) (tC (.int 2))) (tCall (sp_law_draw_size K) [] E0 (tCons (tVar 0) (tCons (tVar 2) (tCons (tVar 3) tNil))))) (gName 10))
    (tRet (tTup (tCons (tVar 10) (tCons (tVar 8) (tCons (tVar 9) (tCons (tVar 4) (tCons (tVar 5) (tCons (tVar 7) tNil)))))))))))))))
theorem ln_law_draw_stream (h : sp_law_draw_stream K C vs H Q E) : vs.length = 4 := by obtain ⟨_, _, _, _, _, _, rfl, _⟩ := h; rfl
def capN : Option Int → Int
  | none => 0
  | some i => i - 1
theorem cut35 {a b c d e f : V} : cutV [a, b, c, d, e, f] (some 3) (some 5) = [d, e] := rfl
theorem free_strs : ∀ S : Stms, S.filterMap (fun r => (freeOf r).map V.str) = (S.filterMap freeOf).map V.str
  | [] => rfl
  | r :: S => by
    rw [List.filterMap_cons, List.filterMap_cons]
    cases h : freeOf r with
    | none => exact free_strs S
    | some n => rw [Option.map_some, List.map_cons, free_strs S]
theorem free_mem {S : Stms} {n : Str} (h : n ∈ S.filterMap freeOf) : ∃ s, (n, s) ∈ S ∧ s.g = none := by
  obtain ⟨⟨m, s⟩, h1, h2⟩ := List.mem_filterMap.mp h
  unfold freeOf at h2
  cases e : s.g with
  | none =>
    have h2 : some m = some n := by simpa [e] using h2
    cases h2
    exact ⟨s, h1, e⟩
  | some z =>
    rw [show (m, s).2.g = some z from e] at h2
    cases h2
theorem rd_law_draw_stream (h : sp_law_draw_stream K C vs H Q E) : t_law_draw_stream K (EndsOf Q) (start ["", "", "", "", "", "", "", "", "", "", "", ""] vs) H := by
  obtain ⟨b, l, v, top, sc, A, rfl, B, pt, h6, k6, s6, nd, rows, t1, t2, s1, ts, k⟩ := h
  have ptk : ∀ {F}, Kp b H F → PtsAt true K C F A v := fun q => pt.bag B q
  obtain ⟨d, kvs, vp, vh, vk, vs, rfl, hd, ep, eh, ek, es, rp, ⟨ah, kh, rfl, _, hh, kvh⟩, ⟨ak, kk, rfl, _, hk, kvk⟩, ⟨as, ks, rfl, _, hs, kvs'⟩⟩ := id pt
  have hd : H d = some (.dK kvs) := hd
  have hh : H ah = some (.dK kh) := hh
  have hk : H ak = some (.dK kk) := hk
  have hs : H as = some (.dK ks) := hs
  have nb : ∀ {c : Addr} {q : List (Key × V)}, H c = some (.dK q) → c ≠ b := fun e => by
    obtain ⟨ys, hb⟩ := B.at
    exact ne_of e hb fun z => nomatch z
  refine draw_key (ns := A.hs.nm) rfl B hh (by rw [kvh.keys.2, Grps.tab_nm]) (by rw [Grps.nm, List.length_map]; omega) (fun F R kF q => ⟨_, rfl, d, _, rfl, .inl ⟨kvs, .inr "houses", .inl (kF _ _ hd (nb hd)), rfl, eh.symm⟩, q⟩) fun oh H1 mh B1 k1 => ?_
  refine draw_key (ns := A.ks.nm) rfl B1 (k1 _ _ hk (nb hk)) (by rw [kvk.keys.2, Grps.tab_nm]) (by rw [Grps.nm, List.length_map]; omega) (fun F R kF q => ⟨_, rfl, d, _, rfl, .inl ⟨kvs, .inr "kinds", .inl ((k1.trans kF) _ _ hd (nb hd)), rfl, ek.symm⟩, q⟩) fun ok H2 mk B2 k2 => ?_
  have k2 := k1.trans k2
  dsimp only [gName, List.set]
  have pt2 := ptk k2
  have hs2 := k2 _ _ hs (nb hs)
  have hd2 := k2 _ _ hd (nb hd)
  have lk := kvs'.length
  rw [Stms.len] at lk
  dsimp only [tSeq, tAsg]
  refine lc_keys (fun r => (A.ss[r]?).bind fun s => (freeOf s).map V.str) hs2 (by omega) (fun o R q => ⟨_, rfl, d, _, rfl, .inl ⟨kvs, .inr "streams", (Kee.lock (K := K) (C := C) (P := P0) hs2).rd _ _ (fun z => z) (.inl hd2), rfl, es.symm⟩, q⟩) (fun x => rfl) (fun o r key w F e sF R Ry hnn hy => ?_) (fun p3 F f3 s3 z3 => ?_)
  · obtain ⟨n, cs, e1, rfl, _⟩ := kvs'.at e
    unfold Stms.tab at e1
    rw [List.getElem?_map] at e1
    obtain ⟨⟨n', g⟩, e3, e4⟩ := Option.map_eq_some_iff.mp e1
    cases e4
    have mg : (n', g) ∈ A.ss := List.mem_of_getElem? e3
    have kF : Kee K C P0 H2 F := (Kee.lock hs2).trans (Kee.same sF)
    have tF : TabAt false false K C P0 F A.ss.tab (.ref as) := TabAt.kee ⟨as, ks, rfl, fun z => z, .inl hs2, kvs'.kee (P := P0) (KeeX.bag B k2).toKee⟩ kF
    obtain ⟨_, w2, e5, dg, row⟩ := Stms.look tF nd mg
    cases e5
    obtain ⟨a5, r5, rfl, s5, _⟩ := StmR.at row
    refine ⟨_, rfl, d, _, rfl, .inl ⟨kvs, .inr "streams", kF.rd _ _ (fun z => z) (.inl hd2), rfl, es.symm⟩, _, rfl, as, _, rfl, dg, .inr (.inl ⟨a5, _, 5, _, rfl, rfl, s5, rfl, rfl, _, rfl, ?_⟩)⟩
    have ef : (A.ss[r]?).bind (fun s => (freeOf s).map V.str) = (freeOf (n', g)).map V.str := by rw [e3]; rfl
    cases eg : g.g with
    | none =>
      have e6 : freeOf (n', g) = some n' := by unfold freeOf; rw [show (n', g).2.g = none from eg]
      refine iteT' (decide_eq_true rfl) ⟨_, rfl, hy _ _ (Same.refl _) ?_⟩
      rw [ef, e6]
      rfl
    | some z =>
      have e6 : freeOf (n', g) = none := by unfold freeOf; rw [show (n', g).2.g = some z from eg]
      refine iteF' (decide_eq_false fun z => nomatch z) (hnn _ (Same.refl _) ?_)
      rw [ef, e6]
      rfl
  rw [lk, range_get, free_strs] at z3
  have mf : ∀ n ∈ A.ss.filterMap freeOf, ∃ s, (n, s) ∈ A.ss ∧ s.g = none := fun n h => free_mem h
  have lf : (A.ss.filterMap freeOf).length ≤ 6 := Nat.le_trans (List.length_filterMap_le ..) s6
  have nf : ∀ n ∈ A.ss.filterMap freeOf, isNm n = true := fun n h => by
    obtain ⟨s, h1, _⟩ := mf n h
    exact (rows _ h1).1
  generalize A.ss.filterMap freeOf = fr at z3 mf lf nf
  have k3 : Kp b H F := k2.trans (Kp.of s3)
  have B3 := B2.same s3
  have n3 : p3 ≠ b := B2.nb f3
  refine ⟨_, rfl, _, rfl, _, rfl, b, l, top, sc, 1, rfl, B3, t1, t2, s1, ts, by decide, fun vt T F1 a1 a2 a3 a4 B4 k4 => ⟨_, _, rfl, ?_⟩⟩
  have k4 := k3.trans k4
  have z4 := (show Kp b F F1 from ‹_›) _ _ z3 n3
  refine ⟨fun σ2 G2 => ∃ (h k g : Option Str), σ2 = [some (.ref b), some (.ref d), some (.int top), some (.int sc), some (oV h), some (oV k), some (.ref p3), some (oV g), some vt, none, none, none] ∧ Kp b F1 G2 ∧ Bag G2 b l ∧
      (∀ n, h = some n → n ∈ A.hs.nm) ∧ (∀ n, k = some n → n ∈ A.ks.nm) ∧ ∀ n, g = some n → ∃ s', (n, s') ∈ A.ss ∧ s'.g = none ∧ s'.h = h ∧ s'.k = k, ?_, ?_⟩
  · refine ⟨_, rfl, Nat.zero_le _, fun q fq => .inr ⟨_, _, .lst (SqL.of (same_new fq _ _ z4)) (dp_names fr), .lst (SqL.of upd_same) .nil, sh_names fr nf, by decide +kernel, _, rfl, ?_⟩⟩
    have sq := same_new (o := .lst []) fq
    have B5 := B4.same sq
    have k5 : Kp b F1 (upd F1 q (.lst [])) := Kp.of sq
    generalize upd F1 q (.lst []) = F2 at sq B5 k5 ⊢
    rw [eqv_names]
    by_cases e : fr = []
    · refine iteF' (by rw [decide_eq_true e]; rfl) (iteF' rfl ?_)
      exact ⟨oh, ok, none, rfl, k5, B5, mh, mk, fun _ z => nomatch z⟩
    · refine iteT' (by rw [decide_eq_false e]; rfl) ?_
      refine ⟨_, rfl, b, l, 3, rfl, B5, by decide, by decide, fun j F3 j0 j1 B6 k6 => .inl ⟨rfl, _, rfl, ?_⟩⟩
      have k6 := k5.trans k6
      refine ifI (fun _ => ?_) (fun _ => ⟨oh, ok, none, rfl, k6, B6, mh, mk, fun _ z => nomatch z⟩)
      have z6 := k6 _ _ z4 n3
      have pos : 0 < fr.length := List.length_pos_iff.mpr e
      refine ⟨_, rfl, _, rfl, _, rfl, .inl ⟨_, _, rfl, .inl ⟨_, SqL.of z6, rfl⟩, b, l, _, rfl, B6, ?_, ?_, fun i F4 i0 i1 B7 k7 => ?_⟩⟩
      · rw [List.length_map]; omega
      · rw [List.length_map]; omega
      rw [List.length_map] at i1
      obtain ⟨m, rfl⟩ : ∃ m : Nat, i = (m : Int) := ⟨i.toNat, by omega⟩
      have lt : m < fr.length := by omega
      obtain ⟨s', ms, gs⟩ := mf _ (List.getElem_mem lt)
      have k7 := k6.trans k7
      have at7 : atI (fr.map V.str) (m : Int) = some (.str fr[m]) := atI_nat (by rw [List.getElem?_map, List.getElem?_eq_getElem lt]; rfl)
      refine .inl ⟨p3, _, _, .str fr[m], rfl, rfl, SqL.of (k7 _ _ z4 n3), at7, ?_⟩
      have kH7 := k4.trans k7
      obtain ⟨d', kvs2, vp', vh', vk', vs', e0, hd', ep', eh', ek', es', rp', th', tk', ts'⟩ := ptk kH7
      cases e0
      obtain ⟨a7, w7, e7, dg7, row7⟩ := Stms.look ts' nd ms
      subst e7
      obtain ⟨a8, r8, rfl, s8, _⟩ := StmR.at row7
      refine ⟨_, rfl, d, _, rfl, .inl ⟨kvs2, .inr "streams", .inl hd', rfl, es'.symm⟩, _, rfl, a7, _, rfl, dg7, _, rfl, _, rfl, .inr ⟨a8, _, rfl, s8, fun w => ?_, fun q2 f2 => ?_⟩⟩
      · have w1 : HT.sIx 6 0 (some ((3 : Nat) : Int)) = 0 := w.1
        rw [HT.sIx_nat] at w1
        exact absurd w1 (by decide)
      · rw [cut35]
        have sq2 := same_new (o := .tup [oV s'.h, oV s'.k]) f2
        obtain ⟨q1, q3, q4⟩ := (rows _ ms).2
        exact ⟨q2, _, rfl, SqT.of upd_same, rfl, _, _, rfl, _, _, rfl, rfl, s'.h, s'.k, some fr[m], rfl, k7.trans (Kp.of sq2), B7.same sq2, q1, q3, fun n e => by cases e; exact ⟨s', ms, gs, rfl, rfl⟩⟩
  rintro σ' F2 ⟨h, kd, g, rfl, k5, B5, mh, mk, mg⟩
  have k5 := k4.trans k5
  have hT : TrAt K F2 vt T := a1.mono (B4.tups ‹Kp b F1 F2›)
  have tp := Tr.top_ok a2
  have l6 : T.lv ≤ 6 := by have : T.lv ≤ 2 ^ 1 := a4; omega
  refine ⟨_, rfl, _, rfl, _, rfl, b, l, top, sc, rfl, B5, t1, t2, s1, fun z F3 z0 z1 B6 k6 => ?_⟩
  refine ⟨_, rfl, b, l, 3, rfl, B6, by decide, by decide, fun y F4 y0 y1 B7 k7 => .inl ⟨_, _, rfl, rfl, two_fit.2.2.1, fun q fq => ?_⟩⟩
  have sq := same_new (o := .lst [V.non, .int z, .int (1 + y)]) fq
  have zq : (upd F4 q (.lst [V.non, .int z, .int (1 + y)])) q = some (.lst [V.non, .int z, .int (1 + y)]) := upd_same
  have B8 := B7.same sq
  have nq : q ≠ b := B7.nb fq
  have k8 : Kp b F2 (upd F4 q (.lst [V.non, .int z, .int (1 + y)])) := (k6.trans k7).trans (Kp.of sq)
  generalize upd F4 q (.lst [V.non, .int z, .int (1 + y)]) = F5 at sq zq B8 k8 ⊢
  refine ⟨_, rfl, b, l, 3, rfl, B8, by decide, by decide, fun j F6 j0 j1 B9 k9 => ?_⟩
  have pick : ∃ mo : Option Int, atI [V.non, .int z, .int (1 + y)] j = some (oI mo) ∧ ∀ i, mo = some i → 1 ≤ i ∧ i ≤ 10 ^ 50 := by
    rcases (by omega : j = 0 ∨ j = 1 ∨ j = 2) with rfl | rfl | rfl
    · exact ⟨none, rfl, fun i e => nomatch e⟩
    · exact ⟨some z, rfl, fun i e => by cases e; omega⟩
    · exact ⟨some (1 + y), rfl, fun i e => by cases e; omega⟩
  obtain ⟨mo, hmo, bmo⟩ := pick
  have k9 := k8.trans k9
  refine .inl ⟨q, _, j, oI mo, rfl, rfl, SqL.of ((show Kp b F5 F6 from ‹_›) _ _ zq nq), hmo, ?_⟩
  have hT6 : TrAt K F6 vt T := hT.mono (B5.tups k9)
  dsimp only [gName, List.set]
  refine ⟨_, rfl, vt, T, rfl, hT6, Tr.dp6 l6, fun F7 s7 => ?_⟩
  -- the cap, or 1
  have cap : ∃ c1 : Int, 1 ≤ c1 ∧ c1 ≤ 10 ^ 50 ∧ capN mo = c1 - 1 ∧ ∀ R : VK, R (.int c1) F7 → tOrT K (tVar 9) (tC (.int 1)) [some (.ref b), some (.ref d), some (.int top), some (.int sc), some (oV h), some (oV kd), some (.ref p3), some (oV g), some vt, some (oI mo), none, none] F7 R := by
    cases mo with
    | none => exact ⟨1, by decide, by decide, rfl, fun R r => ⟨_, rfl, false, rfl, iteF' rfl r⟩⟩
    | some i =>
      obtain ⟨b1, b2⟩ := bmo i rfl
      refine ⟨i, b1, b2, rfl, fun R r => ⟨_, rfl, true, ?_, iteT' rfl r⟩⟩
      show true = (i != 0)
      rw [bne_iff_ne.mpr (by omega)]
  obtain ⟨c1, cb1, cb2, cn, cr⟩ := cap
  refine cr _ (.inl ⟨_, _, rfl, rfl, _, _, rfl, rfl, ?_⟩)
  have B10 := B9.same s7
  refine ⟨_, rfl, _, rfl, _, rfl, b, l, top, sc, rfl, B10, t1, t2, s1, fun x F8 x0 x1 B11 k11 => .inl ⟨_, _, rfl, rfl, ?_⟩⟩
  have hT8 : TrAt K F8 vt T := (hT6.mono (Tups.same s7)).mono (B10.tups k11)
  refine ⟨_, rfl, _, rfl, _, rfl, _, rfl, _, rfl, _, rfl, Nat.le_of_lt (small1000 (show 6 ≤ 1000 by decide)), fun r hr => ?_⟩
  have sr := same_new (o := .tup [V.int (T.top + c1 - 2 + x), vt, oI mo, oV h, oV kd, oV g]) hr
  refine k (.ref r) ⟨T.top + c1 - 2 + x, T, mo, h, kd, g⟩ _ (StmR.mk_at (SqT.of upd_same) ⟨hT8.mono (Tups.same sr), a2, l6⟩) ⟨?_, ?_, ?_, ?_, a2, l6⟩ ⟨mh, mk, mg⟩ (B11.same sr) (((k5.trans k9).trans (Kp.of s7)).trans (k11.trans (Kp.of sr)))
  · show 1 ≤ T.top + c1 - 2 + x
    omega
  · show T.top + c1 - 2 + x ≤ 10 ^ 60
    omega
  · intro i e
    have := bmo i e
    omega
  · have en : StmR.need ⟨T.top + c1 - 2 + x, T, mo, h, kd, g⟩ = T.top + capN mo := rfl
    rw [en, cn]
    show T.top + (c1 - 1) ≤ T.top + c1 - 2 + x
    omega
end
end Pk
set_option Elab.async false
set_option linter.all false
set_option maxRecDepth 100000
set_option maxHeartbeats 2000000
namespace Pk
open PySem PySem.Spec L2 PyProof.Rows PkC
section
variable {K : PySem.W.Frag} {C : Cs} {vs : List V} {H H' G F F' : Hp} {Q : VK} {E : XK} {b l d : Addr} {top sc : Int} {σ : L2.St} {P : Addr → Prop} {ex t : Bool} {T : Tab} {v : V} {A : Parts}
theorem cutV_mid {xs : List V} {i n : Nat} (hi : i ≤ xs.length) : cutV xs (some (i : Int)) (some ((i + n : Nat) : Int)) = (xs.drop i).take n := by
  unfold cutV
  rw [HT.sIx_nat, HT.sIx_nat, Nat.min_eq_left hi]
  by_cases h : i + n ≤ xs.length
  · rw [Nat.min_eq_left h, Nat.add_sub_cancel_left]
  · rw [Nat.min_eq_right (by omega), List.take_of_length_le (by rw [List.length_drop]; exact Nat.le_refl _), List.take_of_length_le (by rw [List.length_drop]; omega)]
/-- what of the parts stands while streams are drawn -/
structure PRaw (K : PySem.W.Frag) (C : Cs) (F : Hp) (p : PoolR) (hs ks : Grps) (D Dh Dk : Addr) (kvs kh kk : List (Key × V)) (vp : V) : Prop where
  dd : F D = some (.dK kvs)
  rp : RowAt false K C F p.cells vp
  dh : F Dh = some (.dK kh)
  vh : KvAt false K C F hs.tab kh
  dk : F Dk = some (.dK kk)
  vk : KvAt false K C F ks.tab kk
theorem PRaw.keeX {p : PoolR} {hs ks : Grps} {D Dh Dk : Addr} {kvs kh kk : List (Key × V)} {vp : V} (r : PRaw K C F p hs ks D Dh Dk kvs kh kk vp) (k : KeeX K C P F F') (n1 : ¬ P D) (n2 : ¬ P Dh) (n3 : ¬ P Dk) : PRaw K C F' p hs ks D Dh Dk kvs kh kk vp :=
  ⟨k.dk _ _ n1 r.dd, r.rp.kee k.toKee, k.dk _ _ n2 r.dh, r.vh.kee k.toKee, k.dk _ _ n3 r.dk, r.vk.kee k.toKee⟩
theorem Linked.more {s : StmR} {r : Str × StmR} {p : PoolR} {hs ks : Grps} {ss : Stms} (h : Linked ⟨p, hs, ks, ss⟩ s) : Linked ⟨p, hs, ks, ss ++ [r]⟩ s :=
  ⟨h.1, h.2.1, fun n e => by obtain ⟨s', q1, q2⟩ := h.2.2 n e; exact ⟨s', List.mem_append_left _ q1, q2⟩⟩
theorem Stms.nm_app (S S' : Stms) : Stms.nm (S ++ S') = S.nm ++ S'.nm := List.map_append
theorem Stms.tab_app (S S' : Stms) : Stms.tab (S ++ S') = S.tab ++ S'.tab := List.map_append
/-- twelve names, cut in three -/
theorem three_parts {ms : List Str} {f s m : Nat} (nd : ms.Nodup) (l12 : ms.length = 12) (hf : f ≤ 3) (hm : m ≤ 6) (ne : ∀ x ∈ ms, x ≠ "pipe") : (("pipe" : Str) :: ((ms.drop 6).take f ++ (ms.drop 9).take s ++ ms.take m)).Nodup := by
  have sub : ∀ x ∈ (ms.drop 6).take f ++ (ms.drop 9).take s ++ ms.take m, x ∈ ms := by
    intro x hx
    rcases List.mem_append.mp hx with hx | hx
    · rcases List.mem_append.mp hx with hx | hx
      · exact List.mem_of_mem_drop (List.mem_of_mem_take hx)
      · exact List.mem_of_mem_drop (List.mem_of_mem_take hx)
    · exact List.mem_of_mem_take hx
  refine List.nodup_cons.mpr ⟨fun h => ne _ (sub _ h) rfl, ?_⟩
  have e1 : ms.take 6 ++ ms.drop 6 = ms := List.take_append_drop ..
  have e2 : (ms.drop 6).take 3 ++ ms.drop 9 = ms.drop 6 := by
    have := List.take_append_drop 3 (ms.drop 6)
    rwa [List.drop_drop] at this
  have nd1 : (ms.take 6 ++ ms.drop 6).Nodup := by rw [e1]; exact nd
  obtain ⟨a1, a2, a3⟩ := List.nodup_append.mp nd1
  have nd2 : ((ms.drop 6).take 3 ++ ms.drop 9).Nodup := by rw [e2]; exact a2
  obtain ⟨b1, b2, b3⟩ := List.nodup_append.mp nd2
  have s6 : ∀ x, x ∈ ms.take m → x ∈ ms.take 6 := fun x hx => by
    have e : ms.take m = (ms.take 6).take m := by rw [List.take_take, Nat.min_eq_left hm]
    rw [e] at hx
    exact List.mem_of_mem_take hx
  have s3 : ∀ x, x ∈ (ms.drop 6).take f → x ∈ (ms.drop 6).take 3 := fun x hx => by
    have e : (ms.drop 6).take f = ((ms.drop 6).take 3).take f := by rw [List.take_take, Nat.min_eq_left hf]
    rw [e] at hx
    exact List.mem_of_mem_take hx
  have d6 : ∀ x, x ∈ (ms.drop 6).take 3 → x ∈ ms.drop 6 := fun x hx => List.mem_of_mem_take hx
  have d9 : ∀ x, x ∈ ms.drop 9 → x ∈ ms.drop 6 := fun x hx => by rw [← e2]; exact List.mem_append_right _ hx
  refine List.nodup_append.mpr ⟨List.nodup_append.mpr ⟨?_, ?_, fun x hx y hy => b3 x (s3 x hx) y (List.mem_of_mem_take hy)⟩, ?_, fun x hx y hy => ?_⟩
  · exact a2.sublist (List.take_sublist ..)
  · exact b2.sublist (List.take_sublist ..)
  · exact nd.sublist (List.take_sublist ..)
  · refine fun e => a3 y (s6 y hy) x ?_ e.symm
    rcases List.mem_append.mp hx with hx | hx
    · exact d6 x (s3 x hx)
    · exact d9 x (List.mem_of_mem_take hx)
theorem putK_new {ks : List (Key × V)} {k : Key} {v : V} (h : ∀ kv ∈ ks, kv.1 ≠ k) : putK ks k v = ks ++ [(k, v)] := by
  have e : (ks.any fun kv => decide (kv.1 = k)) = false := by
    rw [List.any_eq_false]
    exact fun kv hkv z => h kv hkv (of_decide_eq_true z)
  unfold putK
  rw [e, if_neg (by decide)]
theorem word_ne : (Sum.inr "pipe" : Key) ≠ .inr "streams" ∧ (Sum.inr "pipe" : Key) ≠ .inr "houses" ∧ (Sum.inr "pipe" : Key) ≠ .inr "kinds" ∧ (Sum.inr "streams" : Key) ≠ .inr "houses" ∧ (Sum.inr "streams" : Key) ≠ .inr "kinds" ∧ (Sum.inr "houses" : Key) ≠ .inr "kinds" := by decide +kernel
theorem kv_two {vp vs : V} : mergeK [] [((.inr "pipe" : Key), vp), (.inr "streams", vs)] = [((.inr "pipe" : Key), vp), (.inr "streams", vs)] := by
  show putK (putK [] ((.inr "pipe") : Key) vp) ((.inr "streams") : Key) vs = _
  rw [putK_new (ks := []) fun kv h => (nomatch h), List.nil_append, putK_new fun kv h => by rw [List.mem_singleton.mp h]; exact word_ne.1]
  rfl
theorem kv_three {vp vs vh : V} : putK [((.inr "pipe" : Key), vp), (.inr "streams", vs)] (.inr "houses") vh = [((.inr "pipe" : Key), vp), (.inr "streams", vs), (.inr "houses", vh)] := by
  rw [putK_new]
  · rfl
  · intro kv h
    rcases List.mem_cons.mp h with rfl | h
    · exact word_ne.2.1
    · rw [List.mem_singleton.mp h]
      exact word_ne.2.2.2.1
theorem kv_four {vp vs vh vk : V} : putK [((.inr "pipe" : Key), vp), (.inr "streams", vs), (.inr "houses", vh)] (.inr "kinds") vk = [((.inr "pipe" : Key), vp), (.inr "streams", vs), (.inr "houses", vh), (.inr "kinds", vk)] := by
  rw [putK_new]
  · rfl
  · intro kv h
    rcases List.mem_cons.mp h with rfl | h
    · exact word_ne.2.2.1
    rcases List.mem_cons.mp h with rfl | h
    · exact word_ne.2.2.2.2.1
    · rw [List.mem_singleton.mp h]
      exact word_ne.2.2.2.2.2
theorem kv_get {vp vs vh vk : V} : valV [((.inr "pipe" : Key), vp), (.inr "streams", vs), (.inr "houses", vh), (.inr "kinds", vk)] (.inr "pipe") = some vp ∧ valV [((.inr "pipe" : Key), vp), (.inr "streams", vs), (.inr "houses", vh), (.inr "kinds", vk)] (.inr "houses") = some vh ∧
    valV [((.inr "pipe" : Key), vp), (.inr "streams", vs), (.inr "houses", vh), (.inr "kinds", vk)] (.inr "kinds") = some vk ∧ valV [((.inr "pipe" : Key), vp), (.inr "streams", vs), (.inr "houses", vh), (.inr "kinds", vk)] (.inr "streams") = some vs := by
  obtain ⟨a1, a2, a3, a4, a5, a6⟩ := word_ne
  refine ⟨valV_pos rfl, ?_, ?_, ?_⟩
  · rw [valV_neg a2, valV_neg a4, valV_pos rfl]
  · rw [valV_neg a3, valV_neg a5, valV_neg a6, valV_pos rfl]
  · rw [valV_neg a1, valV_pos rfl]
def sp_law_draw_parts (K : PySem.W.Frag) (C : Cs) : Sp := fun vs H Q _ => ∃ b l st gr top, vs = [.ref b, .int st, .int gr, .int top] ∧ Bag H b l ∧ 1 ≤ st ∧ st ≤ 6 ∧ 0 ≤ gr ∧ gr ≤ 3 ∧ 1 ≤ top ∧ top ≤ 1000 ∧
  ∀ v A H', PtsAt true K C H' A v → A.ok → Bag H' b l → Kp b H H' → (∃ p, v = .ref p ∧ H p = none) → Q v H'
def t_law_draw_parts (K : PySem.W.Frag) (C : Cs) : TS :=
  (tSeq (tAsg (tCB (rIntU) (tCons (tOp (rAddU K) (tC (.str "1")) (tOp (rMulU K) (tC (.str "0")) (tOp (rMulU K) (tCall (sp_law_take K) [] E0 (tCons (tVar 0) (tCons (tC (.int 31)) tNil))) (tCall (sp_law_take K) [] E0 (tCons (tVar 0) (tCons (tC (.int 2)) tNil)))))) tNil)) (gName 4))
    (tSeq (tPar 5 6 (tCons (tOp (rAddU K) (tC (.int 1)) (tCall (sp_law_take K) [] E0 (tCons (tVar 0) (tCons (tVar 1) tNil)))) (tCons (tCall (sp_law_mixed K) [] E0 (tCons (tVar 0) (tCons (tCall (sp_law_draw_names K) [] E0 (tCons (tVar 0) (tCons (tC (.int 12)) tNil))) tNil))) tNil)))
    (tSeq (tPar 7 8 (tCons (tCall (sp_law_take K) [] E0 (tCons (tVar 0) (tCons (tOp (rAddU K) (tVar 2) (tC (.int 1))) tNil))) (tCons (tCall (sp_law_take K) [] E0 (tCons (tVar 0) (tCons (tOp (rAddU K) (tVar 2) (tC (.int 1))) tNil))) tNil)))
    (tSeq (tAsg (tDisp [((tC (.str "pipe")), (tCall (sp_law_draw_pool K C) [] E0 (tCons (tVar 0) (tCons (tVar 3) (tCons (tVar 4) tNil))))), ((tC (.str "streams")), tDNewK)]) (gName 9))
    (tSeq (tAsg (tCall (sp_law_draw_groups K C) [] E0 (tCons (tVar 0) (tCons (tSl (rSlU K) (tVar 6) (tPart (tC (.int 6))) (tPart (tOp (rAddU K) (tC (.int 6)) (tVar 7)))) (tCons (tVar 3) (tCons (tVar 4) tNil))))) (gSub (tVar 9) (tC (.str "houses")) rSetD))
    (tSeq (tAsg (tCall (sp_law_draw_groups K C) [] E0 (tCons (tVar 0) (tCons (tSl (rSlU K) (tVar 6) (tPart (tC (.int 9))) (tPart (tOp (rAddU K) (tC (.int 9)) (tVar 8)))) (tCons (tVar 3) (tCons (tVar 4) tNil))))) (gSub (tVar 9) (tC (.str "kinds")) rSetD))
    (tSeq (tFor (iList K (tSl (rSlU K) (tVar 6) tNoPart (tPart (tVar 5)))) (gName 10) (tAsg (tCall (sp_law_draw_stream K C) [] E0 (tCons (tVar 0) (tCons (tVar 9) (tCons (tVar 3) (tCons (tVar 4) tNil))))) (gSub (tDGet (tVar 9) (tC (.str "streams"))) (tVar 10) rSetD)))
    (tRet (tVar 9)))))))))
theorem ln_law_draw_parts (h : sp_law_draw_parts K C vs H Q E) : vs.length = 4 := by obtain ⟨_, _, _, _, _, rfl, _⟩ := h; rfl
theorem rd_law_draw_parts (h : sp_law_draw_parts K C vs H Q E) : t_law_draw_parts K C (EndsOf Q) (start ["", "", "", "", "", "", "", "", "", "", ""] vs) H := by
  obtain ⟨b, l, st, gr, top, rfl, B, st1, st6, gr0, gr3, t1, t2, k⟩ := h
  refine ⟨_, rfl, b, l, 31, rfl, B, by decide, by decide, fun m1 H1 m0 m2 B1 k1 => ⟨_, rfl, b, l, 2, rfl, B1, by decide, by decide, fun e H2 e0 e1 B2 k2 => .inl ⟨_, _, rfl, rfl, .inl (.inl (by omega)), ?_⟩⟩⟩
  have k2 := k1.trans k2
  obtain ⟨n, hn, lt⟩ : ∃ n : Nat, m1 * e = (n : Int) ∧ n < 31 := by
    rcases (by omega : e = 0 ∨ e = 1) with rfl | rfl
    · exact ⟨0, by omega, by decide⟩
    · exact ⟨m1.toNat, by omega, by omega⟩
  dsimp only
  rw [hn]
  obtain ⟨q1, q2, q3⟩ := scale_text n lt
  refine .inr (.inl ⟨_, _, rfl, rfl, by decide, by omega, by omega, .inr (.inl ⟨_, _, rfl, rfl, ?_, .inr ⟨_, _, rfl, q1, q2, ?_⟩⟩)⟩)
  · have e : ((Str.ofString "1").length) = 1 := rfl
    exact Nat.le_of_lt (small1000 (by omega))
  have sc1 : (1 : Int) ≤ 10 ^ n := Int.pow_pos (by decide)
  have sc2 : (10 : Int) ^ n ≤ 10 ^ 30 := by
    have h := Nat.pow_le_pow_right (n := 10) (by decide) (show n ≤ 30 by omega)
    exact_mod_cast h
  generalize (10 : Int) ^ n = sc at sc1 sc2
  have ts : top * sc ≤ 10 ^ 50 := by
    have h1 : top * sc ≤ 1000 * sc := Int.mul_le_mul_of_nonneg_right t2 (by omega)
    omega
  clear q1 q2 q3 hn m0 m2 e0 e1 lt
  refine ⟨_, rfl, _, rfl, b, l, st, rfl, B2, by omega, by omega, fun z H3 z0 z1 B3 k3 => .inl ⟨_, _, rfl, rfl, ?_⟩⟩
  have k3 := k2.trans k3
  refine ⟨_, rfl, _, rfl, b, l, rfl, B3, fun p4 ms4 H4 f4 l4 nd4 nm4 z4 B4 k4 => ?_⟩
  refine ⟨b, l, p4, ms4, rfl, B4, z4, by omega, fun p5 ms H5 f5 pm z5 B5 k5 => ⟨_, _, rfl, ?_⟩⟩
  have k5 := (k3.trans k4).trans k5
  have n5 : p5 ≠ b := B4.nb f5
  have l12 : ms.length = 12 := pm.length_eq.trans l4
  have nd : ms.Nodup := pm.nodup_iff.mpr nd4
  have nm : ∀ x ∈ ms, isNm x = true ∧ x ≠ "pipe" := fun x hx => nm4 x (pm.mem_iff.mp hx)
  obtain ⟨m, hm⟩ : ∃ m : Nat, 1 + z = (m : Int) := ⟨(1 + z).toNat, by omega⟩
  dsimp only [List.set]
  rw [hm]
  have m1 : 1 ≤ m := by omega
  have m6 : m ≤ 6 := by omega
  clear hm z0 z1 pm nd4 nm4 l4 z4 f4
  refine ⟨_, rfl, _, rfl, .inl ⟨_, _, rfl, rfl, b, l, gr + 1, rfl, B5, by omega, by omega, fun f' H6 f0 f1 B6 k6 => ?_⟩⟩
  refine ⟨_, rfl, _, rfl, .inl ⟨_, _, rfl, rfl, b, l, gr + 1, rfl, B6, by omega, by omega, fun s' H7 s0 s1 B7 k7 => ⟨_, _, rfl, ?_⟩⟩⟩
  obtain ⟨f, rfl⟩ : ∃ f : Nat, f' = (f : Int) := ⟨f'.toNat, by omega⟩
  obtain ⟨s, rfl⟩ : ∃ s : Nat, s' = (s : Int) := ⟨s'.toNat, by omega⟩
  have f3 : f ≤ 3 := by omega
  have s3 : s ≤ 3 := by omega
  have z7 := k7 _ _ (k6 _ _ z5 n5) n5
  have k7 := (k5.trans k6).trans k7
  dsimp only [List.set]
  clear f0 f1 s0 s1 k6 z5
  have nd3 := three_parts (f := f) (s := s) (m := m) nd l12 f3 m6 fun x hx => (nm x hx).2
  -- the dict
  intro D hD
  have fD := k7.freeB B7 hD
  have nD : D ≠ b := B7.nb hD
  have j8 := same_new (o := .dK []) hD
  have z8 := j8 _ _ z7
  have e8 : (upd H7 D (.dK [])) D = some (.dK []) := upd_same
  have B8 := B7.same j8
  have k8 := k7.laid (o := .dK []) hD
  generalize upd H7 D (.dK []) = H8 at j8 z8 e8 B8 k8 ⊢
  refine ⟨_, rfl, _, rfl, _, rfl, b, l, top, sc, rfl, B8, t1, t2, sc1, ts, fun vp p H9 rp pok B9 k9 => fun Ds hDs => ?_⟩
  have fDs := (k8.trans k9).freeB B9 hDs
  have e9 := k9 _ _ e8 nD
  have nDs : Ds ≠ D := fun z => by rw [z, e9] at hDs; cases hDs
  have nDsb : Ds ≠ b := B9.nb hDs
  have j10 := same_new (o := .dK []) hDs
  have z10 := j10 _ _ (k9 _ _ z8 n5)
  have e10 := j10 _ _ e9
  have u10 : (upd H9 Ds (.dK [])) Ds = some (.dK []) := upd_same
  have B10 := B9.same j10
  have k10 := (k8.trans k9).laid (o := .dK []) hDs
  have rp10 := rp.kee (P := P0) (Kee.same j10)
  generalize upd H9 Ds (.dK []) = H10 at j10 z10 e10 u10 B10 k10 rp10 ⊢
  refine ⟨e10, [(.inr "pipe", vp), (.inr "streams", .ref Ds)], rfl, by show 2 ≤ 15; decide, ?_⟩
  rw [kv_two]
  have w11 : Kee K C (fun _ => True) H10 (upd H10 D (.dK [(.inr "pipe", vp), (.inr "streams", .ref Ds)])) := (KeeX.dict kp_put e10 trivial).toKee
  have rp11 := rp10.kee w11
  have e11 : (upd H10 D (.dK [(.inr "pipe", vp), (.inr "streams", .ref Ds)])) D = some (.dK [(.inr "pipe", vp), (.inr "streams", .ref Ds)]) := upd_same
  have u11 : (upd H10 D (.dK [(.inr "pipe", vp), (.inr "streams", .ref Ds)])) Ds = some (.dK []) := by rw [upd_ne nDs]; exact u10
  have np5 : p5 ≠ D := ne_of z10 e10 fun z => nomatch z
  have np5s : p5 ≠ Ds := ne_of z10 u10 fun z => nomatch z
  have z11 : (upd H10 D (.dK [(.inr "pipe", vp), (.inr "streams", .ref Ds)])) p5 = some (.lst (ms.map V.str)) := by rw [upd_ne np5]; exact z10
  have B11 : Bag (upd H10 D (.dK [(.inr "pipe", vp), (.inr "streams", .ref Ds)])) b l := B10.put nD.symm (B.nl fD).symm
  have k11 : Kp b H (upd H10 D (.dK [(.inr "pipe", vp), (.inr "streams", .ref Ds)])) := k10.other fD
  dsimp only [gName, List.set]
  generalize upd H10 D (.dK [(.inr "pipe", vp), (.inr "streams", .ref Ds)]) = H11 at rp11 e11 u11 z11 B11 k11 ⊢
  clear w11 rp10 rp k10 k8 z8 e8 e9 e10 u10 B10 B9 B8 hDs hD j10 j8 z10
  -- houses
  refine ⟨_, rfl, _, rfl, _, rfl, _, rfl, .inl ⟨_, _, rfl, rfl, _, rfl, .inl ⟨p5, _, rfl, SqL.of z11, fun q fq => ?_⟩⟩⟩
  have ec : cutV (ms.map V.str) (some 6) (some (6 + (f : Int))) = ((ms.drop 6).take f).map V.str := by
    rw [show (some (6 : Int)) = some ((6 : Nat) : Int) from rfl, show (6 : Int) + (f : Int) = ((6 + f : Nat) : Int) by omega, cutV_mid (by rw [List.length_map, l12]; decide), ← List.map_drop, ← List.map_take]
  rw [ec]
  have j12 := same_new (o := .lst (((ms.drop 6).take f).map V.str)) fq
  have v12 : (upd H11 q (.lst (((ms.drop 6).take f).map V.str))) q = some (.lst (((ms.drop 6).take f).map V.str)) := upd_same
  generalize upd H11 q (.lst (((ms.drop 6).take f).map V.str)) = H12 at j12 v12 ⊢
  obtain ⟨nd5, nd6⟩ := List.nodup_cons.mp nd3
  obtain ⟨nd7, nds, _⟩ := List.nodup_append.mp nd6
  obtain ⟨ndh, ndk, _⟩ := List.nodup_append.mp nd7
  refine ⟨_, rfl, _, rfl, b, l, q, (ms.drop 6).take f, top, sc, rfl, B11.same j12, v12, ndh, fun x hx => (nm x (List.mem_of_mem_drop (List.mem_of_mem_take hx))).1, by rw [List.length_take]; omega, t1, t2, sc1, ts, fun Dh Gh H13 fDh ghn gho ⟨_, kh, z, _, hh, kvh⟩ B13 k13 => ?_⟩
  cases z
  have hh : H13 Dh = some (.dK kh) := hh
  have q13 := (Kp.of (b := b) j12).trans k13
  have e13 := q13 _ _ e11 nD
  have u13 := q13 _ _ u11 nDsb
  have z13 := q13 _ _ z11 n5
  have nDhD : Dh ≠ D := fun z => by rw [z, j12 _ _ e11] at fDh; cases fDh
  have nDhs : Dh ≠ Ds := fun z => by rw [z, j12 _ _ u11] at fDh; cases fDh
  have rp13 := (rp11.kee (P := P0) (Kee.same j12)).kee (P := P0) (KeeX.bag (B11.same j12) k13).toKee
  have k13 := k11.trans q13
  have nDhb : Dh ≠ b := (B11.same j12).nb fDh
  refine ⟨_, rfl, D, _, rfl, .inl ⟨_, .inr "houses", e13, rfl, small1000 (show 2 ≤ 1000 by decide), rfl⟩, ?_⟩
  rw [kv_three]
  have w14 : Kee K C (fun _ => True) H13 (upd H13 D (.dK [(.inr "pipe", vp), (.inr "streams", .ref Ds), (.inr "houses", .ref Dh)])) := (KeeX.dict kp_put e13 trivial).toKee
  have rp14 := rp13.kee w14
  have kvh14 := kvh.kee w14
  have e14 : (upd H13 D (.dK [(.inr "pipe", vp), (.inr "streams", .ref Ds), (.inr "houses", .ref Dh)])) D = some (.dK [(.inr "pipe", vp), (.inr "streams", .ref Ds), (.inr "houses", .ref Dh)]) := upd_same
  have u14 : (upd H13 D (.dK [(.inr "pipe", vp), (.inr "streams", .ref Ds), (.inr "houses", .ref Dh)])) Ds = some (.dK []) := by rw [upd_ne nDs]; exact u13
  have h14 : (upd H13 D (.dK [(.inr "pipe", vp), (.inr "streams", .ref Ds), (.inr "houses", .ref Dh)])) Dh = some (.dK kh) := by rw [upd_ne nDhD]; exact hh
  have z14 : (upd H13 D (.dK [(.inr "pipe", vp), (.inr "streams", .ref Ds), (.inr "houses", .ref Dh)])) p5 = some (.lst (ms.map V.str)) := by rw [upd_ne np5]; exact z13
  have B14 : Bag (upd H13 D (.dK [(.inr "pipe", vp), (.inr "streams", .ref Ds), (.inr "houses", .ref Dh)])) b l := B13.put nD.symm (B.nl fD).symm
  have k14 : Kp b H (upd H13 D (.dK [(.inr "pipe", vp), (.inr "streams", .ref Ds), (.inr "houses", .ref Dh)])) := k13.other fD
  generalize upd H13 D (.dK [(.inr "pipe", vp), (.inr "streams", .ref Ds), (.inr "houses", .ref Dh)]) = H14 at rp14 kvh14 e14 u14 h14 z14 B14 k14 ⊢
  clear w14 rp13 rp11 kvh hh e13 u13 z13 q13 k13 k11 e11 u11 z11 B13 B11 j12 v12 fDh fq
  -- kinds
  refine ⟨_, rfl, _, rfl, _, rfl, _, rfl, .inl ⟨_, _, rfl, rfl, _, rfl, .inl ⟨p5, _, rfl, SqL.of z14, fun q fq => ?_⟩⟩⟩
  have ec : cutV (ms.map V.str) (some 9) (some (9 + (s : Int))) = ((ms.drop 9).take s).map V.str := by
    rw [show (some (9 : Int)) = some ((9 : Nat) : Int) from rfl, show (9 : Int) + (s : Int) = ((9 + s : Nat) : Int) by omega, cutV_mid (by rw [List.length_map, l12]; decide), ← List.map_drop, ← List.map_take]
  rw [ec]
  have j15 := same_new (o := .lst (((ms.drop 9).take s).map V.str)) fq
  have v15 : (upd H14 q (.lst (((ms.drop 9).take s).map V.str))) q = some (.lst (((ms.drop 9).take s).map V.str)) := upd_same
  generalize upd H14 q (.lst (((ms.drop 9).take s).map V.str)) = H15 at j15 v15 ⊢
  refine ⟨_, rfl, _, rfl, b, l, q, (ms.drop 9).take s, top, sc, rfl, B14.same j15, v15, ndk, fun x hx => (nm x (List.mem_of_mem_drop (List.mem_of_mem_take hx))).1, by rw [List.length_take]; omega, t1, t2, sc1, ts, fun Dk Gk H16 fDk gkn gko ⟨_, kk, z, _, hk, kvk⟩ B16 k16 => ?_⟩
  cases z
  have hk : H16 Dk = some (.dK kk) := hk
  have q16 := (Kp.of (b := b) j15).trans k16
  have e16 := q16 _ _ e14 nD
  have u16 := q16 _ _ u14 nDsb
  have z16 := q16 _ _ z14 n5
  have h16 := q16 _ _ h14 nDhb
  have nDkD : Dk ≠ D := fun z => by rw [z, j15 _ _ e14] at fDk; cases fDk
  have nDks : Dk ≠ Ds := fun z => by rw [z, j15 _ _ u14] at fDk; cases fDk
  have K16 : Kee K C P0 H15 H16 := (KeeX.bag (B14.same j15) k16).toKee
  have rp16 := (rp14.kee (P := P0) (Kee.same j15)).kee K16
  have kvh16 := (kvh14.kee (P := P0) (Kee.same j15)).kee K16
  have k16 := k14.trans q16
  refine ⟨_, rfl, D, _, rfl, .inl ⟨_, .inr "kinds", e16, rfl, small1000 (show 3 ≤ 1000 by decide), rfl⟩, ?_⟩
  rw [kv_four]
  obtain ⟨g1, g2, g3, g4⟩ := kv_get (vp := vp) (vs := .ref Ds) (vh := .ref Dh) (vk := .ref Dk)
  generalize [((.inr "pipe" : Key), vp), (.inr "streams", .ref Ds), (.inr "houses", .ref Dh), (.inr "kinds", .ref Dk)] = kvs at g1 g2 g3 g4 ⊢
  have w17 : Kee K C (fun _ => True) H16 (upd H16 D (.dK kvs)) := (KeeX.dict kp_put e16 trivial).toKee
  have raw : PRaw K C (upd H16 D (.dK kvs)) p Gh Gk D Dh Dk kvs kh kk vp := ⟨upd_same, rp16.kee w17, by rw [upd_ne nDhD]; exact h16, kvh16.kee w17, by rw [upd_ne nDkD]; exact hk, kvk.kee w17⟩
  have u17 : (upd H16 D (.dK kvs)) Ds = some (.dK []) := by rw [upd_ne nDs]; exact u16
  have z17 : (upd H16 D (.dK kvs)) p5 = some (.lst (ms.map V.str)) := by rw [upd_ne np5]; exact z16
  have B17 : Bag (upd H16 D (.dK kvs)) b l := B16.put nD.symm (B.nl fD).symm
  have k17 : Kp b H (upd H16 D (.dK kvs)) := k16.other fD
  generalize upd H16 D (.dK kvs) = H17 at raw u17 z17 B17 k17 ⊢
  clear w17 rp16 rp14 kvh16 kvh14 kvk hk h16 h14 e16 u16 z16 q16 k16 k14 e14 u14 z14 B16 B14 j15 v15 fDk fq K16
  -- streams
  refine ⟨_, rfl, _, rfl, _, rfl, .inl ⟨p5, _, rfl, SqL.of z17, fun Lm fm => ?_⟩⟩
  rw [cutV_to, ← List.map_take]
  have lh : Gh.length ≤ 3 := by
    have e := congrArg List.length ghn
    rw [Grps.nm, List.length_map, List.length_take] at e
    omega
  have lk3 : Gk.length ≤ 3 := by
    have e := congrArg List.length gkn
    rw [Grps.nm, List.length_map, List.length_take] at e
    omega
  have lm : (ms.take m).length = m := by rw [List.length_take]; omega
  have nmm : ∀ x ∈ ms.take m, isNm x = true := fun x hx => (nm x (List.mem_of_mem_take hx)).1
  have j18 := same_new (o := .lst ((ms.take m).map V.str)) fm
  have v18 : (upd H17 Lm (.lst ((ms.take m).map V.str))) Lm = some (.lst ((ms.take m).map V.str)) := upd_same
  have raw := raw.keeX (KeeX.same (P := P0) j18) (fun z => z) (fun z => z) (fun z => z)
  have u18 := j18 _ _ u17
  have B18 := B17.same j18
  have k18 := k17.trans (Kp.of j18)
  have nLb : Lm ≠ b := B17.nb fm
  generalize upd H17 Lm (.lst ((ms.take m).map V.str)) = H18 at raw u18 v18 B18 k18 ⊢
  rw [← ghn, ← gkn] at nd3
  generalize ms.take m = ns at lm nmm nds nd3 v18 ⊢
  refine ⟨Lm, rfl, ⟨_, SqL.of v18⟩, ?_⟩
  refine for_list (K := K) (a := Lm) (xs := ns.map V.str) (fun i σ' F => ∃ s10, ∃ S : Stms, ∃ kss, σ' = [some (.ref b), some (.int st), some (.int gr), some (.int top), some (.int sc), some (.int m), some (.ref p5), some (.int f), some (.int s), some (.ref D), s10] ∧ Kp b H F ∧ Bag F b l ∧
      PRaw K C F p Gh Gk D Dh Dk kvs kh kk vp ∧ F Ds = some (.dK kss) ∧ KvAt false K C F S.tab kss ∧ S.nm = ns.take i ∧ (∀ r ∈ S, isNm r.1 = true ∧ r.2.ok ∧ Linked ⟨p, Gh, Gk, S⟩ r.2) ∧ F Lm = some (.lst (ns.map V.str)))
    ⟨_, [], [], rfl, k18, B18, raw, u18, rfl, rfl, fun r z => (nomatch z), v18⟩ (fun i σ' F _ ⟨_, _, _, _, _, _, _, _, _, _, _, e⟩ => SqL.of e) ?_ ?_
  · rintro i x σ' F hx ⟨s10, S, kss, rfl, kF, BF, rw1, hz, kv, sn, rows, hL⟩
    rw [List.getElem?_map] at hx
    cases hn : ns[i]? with
    | none => rw [hn] at hx; cases hx
    | some n =>
      rw [hn] at hx
      cases hx
      have lS : S.length ≤ 6 := by
        have e := congrArg List.length sn
        rw [Stms.nm, List.length_map, List.length_take] at e
        omega
      have nn : n ∉ S.nm := by
        rw [sn]
        exact fresh_at nds hn
      have nS : S.nm.Nodup := by rw [sn]; exact nds.sublist (List.take_sublist ..)
      have pt : PtsAt true K C F ⟨p, Gh, Gk, S⟩ (.ref D) := ⟨D, kvs, vp, _, _, _, rfl, rw1.dd, g1, g2, g3, g4, rw1.rp, ⟨Dh, kh, rfl, fun z => z, rw1.dh, rw1.vh⟩, ⟨Dk, kk, rfl, fun z => z, rw1.dk, rw1.vk⟩, ⟨Ds, kss, rfl, fun z => z, hz, kv⟩⟩
      refine ⟨_, rfl, _, rfl, _, rfl, _, rfl, b, l, .ref D, top, sc, ⟨p, Gh, Gk, S⟩, rfl, BF, pt, by show Gh.length ≤ 6; omega, by show Gk.length ≤ 6; omega, lS, nS, fun r hr => ⟨(rows r hr).1, (rows r hr).2.2⟩, t1, t2, sc1, ts, fun w sr F2 row sok lkd B2 k2 => ?_⟩
      have kx : KeeX K C P0 F F2 := KeeX.bag BF k2
      have rw2 := rw1.keeX kx (fun z => z) (fun z => z) (fun z => z)
      have hz2 := k2 _ _ hz nDsb
      have lq := kv.length
      rw [Stms.len] at lq
      refine ⟨_, rfl, D, .ref Ds, rfl, .inl ⟨kvs, .inr "streams", .inl rw2.dd, rfl, g4.symm⟩, _, rfl, Ds, _, rfl, .inl ⟨kss, .inr n, hz2, rfl, small1000 (by omega), rfl⟩, ?_⟩
      have w3 : KeeX K C (fun a => a = Ds) F2 (upd F2 Ds (.dK (putK kss (.inr n) w))) := KeeX.dict kp_put hz2 rfl
      have et : Stms.tab (S ++ [(n, sr)]) = S.tab ++ [(n, sr.cells)] := Stms.tab_app S _
      refine ⟨_, S ++ [(n, sr)], putK kss (.inr n) w, rfl, (kF.trans k2).other fDs, B2.put nDsb.symm (B.nl fDs).symm, rw2.keeX w3 nDs.symm nDhs nDks, upd_same, ?_, ?_, ?_, ?_⟩
      · rw [et]
        exact ((kv.kee kx.toKee).put row (by rw [Stms.tab_nm]; exact nn)).kee w3.toKee
      · rw [Stms.nm_app, sn, List.take_add_one, hn]
        rfl
      · intro r2 hr
        rcases List.mem_append.mp hr with hr | hr
        · obtain ⟨q1, q2, q3⟩ := rows r2 hr
          exact ⟨q1, q2, q3.more⟩
        · obtain rfl := List.mem_singleton.mp hr
          exact ⟨nmm n (List.mem_of_getElem? hn), sok, lkd.more⟩
      · rw [upd_ne (ne_of hL hz fun z => nomatch z)]
        exact k2 _ _ hL nLb
  · rintro σ' F ⟨s10, S, kss, rfl, kF, BF, rw1, hz, kv, sn, rows, hL⟩
    rw [List.length_map, List.take_length] at sn
    have lS : S.length = m := by
      have e := congrArg List.length sn
      rw [Stms.nm, List.length_map] at e
      omega
    rw [← sn] at nd3
    refine ⟨_, rfl, k (.ref D) ⟨p, Gh, Gk, S⟩ F ⟨D, kvs, vp, _, _, _, rfl, rw1.dd, g1, g2, g3, g4, rw1.rp, ⟨Dh, kh, rfl, fun z => z, rw1.dh, rw1.vh⟩, ⟨Dk, kk, rfl, fun z => z, rw1.dk, rw1.vk⟩, ⟨Ds, kss, rfl, fun z => z, hz, kv⟩⟩ ⟨pok, gho, gko, nd3, ?_, ?_, ?_, fun r hr => ?_⟩ BF kF ⟨D, rfl, fD⟩⟩
    · show Gh.length + Gk.length ≤ 6
      omega
    · show 1 ≤ S.length
      omega
    · show S.length ≤ 6
      omega
    · obtain ⟨q1, q2, q3, q4, q5⟩ := rows r hr
      exact ⟨q1, q2, q3, q4, q5⟩
end
end Pk
set_option Elab.async false
set_option linter.all false
set_option maxRecDepth 100000
set_option maxHeartbeats 2000000
namespace Pk
open PySem PySem.Spec L2 PyProof.Rows PkC
section
variable {K : PySem.W.Frag} {C : Cs} {vs : List V} {H H' G F F' : Hp} {Q : VK} {E : XK} {b l d a M : Addr} {σ : L2.St} {P : Addr → Prop} {ex t : Bool} {T : Tab} {v w x0 x1 : V} {A A' : Parts} {N : Ends} {xs ys : List V}
/-! ### the law's plan -/
def Cell.plain : Cell → Prop
  | .rule _ => False
  | _ => True
theorem CellAt.turn : ∀ {c : Cell} {v : V}, c.plain → CellAt false K C H c v → CellAt true K C H c v
  | .num _, _, _, h => h
  | .name _, _, _, h => h
  | .non, _, _, h => h
  | .rule _, _, h, _ => h.elim
theorem CellsAt.turn : ∀ {cs : List Cell} {xs : List V}, (∀ c ∈ cs, c.plain) → CellsAt false K C H cs xs → CellsAt true K C H cs xs
  | [], _, _, h => h
  | c :: r, _, p, ⟨x, ys, e, h1, h2⟩ => ⟨x, ys, e, h1.turn (p c (List.mem_cons_self ..)), h2.turn fun d hd => p d (List.mem_cons_of_mem _ hd)⟩
/-- a number, a rule, and something plain -/
def RowOk (cs : List Cell) : Prop := ∃ c0 R rest, cs = c0 :: .rule R :: rest ∧ c0.plain ∧ (∀ c ∈ rest, c.plain) ∧ rest ≠ [] ∧ rest.length ≤ 10
theorem cN_plain {o : Option Str} : (cN o).plain := by cases o <;> trivial
theorem cI_plain {o : Option Int} : (cI o).plain := by cases o <;> trivial
theorem GrpR.rowOk (g : GrpR) : RowOk g.cells := ⟨_, _, _, rfl, trivial, fun c h => by
  rcases List.mem_cons.mp h with rfl | h
  · trivial
  · rw [List.mem_singleton.mp h]
    exact cN_plain, fun z => (nomatch z), by show 2 ≤ 10; decide⟩
theorem StmR.rowOk (g : StmR) : RowOk g.cells := ⟨_, _, _, rfl, trivial, fun c h => by
  rcases List.mem_cons.mp h with rfl | h
  · exact cI_plain
  rcases List.mem_cons.mp h with rfl | h
  · exact cN_plain
  rcases List.mem_cons.mp h with rfl | h
  · exact cN_plain
  · rw [List.mem_singleton.mp h]
    exact cN_plain, fun z => (nomatch z), by show 4 ≤ 10; decide⟩
theorem rule_after {R : Tr} {x dx : Addr} {u : V} (hx : G x = none) (hd : G dx = none) (hT : TrAt K G u R) (ok : R.ok) (l6 : R.lv ≤ 6) (fx : FxRule K C) (h1 : H' x = some (.ins C.Rule dx [("_tree", u)]))
    (h2 : ∀ c o, (upd (upd G dx (.own x)) x (.ins C.Rule dx [])) c = some o → c ≠ x → H' c = some o) : Same G H' ∧ RuleAt K C H' (.ref x) R := by
  have s2 : Same G H' := fun c o e => h2 c o (by rw [upd_ne (ne_of_none e hx), upd_ne (ne_of_none e hd)]; exact e) (ne_of_none e hx)
  exact ⟨s2, x, dx, u, rfl, h1, hT.mono (Tups.same s2), ok, l6, fx⟩
theorem same_made {x dx : Addr} {fs : List (Str × V)} {c0 : Addr} (hx : G x = none) (hd : G dx = none) : Same G (upd (upd G dx (.own x)) x (.ins c0 dx fs)) := fun c o e => by
  rw [upd_ne (ne_of_none e hx), upd_ne (ne_of_none e hd)]
  exact e
/-- a part of a tuple: its first, what comes behind the second -/
theorem cut_1 (hs : SqT K H a (x0 :: x1 :: ys)) (k : ∀ p, H p = none → Q (.ref p) (upd H p (.tup [x0]))) : rSlU K (.ref a) none (some 1) H Q := by
  refine .inr ⟨a, _, rfl, hs, fun w => ?_, fun p hp => ?_⟩
  · have w2 : HT.sIx (ys.length + 2) (ys.length + 2) (some ((1 : Nat) : Int)) = ys.length + 2 := w.2
    rw [HT.sIx_nat] at w2
    omega
  · have e : cutV (x0 :: x1 :: ys) none (some ((1 : Nat) : Int)) = [x0] := cutV_to _ 1
    rw [show (some (1 : Int)) = some ((1 : Nat) : Int) from rfl, e]
    exact k p hp
theorem cut_2 (hs : SqT K H a (x0 :: x1 :: ys)) (k : ∀ p, H p = none → Q (.ref p) (upd H p (.tup ys))) : rSlU K (.ref a) (some 2) none H Q := by
  refine .inr ⟨a, _, rfl, hs, fun w => ?_, fun p hp => ?_⟩
  · have w2 : HT.sIx (ys.length + 2) 0 (some ((2 : Nat) : Int)) = 0 := w.1
    rw [HT.sIx_nat] at w2
    omega
  · have e : cutV (x0 :: x1 :: ys) (some ((2 : Nat) : Int)) none = ys := cutV_from _ 2
    rw [show (some (2 : Int)) = some ((2 : Nat) : Int) from rfl, e]
    exact k p hp
theorem cat_tups {p q : Addr} (h1 : H p = some (.tup xs)) (h2 : H q = some (.tup ys)) (n1 : xs ≠ []) (n2 : ys ≠ []) (few : xs.length + ys.length ≤ 1000) (k : ∀ r, H r = none → Q (.ref r) (upd H r (.tup (xs ++ ys)))) : rAddU K (.ref p) (.ref q) H Q :=
  .inr (.inr (.inr ⟨p, q, xs, ys, rfl, rfl, SqT.of h1, SqT.of h2, Nat.le_of_lt (small1000 few), fun z => absurd z n1, fun _ z => absurd z n2, fun _ _ r hr => k r hr⟩))
def rowOf (T : Tab) (n : Str) : Str × List Cell := (n, (T.get n).getD [])
theorem rows_of (nd : T.names.Nodup) : T.names.map (rowOf T) = T := by
  unfold Tab.names
  rw [List.map_map]
  have : T.map (rowOf T ∘ fun r => r.1) = T.map id := List.map_congr_left fun r hr => by
    show rowOf T r.1 = r
    unfold rowOf
    rw [Tab.get_of (n := r.1) (cs := r.2) nd hr]
    rfl
  rw [this, List.map_id]
/-- all kept but the bag and one dict -/
def Kp2 (b M : Addr) (G F : Hp) : Prop := ∀ c o, G c = some o → c ≠ b → c ≠ M → F c = some o
theorem Kp2.refl : Kp2 b M G G := fun _ _ h _ _ => h
theorem Kp2.trans (k : Kp2 b M G F) (q : Kp2 b M F H) : Kp2 b M G H := fun c o h n1 n2 => q c o (k c o h n1 n2) n1 n2
theorem Kp2.of (k : Kp b G F) : Kp2 b M G F := fun c o h n1 _ => k c o h n1
theorem Kp2.put {o : HO} : Kp2 b M G (upd G M o) := fun c u h _ n2 => by rw [upd_ne n2]; exact h
/-- some rows turned: each with a Rule of its tree -/
theorem made_tab {ks : List (Key × V)} {ms : List Str} {L : Addr} {s3 s6 s7 s8 s9 p0 : Option V} (fx : FxRule K C) (B : Bag G b l) (ha : G a = some (.dK ks)) (kv : KvAt false K C G T ks) (nd : T.names.Nodup) (ok : ∀ r ∈ T, RowOk r.2) (few : T.length ≤ 6)
    (hM : G M = some (.dK [])) (nMa : M ≠ a) (nMb : M ≠ b) (nMl : M ≠ l) (hL : G L = some (.lst (ms.map V.str))) (pm : ms.Perm T.names) (nLb : L ≠ b)
    (done : ∀ s6 F T' kt, T'.Perm T → F M = some (.dK kt) → KvAt true K C F T' kt → Bag F b l → Kp2 b M G F → KeeX K C (fun c => c = M) G F → N.nx [some (.ref b), some v, p0, s3, some (.ref a), some (.ref M), s6, s7, s8, s9] F) :
    ∃ W : Nat → Nat → L2.St → Hp → Prop, (∃ m, W 0 m [some (.ref b), some v, p0, s3, some (.ref a), some (.ref M), s6, s7, s8, s9] G) ∧ ∀ i m σ H, W i m σ H →
      ((Itl K L).stop i H ∧ N.nx σ H) ∨ ((Itl K L).go i H ∧ ∃ Nx : L2.St → Hp → Prop, (∀ σ' H', Nx σ' H' → ∃ m', m' < m ∧ W (i + 1) m' σ' H') ∧ ∀ x H', (Itl K L).yld i H x H' → gName 6 x σ H' fun σ2 H2 =>
        (tAsg (tOp (rAddU K) (tOp (rAddU K) (tSl (rSlU K) (tDGet (tVar 4) (tVar 6)) tNoPart (tPart (tC (.int 1)))) (tTup (tCons (tMake C.Rule (sp_Rule___init__ K C) [] E0 (tCons (tOp (rIx K) (tDGet (tVar 4) (tVar 6)) (tC (.int 1))) tNil)) tNil))) (tSl (rSlU K) (tDGet (tVar 4) (tVar 6)) (tPart (tC (.int 2))) tNoPart)) (gSub (tVar 5) (tVar 6) rSetD))
          { nx := Nx, rt := N.rt, bk := N.nx, ct := Nx } σ2 H2) := by
  have lm := pm.length_eq
  have lT : T.names.length = T.length := List.length_map ..
  have nLM : L ≠ M := ne_of hL hM fun z => nomatch z
  refine for_list (K := K) (a := L) (xs := ms.map V.str) (fun i σ' F => ∃ s6 kt, σ' = [some (.ref b), some v, p0, s3, some (.ref a), some (.ref M), s6, s7, s8, s9] ∧ Bag F b l ∧ F M = some (.dK kt) ∧ KvAt true K C F ((ms.take i).map (rowOf T)) kt ∧ Kp2 b M G F ∧ KeeX K C (fun c => c = M) G F)
    ⟨_, [], rfl, B, hM, rfl, Kp2.refl, KeeX.same (Same.refl _)⟩ (fun i σ' F _ ⟨_, _, _, _, _, _, k2, _⟩ => SqL.of (k2 _ _ hL nLb nLM)) ?_ ?_
  · rintro i x σ' F hx ⟨s6, kt, rfl, BF, hz, kt1, k2, kx⟩
    rw [List.getElem?_map] at hx
    cases hn : ms[i]? with
    | none => rw [hn] at hx; cases hx
    | some n =>
      rw [hn] at hx
      cases hx
      have mn : n ∈ T.names := pm.mem_iff.mp (List.mem_of_getElem? hn)
      cases hg : T.get n with
      | none => exact absurd mn (Tab.get_none.mp hg)
      | some cs =>
        obtain ⟨c0, R, rest, rfl, pl0, plr, ne, l10⟩ := ok _ (Tab.get_mem hg)
        have haF := k2 _ _ ha (by
          obtain ⟨ys, hb⟩ := B.at
          exact ne_of ha hb fun z => nomatch z) nMa.symm
        have kvF := kv.kee kx.toKee
        obtain ⟨w, ew, aw, xs, rfl, sw, x0, _, rfl, c00, x1, ys, rfl, lf, cr⟩ := (kvF.val (n := n)).1 _ hg
        have lf : LeafR false K C F x1 R := lf
        have lys := cr.length
        have ney : ys ≠ [] := fun z => by rw [z] at lys; exact ne (List.length_eq_zero_iff.mp lys.symm)
        have dg : ∀ {F2}, Same F F2 → DGet F2 a (.str n) (some (.ref aw)) := fun s => .inl ⟨ks, .inr n, .inl (s _ _ haF), rfl, ew.symm⟩
        refine ⟨_, rfl, _, rfl, a, _, rfl, dg (Same.refl _), _, rfl, cut_1 sw fun p fp => ?_⟩
        have j1 := same_new (o := .tup [x0]) fp
        have v1 : (upd F p (.tup [x0])) p = some (.tup [x0]) := upd_same
        generalize upd F p (.tup [x0]) = F1 at j1 v1 ⊢
        refine ⟨_, rfl, _, rfl, a, _, rfl, dg j1, .inr (.inl ⟨aw, _, 1, x1, rfl, rfl, Tups.same j1 _ _ sw, atI_nat (j := 1) rfl, ?_⟩)⟩
        intro x dx hx hd nx
        have jm := same_made (fs := []) (c0 := C.Rule) hx hd
        have hT := lf.1.mono (Tups.same j1)
        refine ⟨x, dx, x1, R, rfl, upd_same, hT.mono (Tups.same jm), lf.2.1, lf.2.2, fx, fun F2 h1 h2 => ⟨rfl, ?_⟩⟩
        obtain ⟨j2, ru⟩ := rule_after hx hd hT lf.2.1 lf.2.2 fx h1 h2
        refine ⟨two_fit.1, fun q fq => ?_⟩
        have j3 := same_new (o := .tup [V.ref x]) fq
        have v3 : (upd F2 q (.tup [V.ref x])) q = some (.tup [V.ref x]) := upd_same
        have ru := ru.kee (P := P0) (Kee.same j3)
        generalize upd F2 q (.tup [V.ref x]) = F3 at j3 v3 ru ⊢
        refine cat_tups (j3 _ _ (j2 _ _ v1)) v3 (fun z => nomatch z) (fun z => nomatch z) (by show 2 ≤ 1000; decide) fun r fr => ?_
        have j4 := same_new (o := .tup ([x0] ++ [V.ref x])) fr
        have v4 : (upd F3 r (.tup ([x0] ++ [V.ref x]))) r = some (.tup ([x0] ++ [V.ref x])) := upd_same
        have ru := ru.kee (P := P0) (Kee.same j4)
        generalize upd F3 r (.tup ([x0] ++ [V.ref x])) = F4 at j4 v4 ru ⊢
        have jA := ((j1.trans j2).trans j3).trans j4
        refine ⟨_, rfl, _, rfl, a, _, rfl, dg jA, _, rfl, cut_2 (Tups.same jA _ _ sw) fun u fu => ?_⟩
        have j5 := same_new (o := .tup ys) fu
        have v5 : (upd F4 u (.tup ys)) u = some (.tup ys) := upd_same
        have ru := ru.kee (P := P0) (Kee.same j5)
        generalize upd F4 u (.tup ys) = F5 at j5 v5 ru ⊢
        refine cat_tups (j5 _ _ v4) v5 (fun z => nomatch z) ney (by rw [lys]; show 2 + rest.length ≤ 1000; omega) fun y fy => ?_
        have j6 := same_new (o := .tup (([x0] ++ [V.ref x]) ++ ys)) fy
        have v6 : (upd F5 y (.tup (([x0] ++ [V.ref x]) ++ ys))) y = some (.tup (([x0] ++ [V.ref x]) ++ ys)) := upd_same
        have ru := ru.kee (P := P0) (Kee.same j6)
        generalize upd F5 y (.tup (([x0] ++ [V.ref x]) ++ ys)) = F6 at j6 v6 ru ⊢
        have jB := (jA.trans j5).trans j6
        have hz6 := jB _ _ hz
        have lkt := kt1.length
        rw [List.length_map, List.length_take] at lkt
        refine ⟨_, rfl, _, rfl, M, _, rfl, .inl ⟨kt, .inr n, hz6, rfl, small1000 (by omega), rfl⟩, ?_⟩
        have wx : KeeX K C (fun c => c = M) F6 (upd F6 M (.dK (putK kt (.inr n) (.ref y)))) := KeeX.dict kp_put hz6 rfl
        refine ⟨_, putK kt (.inr n) (.ref y), rfl, (BF.same jB).put nMb.symm nMl.symm, upd_same, ?_, (k2.trans (Kp2.of (Kp.of jB))).trans Kp2.put, (kx.trans (KeeX.same jB)).trans wx⟩
        have et : (ms.take (i + 1)).map (rowOf T) = (ms.take i).map (rowOf T) ++ [(n, c0 :: .rule R :: rest)] := by
          rw [List.take_add_one, hn, List.map_append]
          show _ ++ [rowOf T n] = _
          unfold rowOf
          rw [hg]
          rfl
        have nn : n ∉ Tab.names ((ms.take i).map (rowOf T)) := by
          have e : Tab.names ((ms.take i).map (rowOf T)) = ms.take i := by
            unfold Tab.names
            rw [List.map_map]
            exact List.map_id _
          rw [e]
          exact fresh_at (pm.nodup_iff.mpr nd) hn
        have row : RowAt true K C F6 (c0 :: .rule R :: rest) (.ref y) := ⟨y, _, rfl, SqT.of v6, x0, _, rfl, (c00.turn pl0).kee (P := P0) (Kee.same jB), .ref x, _, rfl, ru, (cr.turn plr).kee (P := P0) (Kee.same jB)⟩
        rw [et]
        exact ((kt1.kee (P := P0) (Kee.same jB)).put row nn).kee wx.toKee
  · rintro σ' F ⟨s6, kt, rfl, BF, hz, kt1, k2, kx⟩
    rw [List.length_map, List.take_length] at kt1
    refine done s6 F _ kt ?_ hz kt1 BF k2 kx
    have q := pm.map (rowOf T)
    rwa [rows_of nd] at q
end
end Pk
set_option Elab.async false
set_option linter.all false
set_option maxRecDepth 100000
set_option maxHeartbeats 2000000
namespace Pk
open PySem PySem.Spec L2 PyProof.Rows PkC
section
variable {K : PySem.W.Frag} {C : Cs} {vs : List V} {H H' G F F' : Hp} {Q : VK} {E : XK} {b l d a M : Addr} {σ : L2.St} {P : Addr → Prop} {ex t : Bool} {T : Tab} {v w x : V} {A A' : Parts} {j : Nat}
def Made (K : PySem.W.Frag) (C : Cs) (F : Hp) (T : Tab) (M : Addr) : Prop := ∃ T' kt, T'.Perm T ∧ F M = some (.dK kt) ∧ KvAt true K C F T' kt
theorem Made.keeX (h : Made K C F T M) (k : KeeX K C P F F') (n : ¬ P M) : Made K C F' T M := by
  obtain ⟨T', kt, p, h1, h2⟩ := h
  exact ⟨T', kt, p, k.dk _ _ n h1, h2.kee k.toKee⟩
def tabs (A : Parts) : List Tab := [A.hs.tab, A.ks.tab, A.ss.tab]
def words3 : List V := [.str "houses", .str "kinds", .str "streams"]
theorem PtsAt.gj (h : PtsAt true K C F A v) (e : words3[j]? = some x) : ∃ d a T, v = .ref d ∧ (tabs A)[j]? = some T ∧ DGet F d x (some (.ref a)) ∧ TabAt true false K C P0 F T (.ref a) := by
  have lt := (List.getElem?_eq_some_iff.mp e).1
  have lt : j < 3 := lt
  rcases (by omega : j = 0 ∨ j = 1 ∨ j = 2) with rfl | rfl | rfl
  · cases e
    obtain ⟨d, w, e, g, ta⟩ := h.gh
    obtain ⟨a, ks, rfl, _⟩ := id ta
    exact ⟨d, a, _, e, rfl, g, ta⟩
  · cases e
    obtain ⟨d, w, e, g, ta⟩ := h.gk
    obtain ⟨a, ks, rfl, _⟩ := id ta
    exact ⟨d, a, _, e, rfl, g, ta⟩
  · cases e
    obtain ⟨d, w, e, g, ta⟩ := h.gs
    obtain ⟨a, ks, rfl, _⟩ := id ta
    exact ⟨d, a, _, e, rfl, g, ta⟩
theorem tabs_ok (ok : A.ok) (e : (tabs A)[j]? = some T) : T.names.Nodup ∧ (∀ r ∈ T, RowOk r.2) ∧ T.length ≤ 6 := by
  have lt := (List.getElem?_eq_some_iff.mp e).1
  have lt : j < 3 := lt
  obtain ⟨n1, n2, n3⟩ := ok.nds
  have g6 := ok.g6
  have s6 := ok.s6
  rcases (by omega : j = 0 ∨ j = 1 ∨ j = 2) with rfl | rfl | rfl
  · cases e
    refine ⟨by rw [Grps.tab_nm]; exact n1, fun r hr => ?_, by rw [Grps.len]; omega⟩
    obtain ⟨g, _, rfl⟩ := List.mem_map.mp hr
    exact g.2.rowOk
  · cases e
    refine ⟨by rw [Grps.tab_nm]; exact n2, fun r hr => ?_, by rw [Grps.len]; omega⟩
    obtain ⟨g, _, rfl⟩ := List.mem_map.mp hr
    exact g.2.rowOk
  · cases e
    refine ⟨by rw [Stms.tab_nm]; exact n3, fun r hr => ?_, by rw [Stms.len]; omega⟩
    obtain ⟨g, _, rfl⟩ := List.mem_map.mp hr
    exact g.2.rowOk
theorem Parts.ok.perm (e : A'.p = A.p) (h1 : A'.hs.Perm A.hs) (h2 : A'.ks.Perm A.ks) (h3 : A'.ss.Perm A.ss) (ok : A.ok) : A'.ok := by
  have p1 : A'.hs.nm.Perm A.hs.nm := h1.map _
  have p2 : A'.ks.nm.Perm A.ks.nm := h2.map _
  have p3 : A'.ss.nm.Perm A.ss.nm := h3.map _
  refine ⟨by rw [e]; exact ok.pi, ok.hs.perm h1, ok.ks.perm h2, ?_, by rw [h1.length_eq, h2.length_eq]; exact ok.g6, by rw [h3.length_eq]; exact ok.s1, by rw [h3.length_eq]; exact ok.s6, fun r hr => ?_⟩
  · exact ((List.Perm.cons _ ((p1.append p2).append p3)).nodup_iff).mpr ok.nd
  · obtain ⟨q1, q2, q3, q4, q5⟩ := ok.ss r (h3.mem_iff.mp hr)
    refine ⟨q1, q2, fun n hn => p1.mem_iff.mpr (q3 n hn), fun n hn => p2.mem_iff.mpr (q4 n hn), fun n hn => ?_⟩
    obtain ⟨s, q1, q2⟩ := q5 n hn
    exact ⟨s, h3.mem_iff.mpr q1, q2⟩
def sp_law_make_plan (K : PySem.W.Frag) (C : Cs) : Sp := fun vs H Q _ => ∃ b l v A, vs = [.ref b, v] ∧ Bag H b l ∧ PtsAt true K C H A v ∧ A.ok ∧ FxRule K C ∧ FxPlan K C ∧
  ∀ x B H', PlanAt true K C P0 H' (.ref x) B → B.of A → Bag H' b l → Kp b H H' → H x = none → Q (.ref x) H'
def t_law_make_plan (K : PySem.W.Frag) (C : Cs) : TS :=
  (tSeq (tAsg (tLst tNil) (gName 2))
    (tSeq (tFor (iTup K (tTup (tCons (tC (.str "houses")) (tCons (tC (.str "kinds")) (tCons (tC (.str "streams")) tNil))))) (gName 3) (tSeq (tPar 4 5 (tCons (tDGet (tVar 1) (tVar 3)) (tCons tDNewK tNil)))
    (tSeq (tFor (iList K (tCall (sp_law_mixed K) [] E0 (tCons (tVar 0) (tCons (tCB rKeysL (tCons (tVar 4) tNil)) tNil)))) (gName 6) (tAsg (tOp (rAddU K) (tOp (rAddU K) (tSl (rSlU K) (tDGet (tVar 4) (tVar 6)) tNoPart (tPart (tC (.int 1)))) (tTup (tCons (tMake C.Rule (sp_Rule___init__ K C) [] E0 (tCons (tOp (rIx K) (tDGet (tVar 4) (tVar 6)) (tC (.int 1))) tNil)) tNil))) (tSl (rSlU K) (tDGet (tVar 4) (tVar 6)) (tPart (tC (.int 2))) tNoPart)) (gSub (tVar 5) (tVar 6) rSetD)))
    (tDrop (tBM K "list" rAppend (tVar 2) (tCons (tVar 5) tNil))))))
    (tSeq (tAsg (tDGet (tVar 1) (tC (.str "pipe"))) (gTup K 3 (gCons (gName 7) (gCons (gName 8) (gCons (gName 9) gNil)))))
    (tRet (tMake C.Plan (sp_Plan___init__ K C) [] E0 (tCons (tTup (tCons (tVar 7) (tCons (tMake C.Rule (sp_Rule___init__ K C) [] E0 (tCons (tVar 8) tNil)) (tCons (tVar 9) tNil)))) (tCons (tOp (rIx K) (tVar 2) (tC (.int 0))) (tCons (tOp (rIx K) (tVar 2) (tC (.int 1))) (tCons (tOp (rIx K) (tVar 2) (tC (.int 2))) tNil)))))))))
theorem ln_law_make_plan (h : sp_law_make_plan K C vs H Q E) : vs.length = 2 := by obtain ⟨_, _, _, _, rfl, _⟩ := h; rfl
theorem rd_law_make_plan (h : sp_law_make_plan K C vs H Q E) : t_law_make_plan K C (EndsOf Q) (start ["", "", "", "", "", "", "", "", "", ""] vs) H := by
  obtain ⟨b, l, v, A, rfl, B, pt, ok, fx, fp, k⟩ := h
  refine ⟨Nat.zero_le _, fun p0 fp0 => ?_⟩
  have j0 := same_new (o := .lst []) fp0
  have z0 : (upd H p0 (.lst [])) p0 = some (.lst []) := upd_same
  have n0 : p0 ≠ b := B.nb fp0
  have B0 := B.same j0
  dsimp only [gName]
  generalize upd H p0 (.lst []) = H0 at j0 z0 B0 ⊢
  refine ⟨two_fit.2.2.1, fun tp ht => ⟨tp, rfl, ⟨_, SqT.of upd_same⟩, ?_⟩⟩
  have j1 := same_new (o := .tup words3) ht
  have z1 := j1 _ _ z0
  have B1 := B0.same j1
  have k1 : Kp b H (upd H0 tp (.tup words3)) := Kp.of (j0.trans j1)
  have t1 : (upd H0 tp (.tup words3)) tp = some (.tup words3) := upd_same
  have ntb : tp ≠ b := B0.nb ht
  refine for_tup (K := K) (a := tp) (xs := words3) (fun j σ' F => ∃ s3 s4 s5 s6, ∃ Ms : List Addr, σ' = [some (.ref b), some v, some (.ref p0), s3, s4, s5, s6, none, none, none] ∧ Kp b H F ∧ Bag F b l ∧ F p0 = some (.lst (Ms.map V.ref)) ∧ F tp = some (.tup words3) ∧ Ms.length = j ∧
      ∀ (i : Nat) (M : Addr) (T : Tab), Ms[i]? = some M → (tabs A)[i]? = some T → Made K C F T M)
    ⟨_, _, _, _, [], rfl, k1, B1, z1, t1, rfl, fun i M T e => by simp at e⟩ (fun j σ' F _ ⟨_, _, _, _, _, _, _, _, _, e, _⟩ => SqT.of e) ?_ ?_
  · rintro j x σ' F hx ⟨s3, s4, s5, s6, Ms, rfl, kF, BF, hz, htp, lj, made⟩
    have ptF := pt.bag B kF
    obtain ⟨d, a, T, rfl, eT, dg, tab⟩ := ptF.gj hx
    obtain ⟨nd, rok, few⟩ := tabs_ok ok eT
    obtain ⟨_, ks, z, _, ha, kv⟩ := tab
    cases z
    have ha : F a = some (.dK ks) := ha
    refine ⟨_, rfl, _, rfl, d, _, rfl, dg, fun M hM => ⟨_, _, rfl, ?_⟩⟩
    have fM := kF.freeB BF hM
    have nMb : M ≠ b := BF.nb hM
    have nMl : M ≠ l := BF.nl hM
    have nMa : M ≠ a := fun z => by rw [z, ha] at hM; cases hM
    have j2 := same_new (o := .dK []) hM
    have m2 : (upd F M (.dK [])) M = some (.dK []) := upd_same
    generalize upd F M (.dK []) = F1 at j2 m2 ⊢
    dsimp only [gName, List.set]
    refine ⟨_, rfl, _, rfl, a, ks, rfl, .inl (j2 _ _ ha), fun q fq => ?_⟩
    rw [kv.keys.2]
    have j3 := same_new (o := .lst (T.names.map V.str)) fq
    have v3 : (upd F1 q (.lst (T.names.map V.str))) q = some (.lst (T.names.map V.str)) := upd_same
    generalize upd F1 q (.lst (T.names.map V.str)) = F2 at j3 v3 ⊢
    have j23 := j2.trans j3
    have lT : T.names.length = T.length := List.length_map ..
    refine ⟨b, l, q, T.names, rfl, BF.same j23, v3, by omega, fun L ms G fL pm hL BG kG => ⟨L, rfl, ⟨_, SqL.of hL⟩, ?_⟩⟩
    have kG2 : Kp b F G := (Kp.of j23).trans kG
    have xG : ∀ {P}, KeeX K C P F G := fun {P} => (KeeX.same j23).trans (KeeX.bag (BF.same j23) kG)
    have nab : a ≠ b := by
      obtain ⟨ys, hb⟩ := BF.at
      exact ne_of ha hb fun z => nomatch z
    refine made_tab (v := .ref d) fx BG (kG2 _ _ ha nab) (kv.kee xG.toKee (P := P0)) nd rok few (kG _ _ (j3 _ _ m2) nMb) nMa nMb nMl hL pm ((BF.same j23).nb fL) (fun s6' F3 T' kt pT hz3 kv3 B3 k3 kx => ?_)
    have kH3 : Kp b H F3 := fun c o e nc => k3 c o ((kF.trans kG2) c o e nc) nc (ne_of_none e fM)
    have n0M : p0 ≠ M := ne_of_none hz hM
    have z3 := k3 _ _ (kG2 _ _ hz n0) n0 n0M
    have lMs : (Ms.map V.ref).length ≤ 3 := by
      rw [List.length_map, lj]
      exact Nat.le_of_lt (List.getElem?_eq_some_iff.mp hx).1
    refine ⟨_, rfl, .inl ⟨rfl, _, SqL.of z3⟩, _, rfl, p0, _, _, rfl, rfl, z3, small1000 (by omega), ?_⟩
    have x4 : ∀ {P}, KeeX K C P F3 (upd F3 p0 (.lst (Ms.map V.ref ++ [V.ref M]))) := fun {P} => KeeX.list kp_put z3
    have n0t : tp ≠ p0 := ne_of htp hz fun z => nomatch z
    refine ⟨_, _, _, _, Ms ++ [M], rfl, kH3.other fp0, B3.put n0.symm (B.nl fp0).symm, by rw [upd_same, List.map_append]; rfl, ?_, by rw [List.length_append, lj]; rfl, fun i M' T'' e1 e2 => ?_⟩
    · rw [upd_ne n0t]
      exact k3 _ _ (kG2 _ _ htp ntb) ntb fun z => by rw [z, hM] at htp; cases htp
    · by_cases hi : i < Ms.length
      · rw [List.getElem?_append_left hi] at e1
        have m1 := made i M' T'' e1 e2
        have nM : M' ≠ M := by
          obtain ⟨_, _, _, h1, _⟩ := m1
          exact ne_of_none h1 hM
        exact ((m1.keeX (xG (P := P0)) (fun z => z)).keeX kx nM).keeX (x4 (P := P0)) (fun z => z)
      · have hi2 : i = Ms.length := by
          have := (List.getElem?_eq_some_iff.mp e1).1
          rw [List.length_append, List.length_singleton] at this
          omega
        subst hi2
        rw [List.getElem?_append_right (Nat.le_refl _), Nat.sub_self] at e1
        cases e1
        rw [lj, eT] at e2
        cases e2
        exact Made.keeX (P := P0) ⟨T', kt, pT, hz3, kv3⟩ x4 (fun z => z)
  · rintro σ' F ⟨s3, s4, s5, s6, Ms, rfl, kF, BF, hz, htp, lj, made⟩
    have ptF := pt.bag B kF
    obtain ⟨d, w, rfl, dg, row⟩ := ptF.gp
    obtain ⟨aw, r, rfl, sw, lf⟩ := PoolR.at row
    have lj : Ms.length = 3 := lj
    obtain ⟨M0, M1, M2, rfl⟩ : ∃ M0 M1 M2, Ms = [M0, M1, M2] := by
      match Ms, lj with
      | [M0, M1, M2], _ => exact ⟨M0, M1, M2, rfl⟩
    have d0 := made 0 M0 _ rfl rfl
    have d1 := made 1 M1 _ rfl rfl
    have d2 := made 2 M2 _ rfl rfl
    refine ⟨_, rfl, d, _, rfl, dg, aw, _, rfl, sw, rfl, _, _, rfl, _, _, rfl, _, _, rfl, rfl, ?_⟩
    refine ⟨_, rfl, _, rfl, ?_⟩
    intro x dx hx hd nx
    have jm := same_made (fs := []) (c0 := C.Rule) hx hd
    refine ⟨x, dx, r, A.p.T, rfl, upd_same, lf.1.mono (Tups.same jm), lf.2.1, lf.2.2, fx, fun F2 h1 h2 => ⟨rfl, ?_⟩⟩
    obtain ⟨j2, ru⟩ := rule_after hx hd lf.1 lf.2.1 lf.2.2 fx h1 h2
    refine ⟨_, rfl, two_fit.2.2.1, fun q fq => ?_⟩
    have j3 := same_new (o := .tup [V.int A.p.c, V.ref x, .str A.p.m]) fq
    have v3 : (upd F2 q (.tup [V.int A.p.c, V.ref x, .str A.p.m])) q = some (.tup [V.int A.p.c, V.ref x, .str A.p.m]) := upd_same
    have ru := ru.kee (P := P0) (Kee.same j3)
    generalize upd F2 q (.tup [V.int A.p.c, V.ref x, .str A.p.m]) = F3 at j3 v3 ru ⊢
    have j23 := j2.trans j3
    have z3 := j23 _ _ hz
    refine ⟨_, rfl, .inl ⟨p0, _, 0, .ref M0, rfl, rfl, SqL.of z3, atI_nat (j := 0) rfl, ?_⟩⟩
    refine ⟨_, rfl, .inl ⟨p0, _, 1, .ref M1, rfl, rfl, SqL.of z3, atI_nat (j := 1) rfl, ?_⟩⟩
    refine ⟨_, rfl, .inl ⟨p0, _, 2, .ref M2, rfl, rfl, SqL.of z3, atI_nat (j := 2) rfl, ?_⟩⟩
    intro y dy hy hdy ny
    have jp := same_made (fs := []) (c0 := C.Plan) hy hdy
    have xs : ∀ {P}, KeeX K C P F (upd (upd F3 dy (.own y)) y (.ins C.Plan dy [])) := fun {P} => KeeX.same (j23.trans jp)
    obtain ⟨T0, kt0, p0', h0, v0⟩ := d0.keeX (xs (P := P0)) (fun z => z)
    obtain ⟨T1, kt1, p1', h1', v1⟩ := d1.keeX (xs (P := P0)) (fun z => z)
    obtain ⟨T2, kt2, p2', h2', v2⟩ := d2.keeX (xs (P := P0)) (fun z => z)
    obtain ⟨hs', ph, rfl⟩ := perm_lift _ p0' A.hs rfl
    obtain ⟨ks', pk, rfl⟩ := perm_lift _ p1' A.ks rfl
    obtain ⟨ss', ps, rfl⟩ := perm_lift _ p2' A.ss rfl
    have ok' : Parts.ok ⟨A.p, hs', ks', ss'⟩ := Parts.ok.perm (A := A) rfl ph pk ps ok
    refine ⟨y, dy, .ref q, .ref M0, .ref M1, .ref M2, ⟨A.p, hs', ks', ss'⟩, P0, rfl, upd_same, ⟨(PoolR.mk_at (t := true) (SqT.of v3) ru).kee (P := P0) (Kee.same jp), ⟨M0, kt0, rfl, fun z => z, h0, v0⟩, ⟨M1, kt1, rfl, fun z => z, h1', v1⟩, ⟨M2, kt2, rfl, fun z => z, h2', v2⟩⟩, ok', fp, fun H' B' kp of pl => ⟨rfl, ?_⟩⟩
    have fy : F y = none := j23.free hy
    have kA : Kp b F H' := fun c o e nc => kp c o ((j23.trans jp) c o e) (ne_of_none e fy)
    have BH : Bag H' b l := by
      obtain ⟨x, m, p, xs, h1, h2, r⟩ := BF.ex
      exact ⟨x, m, p, xs, kp _ _ ((j23.trans jp) _ _ h1) (ne_of_none h1 fy), kp _ _ ((j23.trans jp) _ _ h2) (ne_of_none h2 fy), r⟩
    exact k y B' H' (pl.less fun _ z => z.elim) ⟨of.p, of.hs.trans ph, of.ks.trans pk, of.ss.trans ps, of.o1, of.o2, of.o3⟩ BH (kF.trans kA) (kF.freeB BF fy)
end
end Pk
set_option Elab.async false
set_option linter.all false
set_option maxRecDepth 100000
set_option maxHeartbeats 2000000
namespace Pk
open PySem PySem.Spec L2 PyProof.Rows PkC
/-! ### what the law reads of the parts -/
section
variable {K : PySem.W.Frag} {C : Cs} {P P' : Addr → Prop} {vs : List V} {H H' F G : Hp} {Q : VK} {E : XK} {ex t : Bool} {v x : V} {a p : Addr} {A B : Parts} {n : Str}
def sp_law_around (K : PySem.W.Frag) (C : Cs) : Sp := fun vs H Q _ => ∃ o v G P, vs = [v, oV o] ∧ TabAt false false K C P H (Grps.tab G) v ∧ G.ok ∧ G.nm.Nodup ∧ (∀ n, o = some n → n ∈ G.nm) ∧ ∀ p l H', H p = none → Same H H' → Chain G o l → H' p = some (.lst (l.map V.str)) → l.length ≤ 101 → Q (.ref p) H'
def t_law_around (K : PySem.W.Frag) : TS :=
  (tSeq (tAsg (tLst tNil) (gName 2))
    (tSeq (tWhile (tTest (tOp (rNotNn) (tVar 1) (tC .non))) (tSeq (tDrop (tBM K "list" rAppend (tVar 2) (tCons (tVar 1) tNil)))
    (tAsg (tOp (rIx K) (tDGet (tVar 0) (tVar 1)) (tC (.int 3))) (gName 1))))
    (tRet (tVar 2))))
theorem ln_law_around (h : sp_law_around K C vs H Q E) : vs.length = 2 := by obtain ⟨_, _, _, _, rfl, _⟩ := h; rfl
theorem rd_law_around (h : sp_law_around K C vs H Q E) : t_law_around K (EndsOf Q) (start ["", "", ""] vs) H := by
  obtain ⟨o, v, GG, P, rfl, ht, ok, nd, ho, k⟩ := h
  obtain ⟨h, hb, hh⟩ := ok.ar
  obtain ⟨d, e, _⟩ := id ht.dget
  subst e
  refine ⟨Nat.zero_le _, fun p hp => ?_⟩
  have s0 := same_new (o := .lst []) hp
  refine ⟨fun m σ' F => ∃ (o' : Option Str) (dn : List Str), σ' = [some (.ref d), some (oV o'), some (.ref p)] ∧ F p = some (.lst (dn.map V.str)) ∧ Same H F ∧ (∀ l, Chain GG o' l → Chain GG o (dn ++ l)) ∧ (∀ n, o' = some n → n ∈ GG.nm) ∧ dn.length + m ≤ 101 ∧ m = (match o' with | none => 0 | some n => h n + 1),
    ⟨_, o, [], rfl, upd_same, s0, fun l c => c, ho, ?_, rfl⟩, ?_⟩
  · show 0 + _ ≤ 101
    cases o with
    | none => show 0 + 0 ≤ 101; decide
    | some n => have := hb n; show 0 + (h n + 1) ≤ 101; omega
  rintro m σ' F ⟨o', dn, rfl, hz, sF, ch, ho', le, em⟩
  refine ⟨_, rfl, rfl, _, rfl, ?_⟩
  cases o' with
  | none =>
    refine iteF' (by rw [decide_eq_true (show oV none = V.non from rfl)]; rfl) ?_
    have c := ch [] .nil
    rw [List.append_nil] at c
    exact ⟨_, rfl, k p dn F hp sF c hz (by omega)⟩
  | some n =>
    refine iteT' (by rw [decide_eq_false (show ¬ oV (some n) = V.non from by intro z; cases z)]; rfl) ?_
    have em : m = h n + 1 := em
    obtain ⟨g, hg⟩ := Grps.mem (ho' n rfl)
    refine ⟨fun σ2 F2 => ∃ (o2 : Option Str), σ2 = [some (.ref d), some (oV o2), some (.ref p)] ∧ F2 p = some (.lst ((dn ++ [n]).map V.str)) ∧ Same H F2 ∧ o2 = g.ar, fun σ2 F2 ⟨o2, a1, a2, a3, a4⟩ => ?_, ?_⟩
    · subst a4
      have q := hh _ hg
      refine ⟨_, ?_, g.ar, dn ++ [n], a1, a2, a3, fun l c => ?_, fun n2 e => (q n2 e).1, ?_, rfl⟩
      · cases e : g.ar with
        | none => show 0 < m; omega
        | some n2 => have : h n2 < h n := (q n2 e).2; show h n2 + 1 < m; omega
      · rw [List.append_assoc]
        exact ch _ (.cons hg c)
      · rw [List.length_append, List.length_singleton]
        cases e : g.ar with
        | none => show dn.length + 1 + 0 ≤ 101; omega
        | some n2 => have : h n2 < h n := (q n2 e).2; show dn.length + 1 + (h n2 + 1) ≤ 101; omega
    · refine ⟨_, rfl, .inl ⟨rfl, _, SqL.of hz⟩, _, rfl, p, _, _, rfl, rfl, hz, small1000 (by rw [List.length_map]; omega), ?_⟩
      have s1 : Same H (upd F p (.lst (dn.map V.str ++ [V.str n]))) := fun c u e => by rw [upd_ne (ne_of_none e hp)]; exact sF _ _ e
      obtain ⟨d', x, e', dg, row⟩ := Grps.look (ht.kee (Kee.same s1)) nd hg
      cases e'
      obtain ⟨b, r, rfl, s, _⟩ := GrpR.at row
      refine ⟨_, rfl, _, rfl, d, _, rfl, dg, .inr (.inl ⟨b, _, 3, _, rfl, rfl, s, rfl, ?_⟩)⟩
      exact ⟨g.ar, rfl, by rw [upd_same, List.map_append]; rfl, s1, rfl⟩
def sp_law_over (K : PySem.W.Frag) (C : Cs) : Sp := fun vs H Q _ => ∃ v A n, vs = [v, .str n] ∧ PtsAt false K C H A v ∧ A.ok ∧ n ∈ A.ss.nm ∧ ∀ p L H', H p = none → Same H H' → A.Over n L → H' p = some (.lst (L.map V.str)) → L.length ≤ 300 → Q (.ref p) H'
def t_law_over (K : PySem.W.Frag) (C : Cs) : TS :=
  (tSeq (tAsg (tSl (rSlU K) (tDGet (tDGet (tVar 0) (tC (.str "streams"))) (tVar 1)) (tPart (tC (.int 3))) (tPart (tC (.int 5)))) (gTup K 2 (gCons (gName 2) (gCons (gName 3) gNil))))
    (tSeq (tAsg (tOp (rAddU K) (tLst (tCons (tVar 1) tNil)) (tCall (sp_law_around K C) [] E0 (tCons (tDGet (tVar 0) (tC (.str "houses"))) (tCons (tVar 2) tNil)))) (gName 4))
    (tRet (tOp (rAddU K) (tOp (rAddU K) (tVar 4) (tCall (sp_law_around K C) [] E0 (tCons (tDGet (tVar 0) (tC (.str "kinds"))) (tCons (tVar 3) tNil)))) (tLst (tCons (tC (.str "pipe")) tNil))))))
theorem ln_law_over (h : sp_law_over K C vs H Q E) : vs.length = 2 := by obtain ⟨_, _, _, rfl, _⟩ := h; rfl
theorem rd_law_over (h : sp_law_over K C vs H Q E) : t_law_over K C (EndsOf Q) (start ["", "", "", "", ""] vs) H := by
  obtain ⟨v, A, n, rfl, pt, ok, hn, k⟩ := h
  obtain ⟨nd1, nd2, nd3⟩ := ok.nds
  obtain ⟨g, hm⟩ := Stms.mem hn
  obtain ⟨_, _, i3, i4, _⟩ := ok.ss _ hm
  obtain ⟨d, kvs, vp, vh, vk, vss, rfl, hd, ep, eh, ek, es, rp, th, tk, ts⟩ := id pt
  obtain ⟨a7, w7, e7, dg7, row7⟩ := Stms.look ts nd3 hm
  subst e7
  obtain ⟨a8, r8, rfl, s8, _⟩ := StmR.at row7
  refine ⟨_, rfl, d, _, rfl, .inl ⟨kvs, .inr "streams", hd.rd, rfl, es.symm⟩, _, rfl, a7, _, rfl, dg7, _, rfl, _, rfl, .inr ⟨a8, _, rfl, s8, fun w => ?_, fun q fq => ?_⟩⟩
  · have w1 : HT.sIx 6 0 (some ((3 : Nat) : Int)) = 0 := w.1
    rw [HT.sIx_nat] at w1
    exact absurd w1 (by decide)
  rw [cut35]
  have j0 := same_new (o := .tup [oV g.h, oV g.k]) fq
  refine ⟨q, _, rfl, SqT.of upd_same, rfl, _, _, rfl, _, _, rfl, rfl, ?_⟩
  generalize upd H q (.tup [oV g.h, oV g.k]) = H1 at j0 ⊢
  dsimp only [gName, List.set]
  refine ⟨_, rfl, two_fit.1, fun p1 f1 => ?_⟩
  have j1 := same_new (o := .lst [V.str n]) f1
  have e1 : (upd H1 p1 (.lst [V.str n])) p1 = some (.lst [V.str n]) := upd_same
  generalize upd H1 p1 (.lst [V.str n]) = H2 at j1 e1 ⊢
  have s2 := j0.trans j1
  have rdk : ∀ {F}, Same H F → Rd F d (.dK kvs) := fun s => (Kee.same (K := K) (C := C) (P := P0) s).rd _ _ (fun z => z) hd
  refine ⟨_, rfl, d, _, rfl, .inl ⟨kvs, .inr "houses", rdk s2, rfl, eh.symm⟩, _, rfl, ?_⟩
  refine ⟨g.h, vh, A.hs, P0, rfl, th.kee (Kee.same s2), ok.hs, nd1, i3, fun p2 l1 H3 f2 s3 c1 e2 len1 => ?_⟩
  refine cat_lists (s3 _ _ e1) e2 (by rw [List.length_map]; show 1 + _ ≤ _; omega) fun p3 f3 => ?_
  have j4 := same_new (o := .lst ([V.str n] ++ l1.map V.str)) f3
  have e3 : (upd H3 p3 (.lst ([V.str n] ++ l1.map V.str))) p3 = some (.lst ([V.str n] ++ l1.map V.str)) := upd_same
  generalize upd H3 p3 (.lst ([V.str n] ++ l1.map V.str)) = H4 at j4 e3 ⊢
  have s4 := (s2.trans s3).trans j4
  refine ⟨_, rfl, _, rfl, d, _, rfl, .inl ⟨kvs, .inr "kinds", rdk s4, rfl, ek.symm⟩, _, rfl, ?_⟩
  refine ⟨g.k, vk, A.ks, P0, rfl, tk.kee (Kee.same s4), ok.ks, nd2, i4, fun p4 l2 H5 f4 s5 c2 e4 len2 => ?_⟩
  refine cat_lists (s5 _ _ e3) e4 (by rw [List.length_append, List.length_map, List.length_map]; show 1 + _ + _ ≤ _; omega) fun p5 f5 => ?_
  have j6 := same_new (o := .lst ([V.str n] ++ l1.map V.str ++ l2.map V.str)) f5
  have e5 : (upd H5 p5 (.lst ([V.str n] ++ l1.map V.str ++ l2.map V.str))) p5 = some (.lst ([V.str n] ++ l1.map V.str ++ l2.map V.str)) := upd_same
  generalize upd H5 p5 (.lst ([V.str n] ++ l1.map V.str ++ l2.map V.str)) = H6 at j6 e5 ⊢
  refine ⟨two_fit.1, fun p6 f6 => ?_⟩
  have j7 := same_new (o := .lst [V.str "pipe"]) f6
  refine cat_lists (j7 _ _ e5) upd_same (by rw [List.length_append, List.length_append, List.length_map, List.length_map]; show 1 + _ + _ + 1 ≤ _; omega) fun p7 f7 => ?_
  have j8 := same_new (o := .lst ([V.str n] ++ l1.map V.str ++ l2.map V.str ++ [V.str "pipe"])) f7
  have sA := (s4.trans s5).trans (j6.trans j7)
  refine k p7 (n :: (l1 ++ (l2 ++ [("pipe" : Str)]))) _ (sA.free f7) (sA.trans j8) ⟨g, l1, l2, hm, c1, c2, rfl⟩ ?_ ?_
  · rw [upd_same]
    simp
  · rw [List.length_cons, List.length_append, List.length_append, List.length_singleton]
    omega
end
end Pk
set_option Elab.async false
set_option linter.all false
set_option maxRecDepth 100000
set_option maxHeartbeats 2000000
namespace Pk
open PySem PySem.Spec L2 PyProof.Rows PkC
section
variable {K : PySem.W.Frag} {C : Cs} {P P' : Addr → Prop} {vs : List V} {H H' F G : Hp} {Q : VK} {E : XK} {ex t : Bool} {v x : V} {a p : Addr} {A B : Parts} {n : Str}
def sp_law_under (K : PySem.W.Frag) (C : Cs) : Sp := fun vs H Q _ => ∃ v A n, vs = [v, .str n] ∧ PtsAt true K C H A v ∧ A.ok ∧
  ∀ p (zs : List Str) (L : Str → List Str) H', H p = none → Same H H' → zs.Perm A.ss.nm → sortedS zs = true → (∀ s ∈ zs, A.Over s (L s)) → H' p = some (.lst ((zs.filter fun s => decide (n ∈ L s)).map V.str)) → Q (.ref p) H'
def t_law_under (K : PySem.W.Frag) (C : Cs) : TS :=
  (tRet (tLc (iList K (tCB rKeysS (tCons (tDGet (tVar 0) (tC (.str "streams"))) tNil))) (gName 2) (tTest (tOp (rInU K) (tVar 1) (tCall (sp_law_over K C) [] E0 (tCons (tVar 0) (tCons (tVar 2) tNil))))) (tVar 2) [2]))
theorem ln_law_under (h : sp_law_under K C vs H Q E) : vs.length = 2 := by obtain ⟨_, _, _, rfl, _⟩ := h; rfl
theorem filter_take {zs : List Str} {q : Str → Bool} {i : Nat} {s : Str} (h : zs[i]? = some s) : (zs.take (i + 1)).filter q = (zs.take i).filter q ++ (if q s = true then [s] else []) := by
  rw [List.take_add_one, h, List.filter_append]
  show _ ++ List.filter q [s] = _
  rw [List.filter_cons]
  rfl
theorem rd_law_under (h : sp_law_under K C vs H Q E) : t_law_under K C (EndsOf Q) (start ["", "", ""] vs) H := by
  obtain ⟨v, A, n, rfl, pt, ok, k⟩ := h
  obtain ⟨nd1, nd2, nd3⟩ := ok.nds
  obtain ⟨L, hL⟩ := ok.overs
  obtain ⟨d, w, rfl, dg, as, ks, rfl, _, hs, kv⟩ := pt.gs
  have hs : H as = some (.dK ks) := hs
  have s6 := ok.s6
  have lt : A.ss.tab.names.length ≤ 6 := by rw [Stms.tab_nm, Stms.nm, List.length_map]; exact s6
  refine ⟨_, rfl, d, _, rfl, dg, as, ks, A.ss.tab.names, rfl, .inl hs, kv.keys.1, by omega, fun zs q pm so fq => ?_⟩
  rw [Stms.tab_nm] at pm
  have lz : zs.length ≤ 6 := by rw [pm.length_eq, Stms.nm, List.length_map]; exact s6
  have j1 := same_new (o := .lst (zs.map V.str)) fq
  have e1 : (upd H q (.lst (zs.map V.str))) q = some (.lst (zs.map V.str)) := upd_same
  generalize upd H q (.lst (zs.map V.str)) = H1 at j1 e1 ⊢
  have hz : ∀ s ∈ zs, A.Over s (L s) := fun s h => hL s (pm.mem_iff.mp h)
  refine ⟨q, rfl, ⟨_, SqL.of e1⟩, fun D hD => ?_⟩
  refine lc_list (xs := zs.map V.str) (fun i G => Same H1 G ∧ G D = some (.lst (((zs.take i).filter fun s => decide (n ∈ L s)).map V.str))) ⟨same_new hD, upd_same⟩ (fun i G _ ⟨s, _⟩ => SqL.of (s _ _ e1)) ?_ ?_
  · rintro i x G hx ⟨s, hg⟩
    rw [List.getElem?_map] at hx
    cases hn : zs[i]? with
    | none => rw [hn] at hx; cases hx
    | some y =>
      rw [hn] at hx
      cases hx
      have my := List.mem_of_getElem? hn
      refine ⟨rfl, _, rfl, _, rfl, _, rfl, .ref d, A, y, rfl, (pt.rd.same (j1.trans s)), ok, pm.mem_iff.mp my, fun p2 L2 G2 f2 s2 ov e2 len => ?_⟩
      have eL : L2 = L y := ov.one ok (hz y my)
      subst eL
      refine .inl ⟨p2, _, rfl, .inl (SqL.of e2), rfl, flat_strs _, _, rfl, ?_⟩
      have few : (((zs.take i).filter fun s => decide (n ∈ L s)).map V.str).length ≤ 6 := by
        rw [List.length_map]
        exact Nat.le_trans (List.length_filter_le ..) (by rw [List.length_take]; omega)
      have hg2 := s2 _ _ hg
      have sA : Same H1 G2 := s.trans s2
      refine if_in (fun c => ?_) (fun c => ?_)
      · rw [inV_strs] at c
        refine ⟨_, rfl, _, hg2, small1000 (by omega), fun c2 o e => by rw [upd_ne (ne_of_none e hD)]; exact sA _ _ e, ?_⟩
        rw [upd_same, filter_take hn, if_pos c, List.map_append]
        rfl
      · rw [inV_strs] at c
        refine ⟨sA, ?_⟩
        rw [filter_take hn, if_neg c, List.append_nil]
        exact hg2
  · rintro G ⟨s, hg⟩
    rw [List.length_map, List.take_length] at hg
    exact k D zs L G (j1.free hD) (j1.trans s) pm so hz hg
def sp_law_shared (K : PySem.W.Frag) (C : Cs) : Sp := fun vs H Q _ => ∃ v A, vs = [v] ∧ PtsAt true K C H A v ∧ A.ok ∧ ∀ p (ys : List Str) H', H p = none → Same H H' → ys.Perm (A.hs.nm ++ A.ks.nm ++ [("pipe" : Str)]) → H' p = some (.lst (ys.map V.str)) → Q (.ref p) H'
def t_law_shared (K : PySem.W.Frag) : TS :=
  (tRet (tCB (rSortedS K) (tCons (tOp (rAddU K) (tOp (rAddU K) (tCB rKeysL (tCons (tDGet (tVar 0) (tC (.str "houses"))) tNil)) (tCB rKeysL (tCons (tDGet (tVar 0) (tC (.str "kinds"))) tNil))) (tLst (tCons (tC (.str "pipe")) tNil))) tNil)))
theorem ln_law_shared (h : sp_law_shared K C vs H Q E) : vs.length = 1 := by obtain ⟨_, _, rfl, _⟩ := h; rfl
theorem rd_law_shared (h : sp_law_shared K C vs H Q E) : t_law_shared K (EndsOf Q) (start [""] vs) H := by
  obtain ⟨v, A, rfl, pt, ok, k⟩ := h
  obtain ⟨d, kvs, vp, vh, vk, vss, rfl, hd, ep, eh, ek, es, rp, ⟨ah, kh, rfl, _, hh, kvh⟩, ⟨ak, kk, rfl, _, hk, kvk⟩, _⟩ := pt
  have hd : H d = some (.dK kvs) := hd
  have hh : H ah = some (.dK kh) := hh
  have hk : H ak = some (.dK kk) := hk
  have g6 := ok.g6
  have lh : A.hs.nm.length = A.hs.length := List.length_map ..
  have lk : A.ks.nm.length = A.ks.length := List.length_map ..
  refine ⟨_, rfl, d, _, rfl, .inl ⟨kvs, .inr "houses", .inl hd, rfl, eh.symm⟩, ah, kh, rfl, .inl hh, fun p1 f1 => ?_⟩
  rw [kvh.keys.2, Grps.tab_nm]
  have j1 := same_new (o := .lst (A.hs.nm.map V.str)) f1
  have e1 : (upd H p1 (.lst (A.hs.nm.map V.str))) p1 = some (.lst (A.hs.nm.map V.str)) := upd_same
  generalize upd H p1 (.lst (A.hs.nm.map V.str)) = H1 at j1 e1 ⊢
  refine ⟨_, rfl, d, _, rfl, .inl ⟨kvs, .inr "kinds", .inl (j1 _ _ hd), rfl, ek.symm⟩, ak, kk, rfl, .inl (j1 _ _ hk), fun p2 f2 => ?_⟩
  rw [kvk.keys.2, Grps.tab_nm]
  have j2 := same_new (o := .lst (A.ks.nm.map V.str)) f2
  have e2 : (upd H1 p2 (.lst (A.ks.nm.map V.str))) p2 = some (.lst (A.ks.nm.map V.str)) := upd_same
  generalize upd H1 p2 (.lst (A.ks.nm.map V.str)) = H2 at j2 e2 ⊢
  refine cat_lists (j2 _ _ e1) e2 (by rw [List.length_map, List.length_map]; omega) fun p3 f3 => ?_
  have j3 := same_new (o := .lst (A.hs.nm.map V.str ++ A.ks.nm.map V.str)) f3
  have e3 : (upd H2 p3 (.lst (A.hs.nm.map V.str ++ A.ks.nm.map V.str))) p3 = some (.lst (A.hs.nm.map V.str ++ A.ks.nm.map V.str)) := upd_same
  generalize upd H2 p3 (.lst (A.hs.nm.map V.str ++ A.ks.nm.map V.str)) = H3 at j3 e3 ⊢
  refine ⟨two_fit.1, fun p4 f4 => ?_⟩
  have j4 := same_new (o := .lst [V.str "pipe"]) f4
  have e4 : (upd H3 p4 (.lst [V.str "pipe"])) p4 = some (.lst [V.str "pipe"]) := upd_same
  generalize upd H3 p4 (.lst [V.str "pipe"]) = H4 at j4 e4 ⊢
  refine cat_lists (j4 _ _ e3) e4 (by rw [List.length_append, List.length_map, List.length_map]; show _ + 1 ≤ _; omega) fun p5 f5 => ?_
  have j5 := same_new (o := .lst (A.hs.nm.map V.str ++ A.ks.nm.map V.str ++ [V.str "pipe"])) f5
  have e5 : (upd H4 p5 (.lst (A.hs.nm.map V.str ++ A.ks.nm.map V.str ++ [V.str "pipe"]))) p5 = some (.lst ((A.hs.nm ++ A.ks.nm ++ [("pipe" : Str)]).map V.str)) := by rw [upd_same, List.map_append, List.map_append]; rfl
  generalize upd H4 p5 (.lst (A.hs.nm.map V.str ++ A.ks.nm.map V.str ++ [V.str "pipe"])) = H5 at j5 e5 ⊢
  refine ⟨p5, _, rfl, SqL.of e5, by rw [List.length_append, List.length_append, List.length_singleton]; omega, fun ys q pm so fq => ?_⟩
  have sA := ((j1.trans j2).trans (j3.trans j4)).trans j5
  exact k q ys _ (sA.free fq) (sA.trans (same_new fq)) pm upd_same
/-! ### the pool of a name -/
def sp_law_pool (K : PySem.W.Frag) (C : Cs) : Sp := fun vs H Q _ => ∃ v A n, vs = [v, .str n] ∧ PtsAt true K C H A v ∧ A.ok ∧ n ∈ A.nm ∧ ∀ w (p : PoolR) H', Same H H' → p.ok → (n, p.cells) ∈ A.ptab → RowAt false K C H' p.cells w → Q w H'
def t_law_pool (K : PySem.W.Frag) : TS :=
  (tSeq (tIfS (tTest (tOp (rEqU K) (tVar 1) (tC (.str "pipe")))) (tRet (tDGet (tVar 0) (tC (.str "pipe")))) tNext)
    (tSeq (tIfS (tB (tDIn (tVar 1) (tDGet (tVar 0) (tC (.str "streams"))))) (tRet (tOp (rAddU K) (tSl (rSlU K) (tDGet (tDGet (tVar 0) (tC (.str "streams"))) (tVar 1)) tNoPart (tPart (tC (.int 2)))) (tTup (tCons (tC (.str "read")) tNil)))) tNext)
    (tSeq (tAsg (tIf (tB (tDIn (tVar 1) (tDGet (tVar 0) (tC (.str "houses"))))) (tC (.str "houses")) (tC (.str "kinds"))) (gName 2))
    (tRet (tSl (rSlU K) (tDGet (tDGet (tVar 0) (tVar 2)) (tVar 1)) tNoPart (tPart (tC (.int 3))))))))
theorem ln_law_pool (h : sp_law_pool K C vs H Q E) : vs.length = 2 := by obtain ⟨_, _, _, rfl, _⟩ := h; rfl
theorem Grps.get_g {G : Grps} {g : GrpR} (nd : G.nm.Nodup) (m : (n, g) ∈ G) : G.tab.get n = some g.cells := Tab.get_of (by rw [Grps.tab_nm]; exact nd) (List.mem_map.mpr ⟨_, m, rfl⟩)
theorem StmR.pool_ok {s : StmR} (h : s.ok) : s.pool.ok := ⟨h.c1, h.c2, .inr rfl, fun e => absurd (show ("read" : Str) = "come" from e) (by decide +kernel), h.tk, h.l6⟩
theorem rd_law_pool (h : sp_law_pool K C vs H Q E) : t_law_pool K (EndsOf Q) (start ["", "", ""] vs) H := by
  obtain ⟨v, A, n, rfl, pt, ok, hn, k⟩ := h
  obtain ⟨nd1, nd2, nd3⟩ := ok.nds
  obtain ⟨d, kvs, vp, vh, vk, vss, rfl, hd, ep, eh, ek, es, rp, th, tk, ts⟩ := pt
  have gp : DGet H d (.str "pipe") (some vp) := .inl ⟨kvs, .inr "pipe", hd.rd, rfl, ep.symm⟩
  have gh : DGet H d (.str "houses") (some vh) := .inl ⟨kvs, .inr "houses", hd.rd, rfl, eh.symm⟩
  have gk : DGet H d (.str "kinds") (some vk) := .inl ⟨kvs, .inr "kinds", hd.rd, rfl, ek.symm⟩
  have gs : DGet H d (.str "streams") (some vss) := .inl ⟨kvs, .inr "streams", hd.rd, rfl, es.symm⟩
  refine ⟨_, rfl, .inl ⟨rfl, _, rfl, ?_⟩⟩
  by_cases e : n = "pipe"
  · subst e
    exact iteT' (decide_eq_true rfl) ⟨_, rfl, d, _, rfl, gp, k _ A.p H (Same.refl _) ok.pi (by unfold Parts.ptab; simp) rp⟩
  refine iteF' (decide_eq_false fun z => e (V.str.inj z)) ?_
  have hn : n ∈ A.hs.nm ++ A.ks.nm ++ A.ss.nm := (List.mem_cons.mp hn).resolve_left e
  obtain ⟨ds, rfl, s1, s2⟩ := ts.dget
  by_cases ms : n ∈ A.ss.nm
  · obtain ⟨g, hm⟩ := Stms.mem ms
    have hg : A.ss.tab.get n = some g.cells := Tab.get_of (by rw [Stms.tab_nm]; exact nd3) (List.mem_map.mpr ⟨_, hm, rfl⟩)
    obtain ⟨w, dg, row⟩ := s1 n _ hg
    obtain ⟨a8, r8, rfl, s8, lf⟩ := StmR.at row
    refine ⟨_, rfl, _, rfl, d, _, rfl, gs, ds, _, rfl, dg, ?_⟩
    refine ⟨true, rfl, iteT' rfl ?_⟩
    refine ⟨_, rfl, d, _, rfl, gs, _, rfl, ds, _, rfl, dg, _, rfl, .inr ⟨a8, _, rfl, s8, fun w => ?_, fun q fq => ?_⟩⟩
    · have w2 : HT.sIx 6 6 (some ((2 : Nat) : Int)) = 6 := w.2
      rw [HT.sIx_nat] at w2
      exact absurd w2 (by decide)
    have e2 : cutV [V.int g.c, r8, oI g.mo, oV g.h, oV g.k, oV g.g] none (some ((2 : Nat) : Int)) = [V.int g.c, r8] := cutV_to _ 2
    rw [show (some (2 : Int)) = some ((2 : Nat) : Int) from rfl, e2]
    have j1 := same_new (o := .tup [V.int g.c, r8]) fq
    have u1 : (upd H q (.tup [V.int g.c, r8])) q = some (.tup [V.int g.c, r8]) := upd_same
    generalize upd H q (.tup [V.int g.c, r8]) = H1 at j1 u1 ⊢
    refine ⟨two_fit.1, fun q2 f2 => ?_⟩
    have j2 := same_new (o := .tup [V.str "read"]) f2
    have u2 : (upd H1 q2 (.tup [V.str "read"])) q2 = some (.tup [V.str "read"]) := upd_same
    generalize upd H1 q2 (.tup [V.str "read"]) = H2 at j2 u2 ⊢
    refine cat_tups (j2 _ _ u1) u2 (fun z => nomatch z) (fun z => nomatch z) (by show 3 ≤ 1000; decide) fun q3 f3 => ?_
    have j3 := same_new (o := .tup ([V.int g.c, r8] ++ [V.str "read"])) f3
    have jA := (j1.trans j2).trans j3
    refine k (.ref q3) g.pool _ jA (StmR.pool_ok (ok.ss _ hm).2.1) ?_ (PoolR.mk_at (SqT.of upd_same) (lf.kee (P := P0) (Kee.same jA)))
    unfold Parts.ptab
    refine List.mem_append_right _ ?_
    exact List.mem_map.mpr ⟨(n, g), hm, rfl⟩
  refine ⟨_, rfl, _, rfl, d, _, rfl, gs, ds, _, rfl, s2 n (Tab.get_none.mpr (by rw [Stms.tab_nm]; exact ms)), ?_⟩
  refine ⟨false, rfl, iteF' rfl ?_⟩
  have grp : ∀ {GG : Grps} {vg : V} {word : Str}, TabAt true false K C P0 H GG.tab vg → GG.nm.Nodup → n ∈ GG.nm → DGet H d (.str word) (some vg) → (∀ g, (n, g) ∈ GG → g.p.ok ∧ (n, g.p.cells) ∈ A.ptab) →
      tRet (tSl (rSlU K) (tDGet (tDGet (tVar 0) (tVar 2)) (tVar 1)) tNoPart (tPart (tC (.int 3)))) (EndsOf Q) [some (.ref d), some (.str n), some (.str word)] H := by
    intro GG vg word tg ndg mg dg hp
    obtain ⟨g, hm⟩ := Grps.mem mg
    obtain ⟨da, rfl, g1, _⟩ := tg.dget
    obtain ⟨w, dg2, row⟩ := g1 n _ (Grps.get_g ndg hm)
    obtain ⟨a8, r8, rfl, s8, lf⟩ := GrpR.at row
    refine ⟨_, rfl, _, rfl, d, _, rfl, dg, _, rfl, da, _, rfl, dg2, _, rfl, three_cut s8 (fun z => nomatch z) fun q fq => ?_⟩
    have j1 := same_new (o := .tup [V.int g.p.c, r8, .str g.p.m]) fq
    exact k (.ref q) g.p _ j1 (hp g hm).1 (hp g hm).2 (PoolR.mk_at (SqT.of upd_same) (lf.kee (P := P0) (Kee.same j1)))
  obtain ⟨dh, rfl, h1, h2⟩ := id th.dget
  by_cases mh : n ∈ A.hs.nm
  · obtain ⟨g, hm⟩ := Grps.mem mh
    obtain ⟨w, dg, _⟩ := h1 n _ (Grps.get_g nd1 hm)
    refine ⟨_, rfl, _, rfl, d, _, rfl, gh, dh, _, rfl, dg, true, rfl, iteT' rfl ?_⟩
    exact grp th nd1 mh gh fun g hg => ⟨(ok.hs.nm _ hg).2, by
      unfold Parts.ptab
      exact List.mem_append_left _ (List.mem_append_left _ (List.mem_append_right _ (List.mem_map.mpr ⟨(n, g), hg, rfl⟩)))⟩
  · have mk : n ∈ A.ks.nm := by
      rcases List.mem_append.mp hn with h | h
      · exact (List.mem_append.mp h).resolve_left mh
      · exact absurd h ms
    refine ⟨_, rfl, _, rfl, d, _, rfl, gh, dh, _, rfl, h2 n (Tab.get_none.mpr (by rw [Grps.tab_nm]; exact mh)), false, rfl, iteF' rfl ?_⟩
    exact grp tk nd2 mk gk fun g hg => ⟨(ok.ks.nm _ hg).2, by
      unfold Parts.ptab
      exact List.mem_append_left _ (List.mem_append_right _ (List.mem_map.mpr ⟨(n, g), hg, rfl⟩))⟩
end
end Pk
set_option Elab.async false
set_option linter.all false
set_option maxRecDepth 100000
set_option maxHeartbeats 2000000
namespace Pk
open PySem PySem.Spec L2 PyProof.Rows PkC
section
variable {K : PySem.W.Frag} {C : Cs} {P P' : Addr → Prop} {vs : List V} {H H' F G : Hp} {Q : VK} {E : XK} {ex t : Bool} {v x : V} {a p : Addr} {A B : Parts} {n : Str}
theorem passLA {X : Cx} (σ : L2.St) : PassesAt (CX X.prog X.w) X σ E0 := fun pins H s e s' I c => passL pins σ H s e s' I c
theorem ps_lockN {X : Cx} {st : Stmt} {t : TE} {i : Nat} (h : PS X st (tAsg t (gName i))) : PS X st (tAsg (tLockE t) (gName i)) := ps_lock h
/-! ### what a plan answers, or what it refuses -/
def sp_law_told (K : PySem.W.Frag) (C : Cs) : Sp := fun vs H Q _ => ∃ o way x B, vs = [o, .int way, x] ∧ PlanAt true K C P0 H o B ∧ FxUn K C ∧
  ((∃ n, way = 0 ∧ x = .str n ∧ n ∈ B.ss.nm ∧ ∀ p L H', H p = none → Same H H' → B.Over n L → H' p = some (.lst (L.map V.str)) → L.length ≤ 300 → Q (.ref p) H') ∨
   (∃ n, way = 1 ∧ x = .str n ∧ n ∈ B.nm ∧ ∀ p (L : Str → List Str) H', H p = none → Same H H' → (∀ s ∈ B.ss.nm, B.Over s (L s)) → H' p = some (.lst ((B.ss.nm.filter fun s => decide (n ∈ L s)).map V.str)) → Q (.ref p) H') ∨
   (0 ≤ way ∧ way ≤ 4 ∧ NotNm K H x B.ss.nm ∧ (way = 1 ∨ way = 4 → NotNm K H x B.nm) ∧ ∀ p H', H p = none → Same H H' → H' p = some (.tup [.str "unknown", x]) → Q (.ref p) H'))
def t_law_told (K : PySem.W.Frag) (C : Cs) : TS :=
  (tTryAs K (.ref C.PipeError) 3 (fun W => (tSeq (tIfS (tTest (tOp (rEqU K) (tVar 1) (tC (.int 0)))) (tRet (tMethO C.Plan "over" (sp_Plan_overX K C) (WE W) (tVar 0) (tCons (tVar 2) tNil))) tNext)
    (tSeq (tIfS (tTest (tOp (rEqU K) (tVar 1) (tC (.int 1)))) (tRet (tMethO C.Plan "under" (sp_Plan_underX K C) (WE W) (tVar 0) (tCons (tVar 2) tNil))) tNext)
    (tSeq (tIfS (tTest (tOp (rEqU K) (tVar 1) (tC (.int 2)))) (tRet (tMethO C.Plan "most" (sp_Plan_mostX K C) (WE W) (tVar 0) (tCons (tVar 2) tNil))) tNext)
    (tSeq (tIfS (tTest (tOp (rEqU K) (tVar 1) (tC (.int 3)))) (tRet (tMethO C.Plan "guide" (sp_Plan_guideX K C) (WE W) (tVar 0) (tCons (tVar 2) tNil))) tNext)
    (tRet (tIxO C.Plan (sp_Plan___getitem__X K C) (WE W) (tVar 0) (tVar 2)))))))) (fun a cls d => (tRet (tIf (tB (tCB (rIsD K C.Unknown a cls d) (tCons (tVar 3) (tCons (tC (.ref C.Unknown)) tNil)))) (tTup (tCons (tC (.str "unknown")) (tCons (tXf a cls d C.Unknown "name" (tVar 3)) tNil))) (tTup (tCons (tC (.str "other")) (tCons (tC .non) tNil)))))))
theorem ln_law_told (h : sp_law_told K C vs H Q E) : vs.length = 3 := by obtain ⟨_, _, _, _, rfl, _⟩ := h; rfl
theorem rd_law_told (h : sp_law_told K C vs H Q E) : t_law_told K C (EndsOf Q) (start ["", "", "", ""] vs) H := by
  obtain ⟨o, way, x, B, rfl, pl, fu, cs⟩ := h
  obtain ⟨a, dx, vp, vh, vk, vss, vo, rfl, h0, fx⟩ := pl.ins
  rcases cs with ⟨n, rfl, rfl, hn, k⟩ | ⟨n, rfl, rfl, hn, k⟩ | ⟨w0, w4, ns, nb, k⟩
  · refine ⟨_, rfl, .inl ⟨rfl, _, rfl, iteT' (decide_eq_true rfl) ?_⟩⟩
    exact ⟨_, rfl, a, dx, _, rfl, h0, pl_no, _, rfl, _, _, B, P0, rfl, pl.rd, fu, .inl ⟨n, rfl, hn, k⟩⟩
  · refine ⟨_, rfl, .inl ⟨rfl, _, rfl, iteF' (decide_eq_false fun z => nomatch z) ?_⟩⟩
    refine ⟨_, rfl, .inl ⟨rfl, _, rfl, iteT' (decide_eq_true rfl) ?_⟩⟩
    exact ⟨_, rfl, a, dx, _, rfl, h0, pl_no, _, rfl, _, _, B, P0, rfl, pl, fu, .inl ⟨n, rfl, hn, k⟩⟩
  · have out : LetsU C x H (WE (wAs K (.ref C.PipeError) 3 (fun a cls d => (tRet (tIf (tB (tCB (rIsD K C.Unknown a cls d) (tCons (tVar 3) (tCons (tC (.ref C.Unknown)) tNil)))) (tTup (tCons (tC (.str "unknown")) (tCons (tXf a cls d C.Unknown "name" (tVar 3)) tNil))) (tTup (tCons (tC (.str "other")) (tCons (tC .non) tNil))))))
          (fun _ _ _ _ => False) (EndsOf Q)) [some (.ref a), some (.int way), some x, none]) := by
      intro d G hd s hxd
      refine ⟨true, fu.em, fun _ ea hea => ?_, fun z => nomatch z⟩
      refine ⟨_, rfl, ⟨_, _, true, d, _, rfl, rfl, rfl, hxd, fun u r => r, kit_same, true, rfl, iteT' rfl ?_⟩⟩
      refine ⟨_, rfl, rfl, rfl, d, _, x, rfl, hxd, rfl, two_fit.2.1, fun p hp => ?_⟩
      exact k p _ (s.free hp) (s.trans (same_new hp)) upd_same
    rcases (by omega : way = 0 ∨ way = 1 ∨ way = 2 ∨ way = 3 ∨ way = 4) with rfl | rfl | rfl | rfl | rfl
    · refine ⟨_, rfl, .inl ⟨rfl, _, rfl, iteT' (decide_eq_true rfl) ?_⟩⟩
      exact ⟨_, rfl, a, dx, _, rfl, h0, pl_no, _, rfl, _, _, B, P0, rfl, pl.rd, fu, .inr ⟨ns, out⟩⟩
    · refine ⟨_, rfl, .inl ⟨rfl, _, rfl, iteF' (decide_eq_false fun z => nomatch z) ?_⟩⟩
      refine ⟨_, rfl, .inl ⟨rfl, _, rfl, iteT' (decide_eq_true rfl) ?_⟩⟩
      exact ⟨_, rfl, a, dx, _, rfl, h0, pl_no, _, rfl, _, _, B, P0, rfl, pl, fu, .inr ⟨nb (.inl rfl), out⟩⟩
    · refine ⟨_, rfl, .inl ⟨rfl, _, rfl, iteF' (decide_eq_false fun z => nomatch z) ?_⟩⟩
      refine ⟨_, rfl, .inl ⟨rfl, _, rfl, iteF' (decide_eq_false fun z => nomatch z) ?_⟩⟩
      refine ⟨_, rfl, .inl ⟨rfl, _, rfl, iteT' (decide_eq_true rfl) ?_⟩⟩
      exact ⟨_, rfl, a, dx, _, rfl, h0, pl_no, _, rfl, _, _, B, P0, rfl, pl.rd, fu, .inr ⟨ns, out⟩⟩
    · refine ⟨_, rfl, .inl ⟨rfl, _, rfl, iteF' (decide_eq_false fun z => nomatch z) ?_⟩⟩
      refine ⟨_, rfl, .inl ⟨rfl, _, rfl, iteF' (decide_eq_false fun z => nomatch z) ?_⟩⟩
      refine ⟨_, rfl, .inl ⟨rfl, _, rfl, iteF' (decide_eq_false fun z => nomatch z) ?_⟩⟩
      refine ⟨_, rfl, .inl ⟨rfl, _, rfl, iteT' (decide_eq_true rfl) ?_⟩⟩
      exact ⟨_, rfl, a, dx, _, rfl, h0, pl_no, _, rfl, _, _, B, P0, rfl, pl.rd, fu, .inr ⟨ns, out⟩⟩
    · refine ⟨_, rfl, .inl ⟨rfl, _, rfl, iteF' (decide_eq_false fun z => nomatch z) ?_⟩⟩
      refine ⟨_, rfl, .inl ⟨rfl, _, rfl, iteF' (decide_eq_false fun z => nomatch z) ?_⟩⟩
      refine ⟨_, rfl, .inl ⟨rfl, _, rfl, iteF' (decide_eq_false fun z => nomatch z) ?_⟩⟩
      refine ⟨_, rfl, .inl ⟨rfl, _, rfl, iteF' (decide_eq_false fun z => nomatch z) ?_⟩⟩
      exact ⟨_, rfl, _, rfl, a, dx, _, rfl, h0, _, _, B, P0, rfl, pl.rd, fu, .inr ⟨nb (.inr rfl), out⟩⟩
/-! ### the pool that a plan answers -/
def sp_Plan___getitem__ (K : PySem.W.Frag) (C : Cs) : Sp := fun vs H Q _ => ∃ o B n cs, vs = [o, .str n] ∧ PlanAt true K C P0 H o B ∧ FxUn K C ∧ (n, cs) ∈ B.ptab ∧ ∀ w H', Same H H' → RowAt true K C H' cs w → Q w H'
theorem weak_Plan___getitem__ (h : sp_Plan___getitem__ K C vs H Q E) : sp_Plan___getitem__X K C vs H Q E := by
  obtain ⟨o, B, n, cs, rfl, pl, fu, m, k⟩ := h
  exact ⟨o, _, B, P0, rfl, pl.rd, fu, .inl ⟨n, cs, rfl, m, k⟩⟩
theorem Parts.of.ptab (o : B.of A) : B.ptab.Perm A.ptab := by
  unfold Parts.ptab
  rw [o.p]
  exact (((List.Perm.refl _).append (o.hs.map _)).append (o.ks.map _)).append (o.ss.map _)
theorem Parts.ptab_mem {cs : List Cell} (h : (n, cs) ∈ A.ptab) : n ∈ A.nm := by
  show n ∈ ("pipe" : Str) :: (A.hs.nm ++ A.ks.nm ++ A.ss.nm)
  rw [← A.ptab_nm]
  exact List.mem_map.mpr ⟨_, h, rfl⟩
theorem gt_nm (h : isNm n = true) : GoodTo 0 88 (.str n) := ⟨nm_lay h, by simp [PyData.depth], rfl, by
  have := isNm_len h
  show 10 * n.length + 8 ≤ 88
  omega⟩
theorem come_nm : isNm "come" = true ∧ isNm "read" = true := by decide +kernel
def sp_law_pool_right (K : PySem.W.Frag) (C : Cs) : Sp := fun vs H Q _ => ∃ o v A B n, vs = [o, v, .str n] ∧ PlanAt true K C P0 H o B ∧ FxUn K C ∧ B.of A ∧ PtsAt true K C H A v ∧ A.ok ∧ n ∈ A.nm ∧ ∀ H', Same H H' → Q (.bl true) H'
def t_law_pool_right (K : PySem.W.Frag) (C : Cs) : TS :=
  (tSeq (tAsg (tCall (sp_law_pool K C) [] E0 (tCons (tVar 1) (tCons (tVar 2) tNil))) (gTup K 3 (gCons (gName 3) (gCons (gName 4) (gCons (gName 5) gNil)))))
    (tSeq (tAsg (tIxO C.Plan (sp_Plan___getitem__ K C) (fun _ => E0) (tVar 0) (tVar 2)) (gName 6))
    (tSeq (tIfS (tOr (tNot (tB (tCB (rIsi K) (tCons (tVar 6) (tCons (tC (.ty "tuple")) tNil))))) (tOr (tTest (tOp (rNeU K) (tCB (rLenU K) (tCons (tVar 6) tNil)) (tC (.int 3)))) (tNot (tB (tCB (rIsi K) (tCons (tOp (rIx K) (tVar 6) (tC (.int 1))) (tCons (tC (.ref C.Rule)) tNil))))))) (tRet (tC (.bl false))) tNext)
    (tRet (tAndV (tCall (sp_law_alike K) [] E0 (tCons (tLst (tCons (tOp (rIx K) (tVar 6) (tC (.int 0))) (tCons (tMeth C.Rule "tree" (sp_Rule_tree K C) [] E0 (tOp (rIx K) (tVar 6) (tC (.int 1))) tNil) (tCons (tOp (rIx K) (tVar 6) (tC (.int 2))) tNil)))) (tCons (tLst (tCons (tVar 3) (tCons (tVar 4) (tCons (tVar 5) tNil)))) tNil))) (tOp (rInOwn C.Plan (sp_Plan___contains__ K C) E0) (tVar 2) (tVar 0)))))))
theorem ln_law_pool_right (h : sp_law_pool_right K C vs H Q E) : vs.length = 3 := by obtain ⟨_, _, _, _, _, rfl, _⟩ := h; rfl
theorem rd_law_pool_right (h : sp_law_pool_right K C vs H Q E) : t_law_pool_right K C (EndsOf Q) (start ["", "", "", "", "", "", ""] vs) H := by
  obtain ⟨o, v, A, B, n, rfl, pl, fu, of, pt, ok, hn, k⟩ := h
  obtain ⟨a, dx, vp, vh, vk, vss, vo, rfl, h0, fx⟩ := pl.ins
  refine ⟨_, rfl, _, rfl, v, A, n, rfl, pt, ok, hn, fun w p H1 s1 pok mp row => ?_⟩
  obtain ⟨aw, r, rfl, sw, lf⟩ := PoolR.at row
  have lf : LeafR false K C H1 r p.T := lf
  refine ⟨aw, _, rfl, sw, rfl, _, _, rfl, _, _, rfl, _, _, rfl, rfl, ?_⟩
  refine ⟨_, rfl, _, rfl, a, dx, _, rfl, s1 _ _ h0, .ref a, B, n, p.cells, rfl, pl.same s1, fu, of.ptab.mem_iff.mpr mp, fun w2 H2 s2 row2 => ?_⟩
  obtain ⟨a2, r2, rfl, sw2, lf2⟩ := PoolR.at row2
  have ru : RuleAt K C H2 r2 p.T := lf2
  obtain ⟨t, ty, kt⟩ := ru.isR
  refine ⟨_, rfl, _, _, _, _, true, rfl, .ty _, sqt_ty sw2, kit_tt, true, rfl, ?_⟩
  refine iteF' rfl ?_
  refine ⟨_, rfl, .inl ⟨_, 3, rfl, .inr ⟨_, sw2, rfl⟩, .inl ⟨rfl, _, rfl, ?_⟩⟩⟩
  refine iteF' (by decide) ?_
  refine ⟨_, rfl, .inr (.inl ⟨a2, _, 1, r2, rfl, rfl, sw2, atI_nat (j := 1) rfl, _, _, _, _, true, rfl, .own _, ty, kt, true, rfl, ?_⟩)⟩
  refine iteF' rfl ?_
  have hT1 : TrAt K H2 r p.T := lf.1.mono (Tups.same s2)
  obtain ⟨ar, dr, u, rfl, har, hTr, okr, l6, fr⟩ := id ru
  refine ⟨_, rfl, .inr (.inl ⟨a2, _, 0, .int p.c, rfl, rfl, sw2, atI_nat (j := 0) rfl, ?_⟩)⟩
  refine ⟨_, rfl, .inr (.inl ⟨a2, _, 1, .ref ar, rfl, rfl, sw2, atI_nat (j := 1) rfl, ar, dr, _, rfl, har, lk_tree (by decide +kernel), .ref ar, p.T, rfl, ru, fun u2 hu2 => ?_⟩)⟩
  refine ⟨_, rfl, .inr (.inl ⟨a2, _, 2, .str p.m, rfl, rfl, sw2, atI_nat (j := 2) rfl, two_fit.2.2.1, fun q1 f1 => ?_⟩)⟩
  have j1 := same_new (o := .lst [V.int p.c, u2, .str p.m]) f1
  have e1 : (upd H2 q1 (.lst [V.int p.c, u2, .str p.m])) q1 = some (.lst [V.int p.c, u2, .str p.m]) := upd_same
  generalize upd H2 q1 (.lst [V.int p.c, u2, .str p.m]) = H3 at j1 e1 ⊢
  refine ⟨_, rfl, _, rfl, _, rfl, two_fit.2.2.1, fun q2 f2 => ?_⟩
  have j2 := same_new (o := .lst [V.int p.c, r, .str p.m]) f2
  have e2 : (upd H3 q2 (.lst [V.int p.c, r, .str p.m])) q2 = some (.lst [V.int p.c, r, .str p.m]) := upd_same
  generalize upd H3 q2 (.lst [V.int p.c, r, .str p.m]) = H4 at j2 e2 ⊢
  have jA := j1.trans j2
  have gm : GoodTo 0 88 (.str p.m) := by exact pok.mo.elim (fun e => by rw [e]; exact gt_nm come_nm.1) (fun e => by rw [e]; exact gt_nm come_nm.2)
  have gd : Good (.list [.int p.c, p.T.pd, .str p.m]) := by
    have c1 := pok.c1
    have c2 := pok.c2
    refine (gt_list (at_cons (gt_int (n := p.c) (by omega)) (at_cons (gt_tree pok.tk) (at_cons gm at_nil)))).good ?_ ?_
    · omega
    · omega
  refine ⟨.ref q1, .ref q2, _, rfl, .lst (SqL.of (j2 _ _ e1)) (.cons (.int _) (.cons (hu2.mono (Tups.same jA)).dp (.cons (.str _) .nil))), .lst (SqL.of e2) (.cons (.int _) (.cons (hT1.mono (Tups.same jA)).dp (.cons (.str _) .nil))), gd, true, rfl, iteT' rfl ?_⟩
  have sA := (s1.trans s2).trans jA
  refine ⟨_, rfl, _, rfl, a, dx, _, rfl, sA _ _ h0, .ref a, .str n, B, P0, rfl, (pl.same sA).rd, .inl ⟨n, rfl, ?_, fun H5 s5 => ⟨true, rfl, k H5 (sA.trans s5)⟩⟩⟩
  exact Parts.ptab_mem (of.ptab.mem_iff.mpr mp)
end
end Pk
set_option Elab.async false
set_option linter.all false
set_option maxRecDepth 100000
set_option maxHeartbeats 2000000
namespace Pk
open PySem PySem.Spec L2 PyProof.Rows PkC
/-! ### parts with six groups, each in the one before -/
theorem one_less {x : Str} : ∀ {l : List Str}, l.Nodup → l.length ≤ (l.filter fun y => decide (y ≠ x)).length + 1
  | [], _ => Nat.zero_le _
  | y :: l, nd => by
    obtain ⟨n1, n2⟩ := List.nodup_cons.mp nd
    rw [List.filter_cons]
    by_cases h : y = x
    · subst h
      have e : l.filter (fun z => decide (z ≠ y)) = l := List.filter_eq_self.mpr fun z hz => decide_eq_true fun e => n1 (e ▸ hz)
      rw [e, if_neg (by simp), List.length_cons]
      exact Nat.le_refl _
    · rw [if_pos (decide_eq_true h), List.length_cons, List.length_cons]
      have := one_less (x := x) n2
      omega
theorem most_left : ∀ (u : List Str) {l : List Str}, l.Nodup → l.length ≤ (l.filter fun y => decide (y ∉ u)).length + u.length
  | [], l, _ => by
    have e : l.filter (fun y => decide (y ∉ ([] : List Str))) = l := List.filter_eq_self.mpr fun z _ => decide_eq_true fun h => nomatch h
    rw [e]
    exact Nat.le_add_right _ _
  | x :: u, l, nd => by
    have h1 := most_left u nd
    have h2 := one_less (x := x) (nd.sublist (List.filter_sublist (p := fun y => decide (y ∉ u)) (l := l)))
    have e : (l.filter fun y => decide (y ∉ u)).filter (fun y => decide (y ≠ x)) = l.filter fun y => decide (y ∉ x :: u) := by
      rw [List.filter_filter]
      refine List.filter_congr fun y _ => ?_
      by_cases c1 : y = x
      · simp [c1]
      · by_cases c2 : y ∈ u
        · simp [c1, c2]
        · simp [c1, c2]
    rw [e] at h2
    rw [List.length_cons]
    omega
def fresh13 : List Str := [97, 98, 99, 100, 101, 102, 103, 104, 105, 106, 107, 108, 109].map fun c => S [c, 113]
theorem fresh13_ok : fresh13.Nodup ∧ fresh13.length = 13 ∧ ∀ n ∈ fresh13, isNm n = true := by decide +kernel
/-- six of them that no list of seven has -/
theorem six_fresh {u : List Str} (h : u.length ≤ 7) : ((fresh13.filter fun y => decide (y ∉ u)).take 6).length = 6 ∧ ((fresh13.filter fun y => decide (y ∉ u)).take 6).Nodup ∧ ∀ n ∈ (fresh13.filter fun y => decide (y ∉ u)).take 6, isNm n = true ∧ n ∉ u := by
  obtain ⟨f1, f2, f3⟩ := fresh13_ok
  have h1 := most_left u f1
  rw [f2] at h1
  refine ⟨by rw [List.length_take]; omega, (f1.sublist (List.filter_sublist ..)).sublist (List.take_sublist ..), fun n hn => ?_⟩
  obtain ⟨m1, m2⟩ := List.mem_filter.mp (List.mem_of_mem_take hn)
  exact ⟨f3 n m1, of_decide_eq_true m2⟩
theorem if_notin {b : Bool} {A B : Prop} (h1 : ¬ b = true → A) (h2 : b = true → B) : if (if true = true then !b else b) = true then A else B := by
  cases b
  · exact h1 (by decide)
  · exact h2 rfl
section
variable {K : PySem.W.Frag} {C : Cs} {P P' : Addr → Prop} {vs : List V} {H H' F G : Hp} {Q : VK} {E : XK} {ex t : Bool} {v x : V} {a p : Addr} {A B : Parts} {n : Str}
theorem val_at : ∀ {ks : List (Key × V)} {i : Nat} {k : Key} {v : V}, (ks.map (·.1)).Nodup → ks[i]? = some (k, v) → valV ks k = some v
  | [], i, k, v, _, e => by simp at e
  | kv :: r, i, k, v, nd, e => by
    have nd : kv.1 ∉ r.map (·.1) ∧ (r.map (·.1)).Nodup := List.nodup_cons.mp nd
    cases i with
    | zero =>
      cases e
      exact valV_pos rfl
    | succ i =>
      have e : r[i]? = some (k, v) := e
      rw [valV_neg fun z => nd.1 (z ▸ List.mem_map.mpr ⟨(k, v), List.mem_of_getElem? e, rfl⟩)]
      exact val_at nd.2 e
theorem kd_two {vp vh : V} : putK [((.inr "pipe" : Key), vp)] (.inr "houses") vh = [((.inr "pipe" : Key), vp), (.inr "houses", vh)] := by
  rw [putK_new]
  · rfl
  · intro kv h
    rw [List.mem_singleton.mp h]
    exact word_ne.2.1
theorem kd_three {vp vh vk : V} : putK [((.inr "pipe" : Key), vp), (.inr "houses", vh)] (.inr "kinds") vk = [((.inr "pipe" : Key), vp), (.inr "houses", vh), (.inr "kinds", vk)] := by
  rw [putK_new]
  · rfl
  · intro kv h
    rcases List.mem_cons.mp h with rfl | h
    · exact word_ne.2.2.1
    · rw [List.mem_singleton.mp h]
      exact word_ne.2.2.2.2.2
theorem kd_four {vp vh vk vs : V} : putK [((.inr "pipe" : Key), vp), (.inr "houses", vh), (.inr "kinds", vk)] (.inr "streams") vs = [((.inr "pipe" : Key), vp), (.inr "houses", vh), (.inr "kinds", vk), (.inr "streams", vs)] := by
  rw [putK_new]
  · rfl
  · intro kv h
    rcases List.mem_cons.mp h with rfl | h
    · exact word_ne.1
    rcases List.mem_cons.mp h with rfl | h
    · exact word_ne.2.2.2.1.symm
    · rw [List.mem_singleton.mp h]
      exact word_ne.2.2.2.2.1.symm
theorem kd_get {vp vs vh vk : V} : valV [((.inr "pipe" : Key), vp), (.inr "houses", vh), (.inr "kinds", vk), (.inr "streams", vs)] (.inr "pipe") = some vp ∧ valV [((.inr "pipe" : Key), vp), (.inr "houses", vh), (.inr "kinds", vk), (.inr "streams", vs)] (.inr "houses") = some vh ∧
    valV [((.inr "pipe" : Key), vp), (.inr "houses", vh), (.inr "kinds", vk), (.inr "streams", vs)] (.inr "kinds") = some vk ∧ valV [((.inr "pipe" : Key), vp), (.inr "houses", vh), (.inr "kinds", vk), (.inr "streams", vs)] (.inr "streams") = some vs := by
  obtain ⟨a1, a2, a3, a4, a5, a6⟩ := word_ne
  refine ⟨valV_pos rfl, ?_, ?_, ?_⟩
  · rw [valV_neg a2, valV_pos rfl]
  · rw [valV_neg a3, valV_neg a6, valV_pos rfl]
  · rw [valV_neg a1, valV_neg a4.symm, valV_neg a5.symm, valV_pos rfl]
/-- one group more -/
theorem deep_row {N : Ends} {b l D4 Dg : Addr} {s1 s2 s3 s4 s5 s6 s9 s12 s13 s14 : Option V} {i : Nat} {o : Option Str} {ns : List Str} {Gs : Grps} {kg : List (Key × V)} (B : Bag F b l) (hg : F Dg = some (.dK kg)) (kv : KvAt false K C F Gs.tab kg) (few : Gs.length ≤ 100)
    (h4 : F D4 = some (.lst (ns.map V.str))) (n4 : D4 ≠ b) (ngb : Dg ≠ b) (hn : ns[i]? = some n) (nn : n ∉ Gs.nm)
    (done : ∀ F' (p : PoolR) kg', p.ok → Kp2 b Dg F F' → KeeX K C (fun c => c = Dg) F F' → F' Dg = some (.dK kg') → KvAt false K C F' (Grps.tab (Gs ++ [(n, ⟨p, o⟩)])) kg' → Bag F' b l →
      N.nx [some (.ref b), s1, s2, s3, s4, s5, s6, some (.ref D4), some (.ref Dg), s9, some (.int (0 + (i : Int))), some (oV o), s12, s13, s14] F') (ngl : Dg ≠ l) :
    tAsg (tOp (rAddU K) (tCall (sp_law_draw_pool K C) [] E0 (tCons (tVar 0) (tCons (tC (.int 30)) (tCons (tC (.int 1)) tNil)))) (tTup (tCons (tVar 11) tNil))) (gSub (tVar 8) (tOp (rIx K) (tVar 7) (tVar 10)) rSetD) N
      [some (.ref b), s1, s2, s3, s4, s5, s6, some (.ref D4), some (.ref Dg), s9, some (.int (0 + (i : Int))), some (oV o), s12, s13, s14] F := by
  refine ⟨_, rfl, b, l, 30, 1, rfl, B, by decide, by decide, by decide, by decide, fun w p F3 row pok B3 k3 => ?_⟩
  refine ⟨_, rfl, two_fit.1, fun q1 f1 => ?_⟩
  have j1 := same_new (o := .tup [oV o]) f1
  have u1 : (upd F3 q1 (.tup [oV o])) q1 = some (.tup [oV o]) := upd_same
  have row := row.kee (P := P0) (Kee.same j1)
  have B4 := B3.same j1
  have k4 := k3.trans (Kp.of j1)
  generalize upd F3 q1 (.tup [oV o]) = F4 at j1 u1 row B4 k4 ⊢
  obtain ⟨c, r, rfl, sc3, lf⟩ := PoolR.at row
  refine .inr (.inr (.inr ⟨c, q1, _, _, rfl, rfl, sc3, SqT.of u1, two_fit.2.2.2, fun z => (nomatch z), fun _ z => (nomatch z), fun _ _ q2 f2 => ?_⟩))
  have j2 := same_new (o := .tup ([V.int p.c, r, .str p.m] ++ [oV o])) f2
  have k5 := k4.trans (Kp.of j2)
  have hz5 := k5 _ _ hg ngb
  have lq := kv.length
  rw [Grps.len] at lq
  refine ⟨_, rfl, _, rfl, _, rfl, .inl ⟨D4, _, _, .str n, rfl, rfl, SqL.of (k5 _ _ h4 n4), names_at (p := D4) hn, Dg, _, rfl, .inl ⟨kg, .inr n, hz5, rfl, small1000 (by omega), rfl⟩, ?_⟩⟩
  have wx : KeeX K C (fun a => a = Dg) (upd F4 q2 (.tup ([V.int p.c, r, .str p.m] ++ [oV o]))) (upd (upd F4 q2 (.tup ([V.int p.c, r, .str p.m] ++ [oV o]))) Dg (.dK (putK kg (.inr n) (.ref q2)))) := KeeX.dict kp_put hz5 rfl
  have et : Grps.tab (Gs ++ [(n, ⟨p, o⟩)]) = Gs.tab ++ [(n, GrpR.cells ⟨p, o⟩)] := Grps.tab_app Gs _
  refine done _ p _ pok ((Kp2.of k5).trans Kp2.put) ((KeeX.bag B k5).trans wx) upd_same ?_ ((B4.same j2).put ngb.symm ngl.symm)
  rw [et]
  exact ((kv.kee (P := P0) (KeeX.bag B k5).toKee).put (GrpR.mk_at (g := ⟨p, o⟩) (SqT.of upd_same) (lf.kee (P := P0) (Kee.same j2))) (by rw [Grps.tab_nm]; exact nn)).kee wx.toKee
def sp_law_deep_parts (K : PySem.W.Frag) (C : Cs) : Sp := fun vs H Q _ => ∃ b l v A, vs = [.ref b, v] ∧ Bag H b l ∧ PtsAt true K C H A v ∧ A.ok ∧ ∀ v' A' H', PtsAt true K C H' A' v' → A'.ok → Bag H' b l → Kp b H H' → Q v' H'
def t_law_deep_parts (K : PySem.W.Frag) (C : Cs) : TS :=
  (tSeq (tAsg (tTup (tCons (tOp (rAddU K) (tLst (tCons (tC (.str "pipe")) tNil)) (tCB rKeysL (tCons (tDGet (tVar 1) (tC (.str "streams"))) tNil))) (tCons (tCall (sp_law_take K) [] E0 (tCons (tVar 0) (tCons (tC (.int 2)) tNil))) (tCons (tDisp [((tC (.str "pipe")), (tDGet (tVar 1) (tC (.str "pipe"))))]) tNil)))) (gTup K 3 (gCons (gName 2) (gCons (gName 3) (gCons (gName 4) gNil)))))
    (tSeq (tAsg (tLc (iStr (tC (.str "abcdefghijklm"))) (gName 14) tYes (tOp (rAddU K) (tVar 14) (tC (.str "q"))) [14]) (gName 5))
    (tSeq (tAsg (tSl (rSlU K) (tLc (iList K (tVar 5)) (gName 6) (tTest (tOp (rNotInU K) (tVar 6) (tVar 2))) (tVar 6) [6]) tNoPart (tPart (tC (.int 6)))) (gName 7))
    (tSeq (tPar 8 9 (tCons tDNewK (tCons tDNewK tNil)))
    (tSeq (tFor (iRng1 (tCons (tC (.int 6)) tNil)) (gName 10) (tSeq (tAsg (tIf (tAnd (tTest (tOp (rGtI) (tVar 10) (tC (.int 0)))) (tTest (tOp (rGtI) (tCall (sp_law_take K) [] E0 (tCons (tVar 0) (tCons (tC (.int 5)) tNil))) (tC (.int 0))))) (tOp (rIx K) (tVar 7) (tOp (rSubI) (tVar 10) (tC (.int 1)))) (tC .non)) (gName 11))
    (tAsg (tOp (rAddU K) (tCall (sp_law_draw_pool K C) [] E0 (tCons (tVar 0) (tCons (tC (.int 30)) (tCons (tC (.int 1)) tNil)))) (tTup (tCons (tVar 11) tNil))) (gSub (tVar 8) (tOp (rIx K) (tVar 7) (tVar 10)) rSetD))))
    (tSeq (tLock (tFor (iKeys (tDGet (tVar 1) (tC (.str "streams")))) (gName 6) (tSeq (tAsg (tOp (rIx K) (tVar 7) (tCall (sp_law_take K) [] E0 (tCons (tVar 0) (tCons (tC (.int 6)) tNil)))) (gName 12))
    (tSeq (tAsg (tOp (rIx K) (tLst (tCons (tTup (tCons (tVar 12) (tCons (tC .non) tNil))) (tCons (tTup (tCons (tC .non) (tCons (tVar 12) tNil))) tNil))) (tVar 3)) (gName 13))
    (tAsg (tOp (rAddU K) (tOp (rAddU K) (tSl (rSlU K) (tDGet (tDGet (tVar 1) (tC (.str "streams"))) (tVar 6)) tNoPart (tPart (tC (.int 3)))) (tVar 13)) (tTup (tCons (tC .non) tNil))) (gSub (tVar 9) (tVar 6) rSetD))))))
    (tSeq (tAsg (tTup (tCons (tOp (rIx K) (tLst (tCons (tVar 8) (tCons tDNewK tNil))) (tVar 3)) (tCons (tOp (rIx K) (tLst (tCons tDNewK (tCons (tVar 8) tNil))) (tVar 3)) (tCons (tVar 9) tNil)))) (gTup K 3 (gCons (gSub (tVar 4) (tC (.str "houses")) rSetD) (gCons (gSub (tVar 4) (tC (.str "kinds")) rSetD) (gCons (gSub (tVar 4) (tC (.str "streams")) rSetD) gNil)))))
    (tRet (tVar 4)))))))))
theorem ln_law_deep_parts (h : sp_law_deep_parts K C vs H Q E) : vs.length = 2 := by obtain ⟨_, _, _, _, rfl, _⟩ := h; rfl
theorem rd_law_deep_parts (h : sp_law_deep_parts K C vs H Q E) : t_law_deep_parts K C (EndsOf Q) (start ["", "", "", "", "", "", "", "", "", "", "", "", "", "", ""] vs) H := by
  obtain ⟨b, l, v, A, rfl, B, pt, ok, k⟩ := h
  obtain ⟨nd1, nd2, nd3⟩ := ok.nds
  have s6 := ok.s6
  obtain ⟨d, kvs, vp, vh, vk, vs, rfl, hd, ep, eh, ek, es, rp, _, _, ⟨as, ks, rfl, _, hs, kv⟩⟩ := id pt
  have hd : H d = some (.dK kvs) := hd
  have hs : H as = some (.dK ks) := hs
  have nb : ∀ {c : Addr} {q : List (Key × V)}, H c = some (.dK q) → c ≠ b := fun e => by
    obtain ⟨ys, hb⟩ := B.at
    exact ne_of e hb fun z => nomatch z
  have lss : A.ss.nm.length ≤ 6 := by rw [Stms.nm, List.length_map]; exact s6
  -- what is used, the word, the dict
  refine ⟨two_fit.1, fun p1 f1 => ?_⟩
  have j1 := same_new (o := .lst [V.str "pipe"]) f1
  have e1 : (upd H p1 (.lst [V.str "pipe"])) p1 = some (.lst [V.str "pipe"]) := upd_same
  generalize upd H p1 (.lst [V.str "pipe"]) = H1 at j1 e1 ⊢
  refine ⟨_, rfl, d, _, rfl, .inl ⟨kvs, .inr "streams", .inl (j1 _ _ hd), rfl, es.symm⟩, as, ks, rfl, .inl (j1 _ _ hs), fun p2 f2 => ?_⟩
  rw [kv.keys.2, Stms.tab_nm]
  have j2 := same_new (o := .lst (A.ss.nm.map V.str)) f2
  have e2 : (upd H1 p2 (.lst (A.ss.nm.map V.str))) p2 = some (.lst (A.ss.nm.map V.str)) := upd_same
  generalize upd H1 p2 (.lst (A.ss.nm.map V.str)) = H2 at j2 e2 ⊢
  refine cat_lists (j2 _ _ e1) e2 (by rw [List.length_map]; show 1 + _ ≤ _; omega) fun pu f3 => ?_
  have j3 := same_new (o := .lst ([V.str "pipe"] ++ A.ss.nm.map V.str)) f3
  have e3 : (upd H2 pu (.lst ([V.str "pipe"] ++ A.ss.nm.map V.str))) pu = some (.lst ((("pipe" : Str) :: A.ss.nm).map V.str)) := upd_same
  generalize upd H2 pu (.lst ([V.str "pipe"] ++ A.ss.nm.map V.str)) = H3 at j3 e3 ⊢
  have s3 := (j1.trans j2).trans j3
  have nub : pu ≠ b := B.nb ((j1.trans j2).free f3)
  refine ⟨_, rfl, b, l, 2, rfl, B.same s3, by decide, by decide, fun wd H4 w0 w1 B4 k4 => ?_⟩
  have k4' := (Kp.of (b := b) s3).trans k4
  intro D hD
  have fD := k4'.freeB B4 hD
  have nDb : D ≠ b := B4.nb hD
  have j5 := same_new (o := .dK []) hD
  have dk5 : ∀ {F}, Kp b H F → F d = some (.dK kvs) := fun q => q _ _ hd (nb hd)
  have e5 : (upd H4 D (.dK [])) D = some (.dK []) := upd_same
  have k5 := k4'.laid (o := .dK []) hD
  have B5 := B4.same j5
  have nuD : pu ≠ D := fun z => by rw [← z, k4 _ _ e3 nub] at hD; cases hD
  have u5 := j5 _ _ (k4 _ _ e3 nub)
  generalize upd H4 D (.dK []) = H5 at j5 e5 k5 B5 u5 ⊢
  refine ⟨_, rfl, d, vp, rfl, .inl ⟨kvs, .inr "pipe", .inl (dk5 k5), rfl, ep.symm⟩, e5, [(.inr "pipe", vp)], rfl, by show 1 ≤ 15; decide, ?_⟩
  have k6 : Kp b H (upd H5 D (.dK (mergeK [] [((.inr "pipe" : Key), vp)]))) := k5.other fD
  have e6 : (upd H5 D (.dK (mergeK [] [((.inr "pipe" : Key), vp)]))) D = some (.dK [((.inr "pipe" : Key), vp)]) := upd_same
  have B6 : Bag (upd H5 D (.dK (mergeK [] [((.inr "pipe" : Key), vp)]))) b l := B5.put nDb.symm (B.nl fD).symm
  have u6 : (upd H5 D (.dK (mergeK [] [((.inr "pipe" : Key), vp)]))) pu = some (.lst ((("pipe" : Str) :: A.ss.nm).map V.str)) := by rw [upd_ne nuD]; exact u5
  generalize upd H5 D (.dK (mergeK [] [((.inr "pipe" : Key), vp)])) = H6 at k6 e6 B6 u6 ⊢
  clear u5 B5 k5 e5 j5 hD B4 k4 k4' e1 e2 j1 j2 e3 j3 f1 f2 f3 s3
  refine ⟨two_fit.2.2.1, fun T hT => ⟨T, _, rfl, SqT.of upd_same, rfl, _, _, rfl, _, _, rfl, _, _, rfl, rfl, ?_⟩⟩
  have j7 := same_new (o := .tup [.ref pu, .int wd, .ref D]) hT
  have e7 := j7 _ _ e6
  have u7 := j7 _ _ u6
  have B7 := B6.same j7
  have k7 := k6.trans (Kp.of j7)
  generalize upd H6 T (.tup [.ref pu, .int wd, .ref D]) = H7 at e7 u7 B7 k7 ⊢
  clear e6 u6 B6 k6 j7 hT
  -- fresh names
  refine ⟨("abcdefghijklm" : Str), rfl, fun D2 hD2 => ?_⟩
  refine lc_str (x := ("abcdefghijklm" : Str)) (fun i G => Same H7 G ∧ G D2 = some (.lst (((((("abcdefghijklm" : Str)).cps.toList).take i).map fun c => S [c, 113]).map V.str))) ⟨same_new hD2, upd_same⟩ ?_ ?_
  · rintro i c G hc ⟨s, hz⟩
    refine ⟨rfl, _, rfl, .inr (.inl ⟨_, _, rfl, rfl, Nat.le_of_lt (small1000 (show 2 ≤ 1000 by decide)), ?_⟩)⟩
    have lt : i < 13 := (List.getElem?_eq_some_iff.mp hc).1
    refine ⟨_, hz, small1000 (by rw [List.length_map, List.length_map, List.length_take]; omega), fun c2 o e => by rw [upd_ne (ne_of_none e hD2)]; exact s _ _ e, ?_⟩
    rw [upd_same, List.take_add_one, hc, List.map_append, List.map_append]
    rfl
  rintro G ⟨s8, hz⟩
  have ef : ((("abcdefghijklm" : Str).cps.toList).take (("abcdefghijklm" : Str).cps.toList).length).map (fun c => S [c, 113]) = fresh13 := by decide +kernel
  rw [ef] at hz
  have e8 := s8 _ _ e7
  have u8 := s8 _ _ u7
  have B8 := B7.same s8
  have k8 := k7.trans (Kp.of s8)
  clear e7 u7 B7 k7 s8 ef hD2
  -- six that are free
  refine ⟨_, rfl, D2, rfl, ⟨_, SqL.of hz⟩, fun D3 hD3 => ?_⟩
  refine lc_list (xs := fresh13.map V.str) (fun i F => Same G F ∧ F D3 = some (.lst (((fresh13.take i).filter fun y => decide (y ∉ ("pipe" : Str) :: A.ss.nm)).map V.str))) ⟨same_new hD3, upd_same⟩ (fun i F _ ⟨s, _⟩ => SqL.of (s _ _ hz)) ?_ ?_
  · rintro i x F hx ⟨s, hf⟩
    rw [List.getElem?_map] at hx
    cases hn : fresh13[i]? with
    | none => rw [hn] at hx; cases hx
    | some y =>
      rw [hn] at hx
      cases hx
      have lt : i < 13 := (List.getElem?_eq_some_iff.mp hn).1
      have few : (((fresh13.take i).filter fun y => decide (y ∉ ("pipe" : Str) :: A.ss.nm)).map V.str).length ≤ 13 := by
        rw [List.length_map]
        exact Nat.le_trans (List.length_filter_le ..) (by rw [List.length_take]; omega)
      refine ⟨rfl, _, rfl, _, rfl, .inl ⟨pu, _, rfl, .inl (SqL.of (s _ _ u8)), rfl, flat_strs _, _, rfl, ?_⟩⟩
      refine if_notin (fun c => ?_) (fun c => ?_)
      · rw [inV_strs] at c
        refine ⟨_, rfl, _, hf, small1000 (by omega), fun c2 o e => by rw [upd_ne (ne_of_none e hD3)]; exact s _ _ e, ?_⟩
        have c' : decide (y ∉ ("pipe" : Str) :: A.ss.nm) = true := decide_eq_true (p := y ∉ ("pipe" : Str) :: A.ss.nm) fun m => c (decide_eq_true m)
        rw [upd_same, filter_take hn, if_pos c', List.map_append]
        rfl
      · rw [inV_strs] at c
        refine ⟨s, ?_⟩
        have c' : ¬ decide (y ∉ ("pipe" : Str) :: A.ss.nm) = true := fun z => (of_decide_eq_true (p := y ∉ ("pipe" : Str) :: A.ss.nm) z) (of_decide_eq_true c)
        rw [filter_take hn, if_neg c', List.append_nil]
        exact hf
  rintro F ⟨s9, hf⟩
  rw [List.length_map, List.take_length] at hf
  obtain ⟨n6, nn, nu⟩ := six_fresh (u := ("pipe" : Str) :: A.ss.nm) (by rw [List.length_cons]; omega)
  refine ⟨_, rfl, .inl ⟨D3, _, rfl, SqL.of hf, fun D4 hD4 => ?_⟩⟩
  rw [show (6 : Int) = ((6 : Nat) : Int) from rfl, cutV_to, ← List.map_take]
  generalize (fresh13.filter fun y => decide (y ∉ ("pipe" : Str) :: A.ss.nm)).take 6 = ns at n6 nn nu ⊢
  have j10 := s9.trans (same_new (o := .lst (ns.map V.str)) hD4)
  have z10 : (upd F D4 (.lst (ns.map V.str))) D4 = some (.lst (ns.map V.str)) := upd_same
  have e10 := j10 _ _ e8
  have B10 := B8.same j10
  have k10 := k8.trans (Kp.of j10)
  have n4b : D4 ≠ b := (B8.same s9).nb hD4
  generalize upd F D4 (.lst (ns.map V.str)) = H10 at j10 z10 e10 B10 k10 ⊢
  clear e8 u8 B8 k8 s9 hf hD4 hz hD3 j10
  -- the two dicts
  refine fun Dg hDg => fun Ds hDs => ⟨_, _, rfl, ?_⟩
  have fDg := k10.freeB B10 hDg
  have j11 := same_new (o := .dK []) hDg
  have j12 := same_new (o := .dK []) hDs
  have fDs := (k10.trans (Kp.of j11)).freeB (B10.same j11) hDs
  have nsg : Ds ≠ Dg := fun z => by rw [z, upd_same] at hDs; cases hDs
  have g12 : (upd (upd H10 Dg (.dK [])) Ds (.dK [])) Dg = some (.dK []) := j12 _ _ upd_same
  have d12 : (upd (upd H10 Dg (.dK [])) Ds (.dK [])) Ds = some (.dK []) := upd_same
  have z12 := j12 _ _ (j11 _ _ z10)
  have e12 := j12 _ _ (j11 _ _ e10)
  have B12 := (B10.same j11).same j12
  have k12 := (k10.trans (Kp.of j11)).trans (Kp.of j12)
  have ngD : Dg ≠ D := fun z => by rw [z, e10] at hDg; cases hDg
  have nsD : Ds ≠ D := fun z => by rw [z, j11 _ _ e10] at hDs; cases hDs
  have ngb : Dg ≠ b := B10.nb hDg
  have nsb : Ds ≠ b := (B10.same j11).nb hDs
  generalize upd (upd H10 Dg (.dK [])) Ds (.dK []) = H12 at g12 d12 z12 e12 B12 k12 ⊢
  clear z10 e10 B10 k10 hDg hDs j11 j12
  dsimp only [gName, List.set]
  -- groups
  refine ⟨6, rfl, by decide, by decide, ?_⟩
  refine for_range (lo := 0) (n := 6) (fun i σ' F => ∃ s10 s11, ∃ Gs : Grps, ∃ kg, σ' = [some (.ref b), some (.ref d), some (.ref pu), some (.int wd), some (.ref D), some (.ref D2), none, some (.ref D4), some (.ref Dg), some (.ref Ds), s10, s11, none, none, none] ∧ Kp b H F ∧ Bag F b l ∧
      F Dg = some (.dK kg) ∧ KvAt false K C F Gs.tab kg ∧ Gs.nm = ns.take i ∧ (∀ r ∈ Gs, isNm r.1 = true ∧ r.2.p.ok) ∧ Falls Gs i ∧ F Ds = some (.dK []) ∧ F D4 = some (.lst (ns.map V.str)) ∧ F D = some (.dK [((.inr "pipe" : Key), vp)]))
    ⟨_, _, [], [], rfl, k12, B12, g12, rfl, rfl, fun r z => (nomatch z), ⟨fun _ => 0, fun _ => Nat.le_refl _, fun r z => (nomatch z)⟩, d12, z12, e12⟩ ?_ ?_
  · rintro i σ' F hi ⟨s10, s11, Gs, kg, rfl, kF, BF, hg, kvg, gn, gok, fa, hds, hz4, hDd⟩
    have li : i < ns.length := by omega
    have nmi : ns[i]? = some ns[i] := List.getElem?_eq_getElem li
    have nn' : ns[i] ∉ Gs.nm := by rw [gn]; exact fresh_at nn nmi
    have lg : Gs.nm.length ≤ 6 := by rw [gn, List.length_take]; omega
    have lg2 : Gs.length ≤ 6 := by rwa [Grps.nm, List.length_map] at lg
    have ngl : Dg ≠ l := B.nl fDg
    have fin : ∀ (o : Option Str) (F2 : Hp), (∀ m, o = some m → m ∈ Gs.nm) → Bag F2 b l → Kp b F F2 → ∀ N : Ends, (∀ F' (p : PoolR) kg', p.ok → Kp b H F' → Bag F' b l → F' Dg = some (.dK kg') → KvAt false K C F' (Grps.tab (Gs ++ [(ns[i], ⟨p, o⟩)])) kg' → F' Ds = some (.dK []) → F' D4 = some (.lst (ns.map V.str)) → F' D = some (.dK [((.inr "pipe" : Key), vp)]) →
          N.nx [some (.ref b), some (.ref d), some (.ref pu), some (.int wd), some (.ref D), some (.ref D2), none, some (.ref D4), some (.ref Dg), some (.ref Ds), some (.int (0 + (i : Int))), some (oV o), none, none, none] F') →
        tAsg (tOp (rAddU K) (tCall (sp_law_draw_pool K C) [] E0 (tCons (tVar 0) (tCons (tC (.int 30)) (tCons (tC (.int 1)) tNil)))) (tTup (tCons (tVar 11) tNil))) (gSub (tVar 8) (tOp (rIx K) (tVar 7) (tVar 10)) rSetD) N
          [some (.ref b), some (.ref d), some (.ref pu), some (.int wd), some (.ref D), some (.ref D2), none, some (.ref D4), some (.ref Dg), some (.ref Ds), some (.int (0 + (i : Int))), some (oV o), none, none, none] F2 := by
      intro o F2 ho B2 k2 N nx
      have h4g : D4 ≠ Dg := ne_of hz4 hg fun z => nomatch z
      refine deep_row B2 (k2 _ _ hg ngb) (kvg.kee (P := P0) (KeeX.bag BF k2).toKee) (by omega) (k2 _ _ hz4 n4b) n4b ngb nmi nn' (fun F' p kg' pok kk _ e1 e2 e3 => ?_) ngl
      refine nx F' p kg' pok (fun c u e nc => kk c u ((kF.trans k2) c u e nc) nc (ne_of_none e fDg)) e3 e1 e2 (kk _ _ (k2 _ _ hds nsb) nsb nsg) (kk _ _ (k2 _ _ hz4 n4b) n4b h4g) (kk _ _ (k2 _ _ hDd nDb) nDb ngD.symm)
    have step : ∀ (o : Option Str), (∀ m, o = some m → m ∈ Gs.nm) → ∀ F' (p : PoolR) kg', p.ok → Kp b H F' → Bag F' b l → F' Dg = some (.dK kg') → KvAt false K C F' (Grps.tab (Gs ++ [(ns[i], ⟨p, o⟩)])) kg' → F' Ds = some (.dK []) → F' D4 = some (.lst (ns.map V.str)) → F' D = some (.dK [((.inr "pipe" : Key), vp)]) →
          ∃ s10 s11, ∃ Gs' : Grps, ∃ kg, ([some (.ref b), some (.ref d), some (.ref pu), some (.int wd), some (.ref D), some (.ref D2), none, some (.ref D4), some (.ref Dg), some (.ref Ds), some (.int (0 + (i : Int))), some (oV o), none, none, none] : L2.St) = [some (.ref b), some (.ref d), some (.ref pu), some (.int wd), some (.ref D), some (.ref D2), none, some (.ref D4), some (.ref Dg), some (.ref Ds), s10, s11, none, none, none] ∧ Kp b H F' ∧ Bag F' b l ∧
      F' Dg = some (.dK kg) ∧ KvAt false K C F' Gs'.tab kg ∧ Gs'.nm = ns.take (i + 1) ∧ (∀ r ∈ Gs', isNm r.1 = true ∧ r.2.p.ok) ∧ Falls Gs' (i + 1) ∧ F' Ds = some (.dK []) ∧ F' D4 = some (.lst (ns.map V.str)) ∧ F' D = some (.dK [((.inr "pipe" : Key), vp)]) := by
      intro o ho F' p kg' pok h1 h2 h3 h4 h5 h6 h7
      refine ⟨_, _, Gs ++ [(ns[i], ⟨p, o⟩)], kg', rfl, h1, h2, h3, h4, ?_, fun r hr => ?_, fa.put nn' ho, h5, h6, h7⟩
      · rw [Grps.nm_app, gn, List.take_add_one, nmi]
        rfl
      · rcases List.mem_append.mp hr with hr | hr
        · exact gok r hr
        · obtain rfl := List.mem_singleton.mp hr
          exact ⟨(nu _ (List.getElem_mem li)).1, pok⟩
    have no : ∀ m, (none : Option Str) = some m → m ∈ Gs.nm := fun m z => nomatch z
    refine ⟨_, rfl, _, _, rfl, rfl, _, rfl, ?_⟩
    refine ifD (fun c => ?_) (fun c => iteF' rfl (fin none F no BF Kp.refl _ (step none no)))
    refine ⟨_, rfl, b, l, 5, rfl, BF, by decide, by decide, fun j F2 j0 j1 B2 k2 => ⟨_, _, rfl, rfl, _, rfl, ?_⟩⟩
    refine ifD (fun c2 => ?_) (fun _ => fin none F2 no B2 k2 _ (step none no))
    have c : (0 : Int) < 0 + (i : Int) := c
    obtain ⟨i', rfl⟩ : ∃ i', i = i' + 1 := ⟨i - 1, by omega⟩
    have l' : i' < ns.length := by omega
    have ho : ∀ m, some ns[i'] = some m → m ∈ Gs.nm := fun m z => by
      cases z
      rw [gn]
      exact List.mem_iff_getElem.mpr ⟨i', by rw [List.length_take]; omega, by rw [List.getElem_take]⟩
    have ea : atI (ns.map V.str) (0 + ((i' + 1 : Nat) : Int) - 1) = some (.str ns[i']) := by
      rw [show (0 : Int) + ((i' + 1 : Nat) : Int) - 1 = ((i' : Nat) : Int) by omega]
      exact atI_nat (by rw [List.getElem?_map, List.getElem?_eq_getElem l']; rfl)
    exact ⟨_, rfl, _, rfl, _, _, rfl, rfl, .inl ⟨D4, _, _, .str ns[i'], rfl, rfl, SqL.of (k2 _ _ hz4 n4b), ea, fin (some ns[i']) F2 ho B2 k2 _ (step (some ns[i']) ho)⟩⟩
  · rintro σ' F ⟨s10, s11, Gs, kg, rfl, kF, BF, hg, kvg, gn, gok, fa, hds, hz4, hDd⟩
    rw [List.take_of_length_le (by omega)] at gn
    have hsF := kF _ _ hs (nb hs)
    have hdF := kF _ _ hd (nb hd)
    have nas : as ≠ Ds := ne_of_none hs fDs
    have nds : d ≠ Ds := ne_of_none hd fDs
    have nsl : Ds ≠ l := B.nl fDs
    refine ⟨as, _, hsF, True.intro, fun o => ?_⟩
    have lockK : ∀ {P}, Kee K C P F (upd F as (.frz o (.dK ks))) := fun {P} => Kee.lock hsF
    refine ⟨_, rfl, d, _, rfl, .inl ⟨kvs, .inr "streams", (lockK (P := P0)).rd _ _ (fun z => z) (.inl hdF), rfl, es.symm⟩, as, o, rfl, .inl ⟨ks, upd_same, ?_⟩⟩
    have n4a : D4 ≠ as := ne_of hz4 hsF fun z => nomatch z
    have n4s : D4 ≠ Ds := ne_of hz4 hds fun z => nomatch z
    have lk : ks.length = A.ss.length := by rw [kv.length, Stms.len]
    have fz : (upd F as (.frz o (.dK ks))) as = some (.frz o (.dK ks)) := upd_same
    refine for_it walk_keys (fun r σ' F2 => ∃ s6 s12 s13, ∃ S : Stms, ∃ kss, σ' = [some (.ref b), some (.ref d), some (.ref pu), some (.int wd), some (.ref D), some (.ref D2), s6, some (.ref D4), some (.ref Dg), some (.ref Ds), s10, s11, s12, s13, none] ∧ Kp2 b Ds (upd F as (.frz o (.dK ks))) F2 ∧ Kee K C (fun c => c = Ds) F F2 ∧
        Bag F2 b l ∧ F2 Ds = some (.dK kss) ∧ KvAt false K C F2 S.tab kss ∧ S.nm = A.ss.nm.take r ∧ ∀ x ∈ S, isNm x.1 = true ∧ x.2.ok ∧ x.2.g = none ∧ ((wd = 0 ∧ (∀ m, x.2.h = some m → m ∈ ns) ∧ x.2.k = none) ∨ (wd = 1 ∧ x.2.h = none ∧ ∀ m, x.2.k = some m → m ∈ ns)))
      ⟨_, _, _, [], [], rfl, Kp2.refl, lockK, ?_, ?_, rfl, rfl, fun x z => (nomatch z)⟩ (fun r σ' F2 _ ⟨_, _, _, _, _, _, k2, _⟩ => k2 _ _ fz (nb hs) nas) ?_ ?_
    · exact BF.put (nb hs).symm (fun z => by
        obtain ⟨ys, hb⟩ := BF.at2
        rw [z] at hb
        rw [hsF] at hb
        cases hb)
    · rw [upd_ne nas.symm]
      exact hds
    · rintro r x σ' F3 F2 hr ⟨s6, s12, s13, S, kss, rfl, k2, ke, B2, hz, kvs2, sn, rows⟩ ⟨rfl, key, w, e, rfl⟩
      have kvF2 := (kv.kee (P := P0) (KeeX.bag B kF).toKee).kee ke
      obtain ⟨n, cs, e1, rfl, row⟩ := kvF2.at e
      unfold Stms.tab at e1
      rw [List.getElem?_map] at e1
      obtain ⟨⟨n', g⟩, e3, e4⟩ := Option.map_eq_some_iff.mp e1
      cases e4
      have mg : (n', g) ∈ A.ss := List.mem_of_getElem? e3
      obtain ⟨nmn, gok', _⟩ := ok.ss _ mg
      have hz4' : F2 D4 = some (.lst (ns.map V.str)) := k2 _ _ (by rw [upd_ne n4a]; exact hz4) n4b n4s
      refine ⟨_, rfl, _, rfl, b, l, 6, rfl, B2, by decide, by decide, fun j F4 j0 j1 B4 k4 => ?_⟩
      obtain ⟨jn, rfl⟩ : ∃ jn : Nat, j = (jn : Int) := ⟨j.toNat, by omega⟩
      have ltj : jn < ns.length := by omega
      have ea : atI (ns.map V.str) (jn : Int) = some (.str ns[jn]) := atI_nat (by rw [List.getElem?_map, List.getElem?_eq_getElem ltj]; rfl)
      have mj : ns[jn] ∈ ns := List.getElem_mem ltj
      generalize ns[jn] = m at ea mj
      refine .inl ⟨D4, _, _, .str m, rfl, rfl, SqL.of (k4 _ _ hz4' n4b), ea, ?_⟩
      dsimp only [gName, List.set]
      refine ⟨_, rfl, two_fit.2.1, fun t1 f1 => ?_⟩
      have i1 := same_new (o := .tup [V.str m, .non]) f1
      have v1 : (upd F4 t1 (.tup [V.str m, .non])) t1 = some (.tup [V.str m, .non]) := upd_same
      generalize upd F4 t1 (.tup [V.str m, .non]) = F5 at i1 v1 ⊢
      refine ⟨_, rfl, two_fit.2.1, fun t2 f2 => ?_⟩
      have i2 := same_new (o := .tup [V.non, .str m]) f2
      have v2 : (upd F5 t2 (.tup [V.non, .str m])) t2 = some (.tup [V.non, .str m]) := upd_same
      have v1 := i2 _ _ v1
      generalize upd F5 t2 (.tup [V.non, .str m]) = F6 at i2 v2 v1 ⊢
      refine ⟨two_fit.2.1, fun q fq => ?_⟩
      have i3 := same_new (o := .lst [V.ref t1, .ref t2]) fq
      have u3 : (upd F6 q (.lst [V.ref t1, .ref t2])) q = some (.lst [V.ref t1, .ref t2]) := upd_same
      have v1 := i3 _ _ v1
      have v2 := i3 _ _ v2
      generalize upd F6 q (.lst [V.ref t1, .ref t2]) = F7 at i3 u3 v1 v2 ⊢
      obtain ⟨z, hzz, cz⟩ := pick2 (x := V.ref t1) (y := .ref t2) w0 w1
      obtain ⟨tz, hl, kl, rfl, vz, lc⟩ : ∃ tz, ∃ hl kl : Option Str, z = .ref tz ∧ F7 tz = some (.tup [oV hl, oV kl]) ∧ ((wd = 0 ∧ (∀ x, hl = some x → x ∈ ns) ∧ kl = none) ∨ (wd = 1 ∧ hl = none ∧ ∀ x, kl = some x → x ∈ ns)) := by
        rcases cz with ⟨c, rfl⟩ | ⟨c, rfl⟩
        · exact ⟨t1, some m, none, rfl, v1, .inl ⟨c, fun x e => by cases e; exact mj, rfl⟩⟩
        · exact ⟨t2, none, some m, rfl, v2, .inr ⟨c, rfl, fun x e => by cases e; exact mj⟩⟩
      refine ⟨_, rfl, .inl ⟨q, _, wd, .ref tz, rfl, rfl, SqL.of u3, hzz, ?_⟩⟩
      have k7 : Kp b F2 F7 := k4.trans (Kp.of ((i1.trans i2).trans i3))
      have x7 : ∀ {P}, KeeX K C P F2 F7 := fun {P} => KeeX.bag B2 k7
      obtain ⟨a8, r8, ew, s8, lf⟩ := StmR.at (row.kee (P := P0) x7.toKee)
      dsimp only at ew
      subst ew
      have keA : Kee K C (fun c => c = Ds) F F7 := ke.trans x7.toKee
      have rdd : ∀ {F8}, Same F7 F8 → Rd F8 d (.dK kvs) := fun s => (keA.trans (Kee.same s)).rd _ _ nds (.inl hdF)
      have rda : ∀ {F8}, Same F7 F8 → Rd F8 as (.dK ks) := fun s => (keA.trans (Kee.same s)).rd _ _ nas (.inl hsF)
      have ew2 : valV ks (.inr n') = some (.ref a8) := by
        have hg : A.ss.tab.get n' = some g.cells := Tab.get_of (by rw [Stms.tab_nm]; exact nd3) (List.mem_map.mpr ⟨_, mg, rfl⟩)
        have ndk : (ks.map (·.1)).Nodup := by
          rw [kv.keys.1, Stms.tab_nm]
          exact List.pairwise_map.mpr (nd3.imp fun h z => h (Sum.inr.inj z))
        exact val_at ndk e
      refine ⟨_, rfl, d, _, rfl, .inl ⟨kvs, .inr "streams", rdd (Same.refl _), rfl, es.symm⟩, _, rfl, as, _, rfl, .inl ⟨ks, .inr n', rda (Same.refl _), rfl, ew2.symm⟩, _, rfl, three_cut s8 (fun z => nomatch z) fun y1 fy1 => ?_⟩
      have i4 := same_new (o := .tup [V.int g.c, r8, oI g.mo]) fy1
      have v4 : (upd F7 y1 (.tup [V.int g.c, r8, oI g.mo])) y1 = some (.tup [V.int g.c, r8, oI g.mo]) := upd_same
      generalize upd F7 y1 (.tup [V.int g.c, r8, oI g.mo]) = F8 at i4 v4 ⊢
      refine ⟨_, rfl, cat_tups v4 (i4 _ _ vz) (fun z => nomatch z) (fun z => nomatch z) (by show 5 ≤ 1000; decide) fun y2 fy2 => ?_⟩
      have i5 := same_new (o := .tup ([V.int g.c, r8, oI g.mo] ++ [oV hl, oV kl])) fy2
      have v5 : (upd F8 y2 (.tup ([V.int g.c, r8, oI g.mo] ++ [oV hl, oV kl]))) y2 = some (.tup ([V.int g.c, r8, oI g.mo] ++ [oV hl, oV kl])) := upd_same
      generalize upd F8 y2 (.tup ([V.int g.c, r8, oI g.mo] ++ [oV hl, oV kl])) = F9 at i5 v5 ⊢
      refine ⟨two_fit.1, fun y3 fy3 => ?_⟩
      have i6 := same_new (o := .tup [V.non]) fy3
      have v6 : (upd F9 y3 (.tup [V.non])) y3 = some (.tup [V.non]) := upd_same
      generalize upd F9 y3 (.tup [V.non]) = F10 at i6 v6 ⊢
      refine cat_tups (i6 _ _ v5) v6 (fun z => nomatch z) (fun z => nomatch z) (by show 6 ≤ 1000; decide) fun y4 fy4 => ?_
      have i7 := same_new (o := .tup (([V.int g.c, r8, oI g.mo] ++ [oV hl, oV kl]) ++ [V.non])) fy4
      have iA := ((i4.trans i5).trans i6).trans i7
      have v7 : (upd F10 y4 (.tup (([V.int g.c, r8, oI g.mo] ++ [oV hl, oV kl]) ++ [V.non]))) y4 = some (.tup [V.int g.c, r8, oI g.mo, oV hl, oV kl, oV none]) := upd_same
      generalize upd F10 y4 (.tup (([V.int g.c, r8, oI g.mo] ++ [oV hl, oV kl]) ++ [V.non])) = F11 at i7 iA v7 ⊢
      have k11 : Kp b F2 F11 := k7.trans (Kp.of iA)
      have x11 : ∀ {P}, KeeX K C P F2 F11 := fun {P} => x7.trans (KeeX.same iA)
      have hz11 := k11 _ _ hz nsb
      have lS : S.length ≤ 6 := by
        have e := congrArg List.length sn
        rw [Stms.nm, List.length_map, List.length_take] at e
        omega
      have lq := kvs2.length
      rw [Stms.len] at lq
      have nnS : n' ∉ S.nm := by
        rw [sn]
        exact fresh_at nd3 (by rw [Stms.nm, List.getElem?_map, e3]; rfl)
      refine ⟨_, rfl, _, rfl, Ds, _, rfl, .inl ⟨kss, .inr n', hz11, rfl, small1000 (by omega), rfl⟩, ?_⟩
      have wx : KeeX K C (fun c => c = Ds) F11 (upd F11 Ds (.dK (putK kss (.inr n') (.ref y4)))) := KeeX.dict kp_put hz11 rfl
      have et : Stms.tab (S ++ [(n', ⟨g.c, g.T, g.mo, hl, kl, none⟩)]) = S.tab ++ [(n', StmR.cells ⟨g.c, g.T, g.mo, hl, kl, none⟩)] := Stms.tab_app S _
      have B11 : Bag F11 b l := (B4.same ((i1.trans i2).trans i3)).same iA
      refine ⟨_, _, _, S ++ [(n', ⟨g.c, g.T, g.mo, hl, kl, none⟩)], putK kss (.inr n') (.ref y4), rfl, (k2.trans (Kp2.of k11)).trans Kp2.put, (ke.trans x11.toKee).trans wx.toKee, B11.put nsb.symm nsl.symm, upd_same, ?_, ?_, ?_⟩
      · rw [et]
        exact ((kvs2.kee (P := P0) x11.toKee).put (StmR.mk_at (g := ⟨g.c, g.T, g.mo, hl, kl, none⟩) (SqT.of v7) (lf.kee (P := P0) (Kee.same iA))) (by rw [Stms.tab_nm]; exact nnS)).kee wx.toKee
      · have enm : A.ss.nm[r]? = some n' := by rw [Stms.nm, List.getElem?_map, e3]; rfl
        rw [Stms.nm_app, sn, List.take_add_one, enm]
        rfl
      · intro x hx
        rcases List.mem_append.mp hx with hx | hx
        · exact rows x hx
        · obtain rfl := List.mem_singleton.mp hx
          exact ⟨nmn, ⟨gok'.c1, gok'.c2, gok'.mo, gok'.nr, gok'.tk, gok'.l6⟩, rfl, lc⟩
    · rintro σ' F2 ⟨s6, s12, s13, S, kss, rfl, k2, ke, B2, hz, kvs2, sn, rows⟩
      have fa2 := k2 _ _ fz (nb hs) nas
      refine ⟨fa2, ?_⟩
      rw [lk, List.take_of_length_le (by rw [Stms.nm, List.length_map]; exact Nat.le_refl _)] at sn
      have old : ∀ {c : Addr} {u : HO}, F c = some u → c ≠ b → c ≠ Ds → (upd F2 as (.dK ks)) c = some u := by
        intro c u e n1 n2
        by_cases h : c = as
        · subst h
          rw [hsF] at e
          cases e
          exact upd_same
        · rw [upd_ne h]
          exact k2 _ _ (by rw [upd_ne h]; exact e) n1 n2
      have ul : Kee K C (fun _ => True) F2 (upd F2 as (.dK ks)) := Kee.unlock fa2
      have kU : Kp b H (upd F2 as (.dK ks)) := fun c u e nc => old (kF _ _ e nc) nc (ne_of_none e fDs)
      have hgU := old hg ngb nsg.symm
      have kvgU := (kvg.kee ke).kee ul
      have hzU : (upd F2 as (.dK ks)) Ds = some (.dK kss) := by rw [upd_ne nas.symm]; exact hz
      have kvsU := kvs2.kee ul
      have hDU := old hDd nDb nsD.symm
      have rpU := ((rp.kee (P := P0) (KeeX.bag B kF).toKee).kee ke).kee ul
      have BU : Bag (upd F2 as (.dK ks)) b l := B2.put (nb hs).symm (fun z => by
        obtain ⟨ys, hb⟩ := B.at2
        rw [z, hs] at hb
        cases hb)
      generalize upd F2 as (.dK ks) = F3 at kU hgU kvgU hzU kvsU hDU rpU BU ⊢
      clear old ul fa2 k2 ke B2 hz kvs2 fz lockK
      refine ⟨_, rfl, fun E1 fE1 => ?_⟩
      have i1 := same_new (o := .dK []) fE1
      have v1 : (upd F3 E1 (.dK [])) E1 = some (.dK []) := upd_same
      generalize upd F3 E1 (.dK []) = F4 at i1 v1 ⊢
      refine ⟨two_fit.2.1, fun q1 fq1 => ?_⟩
      have i2 := same_new (o := .lst [V.ref Dg, .ref E1]) fq1
      have u2 : (upd F4 q1 (.lst [V.ref Dg, .ref E1])) q1 = some (.lst [V.ref Dg, .ref E1]) := upd_same
      generalize upd F4 q1 (.lst [V.ref Dg, .ref E1]) = F5 at i2 u2 ⊢
      obtain ⟨x1, hx1, cx1⟩ := pick2 (x := V.ref Dg) (y := .ref E1) w0 w1
      refine ⟨_, rfl, .inl ⟨q1, _, wd, x1, rfl, rfl, SqL.of u2, hx1, ?_⟩⟩
      intro E2 fE2
      have i3 := same_new (o := .dK []) fE2
      have v3 : (upd F5 E2 (.dK [])) E2 = some (.dK []) := upd_same
      generalize upd F5 E2 (.dK []) = F6 at i3 v3 ⊢
      refine ⟨_, rfl, two_fit.2.1, fun q2 fq2 => ?_⟩
      have i4 := same_new (o := .lst [V.ref E2, .ref Dg]) fq2
      have u4 : (upd F6 q2 (.lst [V.ref E2, .ref Dg])) q2 = some (.lst [V.ref E2, .ref Dg]) := upd_same
      generalize upd F6 q2 (.lst [V.ref E2, .ref Dg]) = F7 at i4 u4 ⊢
      obtain ⟨x2, hx2, cx2⟩ := pick2 (x := V.ref E2) (y := .ref Dg) w0 w1
      refine ⟨_, rfl, .inl ⟨q2, _, wd, x2, rfl, rfl, SqL.of u4, hx2, ?_⟩⟩
      refine ⟨_, rfl, two_fit.2.2.1, fun Tt fT => ?_⟩
      have i5 := same_new (o := .tup [x1, x2, .ref Ds]) fT
      have v5 : (upd F7 Tt (.tup [x1, x2, .ref Ds])) Tt = some (.tup [x1, x2, .ref Ds]) := upd_same
      have s8 : Same F3 (upd F7 Tt (.tup [x1, x2, .ref Ds])) := (((i1.trans i2).trans i3).trans i4).trans i5
      have w1' : (upd F7 Tt (.tup [x1, x2, .ref Ds])) E1 = some (.dK []) := (((i2.trans i3).trans i4).trans i5) _ _ v1
      have w2' : (upd F7 Tt (.tup [x1, x2, .ref Ds])) E2 = some (.dK []) := (i4.trans i5) _ _ v3
      have nE1 : E1 ≠ D := (ne_of_none hDU fE1).symm
      have nE2 : E2 ≠ D := (ne_of_none ((i1.trans i2) _ _ hDU) fE2).symm
      refine ⟨Tt, _, rfl, SqT.of v5, rfl, ?_⟩
      generalize upd F7 Tt (.tup [x1, x2, .ref Ds]) = F8 at s8 w1' w2' v5 ⊢
      have hD8 := s8 _ _ hDU
      refine ⟨_, _, rfl, _, rfl, D, _, rfl, .inl ⟨_, .inr "houses", hD8, rfl, small1000 (show 1 ≤ 1000 by decide), rfl⟩, ?_⟩
      rw [kd_two]
      refine ⟨_, _, rfl, _, rfl, D, _, rfl, .inl ⟨_, .inr "kinds", upd_same, rfl, small1000 (show 2 ≤ 1000 by decide), rfl⟩, ?_⟩
      rw [kd_three, upd_upd]
      refine ⟨_, _, rfl, _, rfl, D, _, rfl, .inl ⟨_, .inr "streams", upd_same, rfl, small1000 (show 3 ≤ 1000 by decide), rfl⟩, rfl, ?_⟩
      rw [kd_four, upd_upd]
      obtain ⟨g1, g2, g3, g4⟩ := kd_get (vp := vp) (vs := .ref Ds) (vh := x1) (vk := x2)
      generalize [((.inr "pipe" : Key), vp), (.inr "houses", x1), (.inr "kinds", x2), (.inr "streams", .ref Ds)] = kf at g1 g2 g3 g4 ⊢
      have wx : Kee K C (fun _ => True) F8 (upd F8 D (.dK kf)) := (KeeX.dict kp_put hD8 trivial).toKee
      have rp9 := (rpU.kee (P := P0) (Kee.same s8)).kee wx
      have hg9 : (upd F8 D (.dK kf)) Dg = some (.dK kg) := by rw [upd_ne ngD]; exact s8 _ _ hgU
      have kg9 := (kvgU.kee (P := P0) (Kee.same s8)).kee wx
      have hs9 : (upd F8 D (.dK kf)) Ds = some (.dK kss) := by rw [upd_ne nsD]; exact s8 _ _ hzU
      have ks9 := (kvsU.kee (P := P0) (Kee.same s8)).kee wx
      have h19 : (upd F8 D (.dK kf)) E1 = some (.dK []) := by rw [upd_ne nE1]; exact w1'
      have h29 : (upd F8 D (.dK kf)) E2 = some (.dK []) := by rw [upd_ne nE2]; exact w2'
      have hD9 : (upd F8 D (.dK kf)) D = some (.dK kf) := upd_same
      have B9 : Bag (upd F8 D (.dK kf)) b l := (BU.same s8).put nDb.symm (B.nl fD).symm
      have k9 : Kp b H (upd F8 D (.dK kf)) := (kU.trans (Kp.of s8)).other fD
      generalize upd F8 D (.dK kf) = F9 at rp9 hg9 kg9 hs9 ks9 h19 h29 hD9 B9 k9 ⊢
      obtain ⟨hf, hb6, hq⟩ := fa
      have okG : Grps.ok Gs := ⟨gok, hf, fun n => by have := hb6 n; omega, hq⟩
      have ok0 : Grps.ok [] := ⟨fun r z => (nomatch z), fun _ => 0, fun _ => Nat.zero_le _, fun r z => (nomatch z)⟩
      have lG : Gs.length = 6 := by
        have e := congrArg List.length gn
        rwa [Grps.nm, List.length_map, n6] at e
      have lS : S.length = A.ss.length := by
        have e := congrArg List.length sn
        rwa [Stms.nm, List.length_map, Stms.nm, List.length_map] at e
      have s1 := ok.s1
      have ndp : ("pipe" : Str) ∉ A.ss.nm ∧ A.ss.nm.Nodup := by
        have q := ok.nd
        obtain ⟨q1, q2⟩ := List.nodup_cons.mp q
        exact ⟨fun m => q1 (List.mem_append_right _ m), nd3⟩
      have ndA : (("pipe" : Str) :: (ns ++ A.ss.nm)).Nodup := by
        refine List.nodup_cons.mpr ⟨fun m => ?_, List.nodup_append.mpr ⟨nn, ndp.2, fun x hx y hy e => ?_⟩⟩
        · rcases List.mem_append.mp m with m | m
          · exact (nu _ m).2 (List.mem_cons_self ..)
          · exact ndp.1 m
        · subst e
          exact (nu x hx).2 (List.mem_cons_of_mem _ hy)
      have t0 : ∀ {E : Addr}, F9 E = some (.dK []) → TabAt true false K C P0 F9 (Grps.tab []) (.ref E) := fun h => ⟨_, [], rfl, fun z => z, h, rfl⟩
      have tG : TabAt true false K C P0 F9 (Grps.tab Gs) (.ref Dg) := ⟨Dg, kg, rfl, fun z => z, hg9, kg9⟩
      have tS : TabAt true false K C P0 F9 (Stms.tab S) (.ref Ds) := ⟨Ds, kss, rfl, fun z => z, hs9, ks9⟩
      refine ⟨_, rfl, ?_⟩
      rcases cx1 with ⟨c1, rfl⟩ | ⟨c1, rfl⟩
      · rcases cx2 with ⟨_, rfl⟩ | ⟨c2, _⟩
        · refine k (.ref D) ⟨A.p, Gs, [], S⟩ F9 ⟨D, kf, vp, _, _, _, rfl, hD9, g1, g2, g3, g4, rp9, tG, t0 h29, tS⟩ ⟨ok.pi, okG, ok0, ?_, ?_, ?_, ?_, fun r hr => ?_⟩ B9 k9
          · show (("pipe" : Str) :: (Gs.nm ++ [] ++ S.nm)).Nodup
            rw [gn, sn, List.append_nil]
            exact ndA
          · show Gs.length + 0 ≤ 6
            omega
          · show 1 ≤ S.length
            omega
          · show S.length ≤ 6
            omega
          · obtain ⟨q1, q2, q3, ⟨_, q4, q5⟩ | ⟨z, _⟩⟩ := rows r hr
            · refine ⟨q1, q2, fun n e => ?_, fun n e => (by rw [q5] at e; cases e), fun n e => (by rw [q3] at e; cases e)⟩
              show n ∈ Gs.nm
              rw [gn]
              exact q4 n e
            · exact absurd z (by omega)
        · exact absurd c2 (by omega)
      · rcases cx2 with ⟨c2, _⟩ | ⟨_, rfl⟩
        · exact absurd c2 (by omega)
        · refine k (.ref D) ⟨A.p, [], Gs, S⟩ F9 ⟨D, kf, vp, _, _, _, rfl, hD9, g1, g2, g3, g4, rp9, t0 h19, tG, tS⟩ ⟨ok.pi, ok0, okG, ?_, ?_, ?_, ?_, fun r hr => ?_⟩ B9 k9
          · show (("pipe" : Str) :: ([] ++ Gs.nm ++ S.nm)).Nodup
            rw [gn, sn, List.nil_append]
            exact ndA
          · show 0 + Gs.length ≤ 6
            omega
          · show 1 ≤ S.length
            omega
          · show S.length ≤ 6
            omega
          · obtain ⟨q1, q2, q3, ⟨z, _⟩ | ⟨_, q4, q5⟩⟩ := rows r hr
            · exact absurd z (by omega)
            · refine ⟨q1, q2, fun n e => (by rw [q4] at e; cases e), fun n e => ?_, fun n e => (by rw [q3] at e; cases e)⟩
              show n ∈ Gs.nm
              rw [gn]
              exact q5 n e
end
end Pk
set_option Elab.async false
set_option linter.all false
set_option maxRecDepth 100000
set_option maxHeartbeats 2000000
namespace Pk
open PySem PySem.Spec L2 PyProof.Rows PkC
/-! ### a text and a thing, told apart from the same -/
def rNe0 (K : PySem.W.Frag) : R2 := fun x y H Q => ∃ a b d z, x = .ref a ∧ y = .ref b ∧ H a = some (.tup [.str z, .ref d]) ∧ H b = some (.tup [.str z, .ref d]) ∧ Q (.bl false) H
def rNeT (K : PySem.W.Frag) : R2 := fun x y H Q => rNeU K x y H Q ∨ rNe0 K x y H Q
section
variable {X : Cx} {pins : List (Addr × Obj)} {σ : L2.St} {H : Hp} {s : Shared}
theorem op_ne0 (hu : X.A.units + 64 < cLine) : OpR X (compareOp .NotEq) (rNe0 X.K) := by
  intro pins s σ H x y u v Q I rx ry h
  obtain ⟨a, b, d, z, rfl, rfl, h1, h2, q⟩ := h
  cases rx
  cases ry
  obtain ⟨i1, r1, p1, z1⟩ := I.tuple (SqT.of h1)
  obtain ⟨i2, r2, p2, z2⟩ := I.tuple (SqT.of h2)
  have sh : ∀ {its : List Value}, Vals [V.str z, .ref d] its → ∃ t, its = [.str z t, .ref d] := by
    intro its r
    cases r with
    | cons a1 a2 =>
      cases a2 with
      | cons a3 a4 =>
        cases a4
        obtain ⟨t, rfl⟩ := a1
        cases a3
        exact ⟨t, rfl⟩
  obtain ⟨t1, rfl⟩ := sh r1
  obtain ⟨t2, rfl⟩ := sh r2
  refine PySem.W.cmp_ofNotEq (SeqAt.RcNeAt.tuples (e := fun _ => true) p1 p2 (by omega) (fun j l1 l2 => ?_) _ _ _ _ ?_)
  · match j, l1, l2 with
    | 0, _, _ =>
      have q := SeqAt.EqAt.str_str (A := X.A.in1) (s := s) z t1 z t2
      rwa [beq_self_eq_true] at q
    | 1, _, _ => exact SeqAt.EqAt.same _
  · exact ⟨.bl false, H, I, rfl, q⟩
end
section
variable {K : PySem.W.Frag} {C : Cs} {vs : List V} {H H' F G : Hp} {Q : VK} {E : XK} {v x : V} {a p : Addr} {A B : Parts} {n : Str} {σ : L2.St}
/-! ### what is refused, as data -/
theorem unk_nm : isNm "unknown" = true := by decide +kernel
theorem unk_all : ∀ {ps : List Addr}, (∀ p ∈ ps, G p = some (.tup [.str "unknown", .str n])) → DpAll K G (ps.map V.ref) (List.replicate ps.length (.tuple [.str "unknown", .str n]))
  | [], _ => .nil
  | p :: r, h => by
    rw [List.length_cons, List.replicate_succ]
    exact .cons (.tup (SqT.of (h p (List.mem_cons_self ..))) (.cons (.str _) (.cons (.str _) .nil))) (unk_all fun q hq => h q (List.mem_cons_of_mem _ hq))
theorem sh_unk (h : isNm n = true) (m : Nat) : (PyData.list (List.replicate m (.tuple [.str "unknown", .str n]))).canLay0 = true ∧ SeqAt.shaped (.list (List.replicate m (.tuple [.str "unknown", .str n]))) = true := by
  have t1 : (PyData.tuple [.str "unknown", .str n]).canLay0 = true := by
    simp only [PyData.canLay0, PyData.canLayAll0]
    have q1 := nm_lay unk_nm
    have q2 := nm_lay h
    simp only [PyData.canLay0] at q1 q2
    rw [q1, q2]
    rfl
  have h1 : PyData.canLayAll0 (List.replicate m (.tuple [.str "unknown", .str n])) = true := by
    induction m with
    | zero => rfl
    | succ m ih => rw [List.replicate_succ]; simp only [PyData.canLayAll0, ih, t1, Bool.and_self]
  have h2 : PyData.depthAll (List.replicate m (.tuple [.str "unknown", .str n])) ≤ 1 := by
    clear h1
    induction m with
    | zero => simp [PyData.depthAll]
    | succ m ih =>
      rw [List.replicate_succ]
      simp only [PyData.depthAll, PyData.depth]
      omega
  have l0 : (PyData.list (List.replicate m (.tuple [.str "unknown", .str n]))).canLay0 = true := by simp only [PyData.canLay0]; exact h1
  refine ⟨l0, shaped_iff.mpr ⟨l0, ?_⟩⟩
  simp only [PyData.depth]
  omega
/-- a list of refusals is no other than another -/
theorem ne_unk {D1 D2 : Addr} {ps qs : List Addr} (h : isNm n = true) (d1 : H D1 = some (.lst (ps.map V.ref))) (d2 : H D2 = some (.lst (qs.map V.ref))) (a1 : ∀ p ∈ ps, H p = some (.tup [.str "unknown", .str n])) (a2 : ∀ p ∈ qs, H p = some (.tup [.str "unknown", .str n]))
    (e : ps.length = qs.length) (k : Q (.bl false) H) : rNeU K (.ref D1) (.ref D2) H Q := by
  obtain ⟨l0, sh⟩ := sh_unk h qs.length
  refine .inr ⟨_, _, .lst (SqL.of d1) (unk_all a1), .lst (SqL.of d2) (unk_all a2), by rw [e]; exact sh, sh, ?_⟩
  rw [e, SeqAt.eqv_refl _ l0]
  exact k
/-! lists of names, alike -/
theorem good_names {ns : List Str} (h : ∀ n ∈ ns, isNm n = true) (few : ns.length ≤ 1000) : Good (.list (ns.map PyData.str)) := by
  have al : AllTo 0 (92 * ns.length) (ns.map PyData.str) := by
    clear few
    induction ns with
    | nil => exact at_nil
    | cons n r ih =>
      have q := at_cons (gt_nm (h n (List.mem_cons_self ..))) (ih fun m hm => h m (List.mem_cons_of_mem _ hm))
      have e : 88 + 4 + 92 * r.length = 92 * (n :: r).length := by rw [List.length_cons]; omega
      rw [← e]
      exact q
  exact (gt_list al).good (by decide) (by omega)
theorem Chain.mem {G : Grps} {o : Option Str} {l : List Str} (c : Chain G o l) : ∀ n ∈ l, n ∈ G.nm := by
  induction c with
  | nil => exact fun n z => nomatch z
  | cons m k ih =>
    intro x hx
    rcases List.mem_cons.mp hx with rfl | hx
    · exact List.mem_map.mpr ⟨_, m, rfl⟩
    · exact ih x hx
theorem Parts.Over.mem {L : List Str} (h : A.Over n L) : ∀ m ∈ L, m ∈ A.nm := by
  obtain ⟨g, l1, l2, m, c1, c2, rfl⟩ := h
  intro x hx
  show x ∈ ("pipe" : Str) :: (A.hs.nm ++ A.ks.nm ++ A.ss.nm)
  rcases List.mem_cons.mp hx with rfl | hx
  · exact List.mem_cons_of_mem _ (List.mem_append_right _ (List.mem_map.mpr ⟨_, m, rfl⟩))
  rcases List.mem_append.mp hx with hx | hx
  · exact List.mem_cons_of_mem _ (List.mem_append_left _ (List.mem_append_left _ (c1.mem x hx)))
  rcases List.mem_append.mp hx with hx | hx
  · exact List.mem_cons_of_mem _ (List.mem_append_left _ (List.mem_append_right _ (c2.mem x hx)))
  · rw [List.mem_singleton.mp hx]
    exact List.mem_cons_self ..
theorem alike_names {p q : Addr} {ns : List Str} (h1 : H p = some (.lst (ns.map V.str))) (h2 : H q = some (.lst (ns.map V.str))) (h : ∀ n ∈ ns, isNm n = true) (few : ns.length ≤ 1000) (k : Q (.bl true) H) : sp_law_alike K [.ref p, .ref q] H Q E :=
  ⟨_, _, _, rfl, .lst (SqL.of h1) (dp_names ns), .lst (SqL.of h2) (dp_names ns), good_names h few, k⟩
/-! ### the law's loops -/
def b1_25 (K : PySem.W.Frag) (C : Cs) : TS :=
  (tSeq (tPar 8 9 (tCons (tCall (sp_law_told K C) [] E0 (tCons (tVar 4) (tCons (tC (.int 1)) (tCons (tVar 7) tNil)))) (tCons (tCall (sp_law_under K C) [] E0 (tCons (tVar 3) (tCons (tVar 7) tNil))) tNil)))
    (tSeq (tIfS (tOr (tNot (tB (tCall (sp_law_alike K) [] E0 (tCons (tVar 8) (tCons (tVar 9) tNil))))) (tNot (tB (tCall (sp_law_pool_right K C) [] E0 (tCons (tVar 4) (tCons (tVar 3) (tCons (tVar 7) tNil))))))) (tRet (tC (.bl false))) tNext)
    (tDrop (tBM K "list" rAppend (tVar 8) (tCons (tC (.str "zz")) tNil)))))
def b2_25 (K : PySem.W.Frag) (C : Cs) : TS :=
  (tSeq (tAsg (tCall (sp_law_told K C) [] E0 (tCons (tVar 4) (tCons (tC (.int 0)) (tCons (tVar 7) tNil)))) (gName 8))
    (tSeq (tIfS (tNot (tB (tCall (sp_law_alike K) [] E0 (tCons (tVar 8) (tCons (tCall (sp_law_over K C) [] E0 (tCons (tVar 3) (tCons (tVar 7) tNil))) tNil))))) (tRet (tC (.bl false))) tNext)
    (tDrop (tBM0 K "list" rReverse (tVar 8)))))
def b3_25 (K : PySem.W.Frag) (C : Cs) : TS :=
  (tSeq (tAsg (tTup (tCons (tC (.str "unknown")) (tCons (tVar 7) tNil))) (gName 9))
    (tIfS (tTest (tOp (rNeU K) (tLc (iTup K (tTup (tCons (tC (.int 0)) (tCons (tC (.int 2)) (tCons (tC (.int 3)) tNil))))) (gName 13) tYes (tCall (sp_law_told K C) [] E0 (tCons (tVar 4) (tCons (tVar 13) (tCons (tVar 7) tNil)))) [13]) (tLst (tCons (tVar 9) (tCons (tVar 9) (tCons (tVar 9) tNil)))))) (tRet (tC (.bl false))) tNext))
def b4_25 (K : PySem.W.Frag) (C : Cs) : TS :=
  (tIfS (tOr (tTest (tOp (rNeU K) (tLc (iRng1 (tCons (tC (.int 5)) tNil)) (gName 13) tYes (tCall (sp_law_told K C) [] E0 (tCons (tVar 4) (tCons (tVar 13) (tCons (tVar 7) tNil)))) [13]) (tOp (rMulU K) (tLst (tCons (tTup (tCons (tC (.str "unknown")) (tCons (tVar 7) tNil))) tNil)) (tC (.int 5))))) (tTest (tOp (rInOwn C.Plan (sp_Plan___contains__ K C) E0) (tVar 7) (tVar 4)))) (tRet (tC (.bl false))) tNext)
def b5_25 (K : PySem.W.Frag) (C : Cs) : TS :=
  (tIfS (tOr (tTest (tOp (rNeT K) (tCall (sp_law_told K C) [] E0 (tCons (tVar 4) (tCons (tC (.int 4)) (tCons (tVar 12) tNil)))) (tTup (tCons (tC (.str "unknown")) (tCons (tVar 12) tNil))))) (tTest (tOp (rInOwn C.Plan (sp_Plan___contains__ K C) E0) (tVar 12) (tVar 4)))) (tRet (tC (.bl false))) tNext)
theorem of_nm (of : B.of A) : B.nm.Perm A.nm := List.Perm.cons _ (((of.hs.map _).append (of.ks.map _)).append (of.ss.map _))
structure Std (K : PySem.W.Frag) (C : Cs) (F : Hp) (o v : V) (A B : Parts) : Prop where
  pl : PlanAt true K C P0 F o B
  fu : FxUn K C
  of : B.of A
  pt : PtsAt true K C F A v
  ok : A.ok
theorem Std.same {o : V} (h : Std K C F o v A B) (s : Same F G) : Std K C G o v A B := ⟨h.pl.same s, h.fu, h.of, h.pt.same s, h.ok⟩
theorem same_put {D : Addr} {u : HO} (s : Same F G) (h : F D = none) : Same F (upd G D u) := fun c w e => by
  rw [upd_ne (ne_of_none e h)]
  exact s _ _ e
section
variable {N : Ends} {o : V} {s0 s1 s2 s5 s6 s8 s9 s10 s11 s12 s13 : Option V}
theorem run_b1 (S : Std K C F o v A B) (hn : n ∈ A.nm) (nx : ∀ s8 s9 F', Same F F' → N.nx [s0, s1, s2, some v, some o, s5, s6, some (.str n), s8, s9, s10, s11, s12, s13] F') : b1_25 K C N [s0, s1, s2, some v, some o, s5, s6, some (.str n), s8, s9, s10, s11, s12, s13] F := by
  refine ⟨_, rfl, _, rfl, o, 1, .str n, B, rfl, S.pl, S.fu, .inr (.inl ⟨n, rfl, rfl, (of_nm S.of).mem_iff.mpr hn, fun p L F1 fp s1 hL e1 => ?_⟩)⟩
  refine ⟨_, rfl, _, rfl, v, A, n, rfl, S.pt.same s1, S.ok, fun q zs L' F2 fq s2 pm so hL' e2 => ⟨_, _, rfl, ?_⟩⟩
  obtain rfl : zs = B.ss.nm := sorted_one so S.of.o3 (pm.trans (S.of.ss.map _).symm)
  have eqf : (B.ss.nm.filter fun s => decide (n ∈ L' s)) = B.ss.nm.filter fun s => decide (n ∈ L s) := by
    refine List.filter_congr fun s hs => ?_
    rw [Parts.Over.one S.ok (hL' s hs) ((hL s hs).of S.of)]
  rw [eqf] at e2
  have nms : ∀ m ∈ B.ss.nm.filter (fun s => decide (n ∈ L s)), isNm m = true := fun m hm => by
    have q := (List.mem_filter.mp hm).1
    obtain ⟨r, hr, rfl⟩ := List.mem_map.mp ((S.of.ss.map (·.1)).mem_iff.mp q)
    exact (S.ok.ss r hr).1
  have l6 : (B.ss.nm.filter fun s => decide (n ∈ L s)).length ≤ 6 := by
    refine Nat.le_trans (List.length_filter_le ..) ?_
    rw [Stms.nm, List.length_map, S.of.ss.length_eq]
    exact S.ok.s6
  generalize (B.ss.nm.filter fun s => decide (n ∈ L s)) = ws at e1 e2 nms l6
  have e1' := s2 _ _ e1
  have s12 := s1.trans s2
  refine ⟨_, rfl, _, rfl, .ref p, .ref q, _, rfl, .lst (SqL.of e1') (dp_names ws), .lst (SqL.of e2) (dp_names ws), good_names nms (by omega), true, rfl, iteF' rfl ?_⟩
  refine ⟨_, rfl, _, rfl, _, rfl, o, v, A, B, n, rfl, S.pl.same s12, S.fu, S.of, S.pt.same s12, S.ok, hn, fun F3 s3 => ⟨true, rfl, iteF' rfl ?_⟩⟩
  have e3 := s3 _ _ e1'
  exact ⟨_, rfl, .inl ⟨rfl, _, SqL.of e3⟩, p, _, _, rfl, rfl, e3, small1000 (by rw [List.length_map]; omega), nx _ _ _ (same_put (s12.trans s3) fp)⟩
theorem run_b2 (S : Std K C F o v A B) (hn : n ∈ A.ss.nm) (nx : ∀ s8 F', Same F F' → N.nx [s0, s1, s2, some v, some o, s5, s6, some (.str n), s8, s9, s10, s11, s12, s13] F') : b2_25 K C N [s0, s1, s2, some v, some o, s5, s6, some (.str n), s8, s9, s10, s11, s12, s13] F := by
  have hB : n ∈ B.ss.nm := (S.of.ss.map (·.1)).mem_iff.mpr hn
  refine ⟨_, rfl, _, rfl, o, 0, .str n, B, rfl, S.pl, S.fu, .inl ⟨n, rfl, rfl, hB, fun p L F1 fp s1 hL e1 len => ?_⟩⟩
  have hA := hL.of S.of
  refine ⟨_, rfl, _, rfl, _, rfl, v, A, n, rfl, (S.pt.same s1).rd, S.ok, hn, fun q L' F2 fq s2 hL' e2 _ => ?_⟩
  obtain rfl : L = L' := hA.one S.ok hL'
  have e1' := s2 _ _ e1
  refine ⟨.ref p, .ref q, _, rfl, .lst (SqL.of e1') (dp_names L), .lst (SqL.of e2) (dp_names L), good_names (fun m hm => S.ok.names m (hA.mem m hm)) (by omega), true, rfl, iteF' rfl ?_⟩
  exact ⟨_, rfl, .inl ⟨rfl, _, SqL.of e1'⟩, p, _, rfl, rfl, e1', nx _ _ (same_put (s1.trans s2) fp)⟩
theorem not_nm {ns : List Str} (nm : isNm n = true) (h : n ∉ ns) : NotNm K H (.str n) ns := .inr ⟨n, rfl, by have := (isNm_len nm).2; omega, h⟩
/-- one refusal more -/
theorem unk_step {D : Addr} {w : Int} {ps : List Addr} {F2 : Hp} {Pv : Hp → Prop} (S : Std K C G o v A B) (nm : isNm n = true) (w0 : 0 ≤ w) (w4 : w ≤ 4) (h1 : n ∉ B.ss.nm) (h2 : w = 1 ∨ w = 4 → n ∉ B.nm) (sG : Same F2 G) (fD : F2 D = none) (lp : ps.length ≤ 10)
    (hz : G D = some (.lst (ps.map V.ref))) (ap : ∀ p ∈ ps, G p = some (.tup [.str "unknown", .str n]))
    (k : ∀ G', (Same F2 G' ∧ ∃ qs : List Addr, qs.length = ps.length + 1 ∧ G' D = some (.lst (qs.map V.ref)) ∧ ∀ p ∈ qs, G' p = some (.tup [.str "unknown", .str n])) → Pv G') :
    sp_law_told K C ([o, .int w, .str n] ++ []) G (fun y H4 => ∃ acc, H4 D = some (.lst acc) ∧ acc.length < sizeLine ∧ Pv (upd H4 D (.lst (acc ++ [y])))) E := by
  refine ⟨o, w, .str n, B, rfl, S.pl, S.fu, .inr (.inr ⟨w0, w4, not_nm nm h1, fun c => not_nm nm (h2 c), fun p G2 fp s2 e => ?_⟩)⟩
  have hz2 := s2 _ _ hz
  refine ⟨_, hz2, small1000 (by rw [List.length_map]; omega), k _ ⟨same_put (sG.trans s2) fD, ps ++ [p], by rw [List.length_append]; rfl, by rw [upd_same, List.map_append]; rfl, fun q hq => ?_⟩⟩
  have nq : ∀ {c : Addr} {xs : List V}, G2 c = some (.tup xs) → c ≠ D := fun h => ne_of h hz2 fun z => nomatch z
  rcases List.mem_append.mp hq with hq | hq
  · have := s2 _ _ (ap q hq)
    rw [upd_ne (nq this)]
    exact this
  · rw [List.mem_singleton.mp hq, upd_ne (nq e)]
    exact e
/-- refusals, one by one -/
theorem run_b3 (S : Std K C F o v A B) (hn : n ∉ B.ss.nm) (nm : isNm n = true) (nx : ∀ s9 F', Same F F' → N.nx [s0, s1, s2, some v, some o, s5, s6, some (.str n), s8, s9, s10, s11, s12, none] F') : b3_25 K C N [s0, s1, s2, some v, some o, s5, s6, some (.str n), s8, s9, s10, s11, s12, none] F := by
  refine ⟨_, rfl, two_fit.2.1, fun pd fd => ?_⟩
  have j1 := same_new (o := .tup [V.str "unknown", .str n]) fd
  have e1 : (upd F pd (.tup [V.str "unknown", .str n])) pd = some (.tup [V.str "unknown", .str n]) := upd_same
  generalize upd F pd (.tup [V.str "unknown", .str n]) = F1 at j1 e1 ⊢
  refine ⟨two_fit.2.2.1, fun T hT => ⟨T, rfl, ⟨_, SqT.of upd_same⟩, fun D hD => ?_⟩⟩
  have j2 := same_new (o := .tup [V.int 0, .int 2, .int 3]) hT
  have e2 : (upd F1 T (.tup [V.int 0, .int 2, .int 3])) T = some (.tup [V.int 0, .int 2, .int 3]) := upd_same
  have e1 := j2 _ _ e1
  generalize upd F1 T (.tup [V.int 0, .int 2, .int 3]) = F2 at j2 e2 e1 hD ⊢
  have s12 := j1.trans j2
  refine lc_tup (xs := [V.int 0, .int 2, .int 3]) (fun i G => Same F2 G ∧ ∃ ps : List Addr, ps.length = i ∧ G D = some (.lst (ps.map V.ref)) ∧ ∀ p ∈ ps, G p = some (.tup [.str "unknown", .str n])) ⟨same_new hD, [], rfl, upd_same, fun p z => nomatch z⟩ (fun i G _ ⟨s, _⟩ => SqT.of (s _ _ e2)) ?_ ?_
  · rintro i x G hx ⟨s, ps, lp, hz, ap⟩
    have lt : i < 3 := (List.getElem?_eq_some_iff.mp hx).1
    obtain ⟨w, rfl, w0, w4, hw⟩ : ∃ w : Int, x = .int w ∧ 0 ≤ w ∧ w ≤ 4 ∧ ¬ (w = 1 ∨ w = 4) := by
      rcases (by omega : i = 0 ∨ i = 1 ∨ i = 2) with rfl | rfl | rfl
      · cases hx; exact ⟨0, rfl, by omega, by omega, by omega⟩
      · cases hx; exact ⟨2, rfl, by omega, by omega, by omega⟩
      · cases hx; exact ⟨3, rfl, by omega, by omega, by omega⟩
    have st := unk_step (E := fun _ _ _ => False) (Pv := fun G' => Same F2 G' ∧ ∃ ps : List Addr, ps.length = i + 1 ∧ G' D = some (.lst (ps.map V.ref)) ∧ ∀ p ∈ ps, G' p = some (.tup [.str "unknown", .str n])) (S.same (s12.trans s)) nm w0 w4 hn (fun c => absurd c hw) s hD (by omega) hz ap (by rw [lp]; exact fun G' q => q)
    exact ⟨rfl, _, rfl, _, rfl, _, rfl, st⟩
  · rintro G ⟨s, ps, lp, hz, ap⟩
    have lp : ps.length = 3 := lp
    have e1' := s _ _ e1
    refine ⟨_, rfl, _, rfl, _, rfl, two_fit.2.2.1, fun q fq => ?_⟩
    have j3 := same_new (o := .lst [V.ref pd, .ref pd, .ref pd]) fq
    refine ne_unk (ps := ps) (qs := [pd, pd, pd]) nm (j3 _ _ hz) upd_same (fun p hp => j3 _ _ (ap p hp)) (fun p hp => ?_) lp ⟨false, rfl, iteF' rfl (nx _ _ ((s12.trans s).trans j3))⟩
    have : p = pd := by simpa using hp
    rw [this]
    exact j3 _ _ e1'
/-- a name that no plan has -/
theorem run_b4 (S : Std K C F o v A B) (hn : n ∉ B.nm) (nm : isNm n = true) (nx : ∀ F', Same F F' → N.nx [s0, s1, s2, some v, some o, s5, s6, some (.str n), s8, s9, s10, s11, s12, none] F') : b4_25 K C N [s0, s1, s2, some v, some o, s5, s6, some (.str n), s8, s9, s10, s11, s12, none] F := by
  have hs : n ∉ B.ss.nm := fun m => hn (List.mem_cons_of_mem _ (List.mem_append_right _ m))
  refine ⟨5, rfl, by decide, by decide, fun D hD => ?_⟩
  refine lc_range (lo := 0) (n := 5) (fun i G => Same F G ∧ ∃ ps : List Addr, ps.length = i ∧ G D = some (.lst (ps.map V.ref)) ∧ ∀ p ∈ ps, G p = some (.tup [.str "unknown", .str n])) ⟨same_new hD, [], rfl, upd_same, fun p z => nomatch z⟩ ?_ ?_
  · rintro i G hi ⟨s, ps, lp, hz, ap⟩
    have st := unk_step (E := fun _ _ _ => False) (w := 0 + (i : Int)) (Pv := fun G' => Same F G' ∧ ∃ ps : List Addr, ps.length = i + 1 ∧ G' D = some (.lst (ps.map V.ref)) ∧ ∀ p ∈ ps, G' p = some (.tup [.str "unknown", .str n])) (S.same s) nm (by omega) (by omega) hs (fun _ => hn) s hD (by omega) hz ap (by rw [lp]; exact fun G' q => q)
    exact ⟨rfl, _, rfl, _, rfl, _, rfl, st⟩
  · rintro G ⟨s, ps, lp, hz, ap⟩
    refine ⟨_, rfl, two_fit.2.1, fun pd fd => ?_⟩
    have j1 := same_new (o := .tup [V.str "unknown", .str n]) fd
    have e1 : (upd G pd (.tup [V.str "unknown", .str n])) pd = some (.tup [V.str "unknown", .str n]) := upd_same
    generalize upd G pd (.tup [V.str "unknown", .str n]) = G1 at j1 e1 ⊢
    refine ⟨two_fit.1, fun q fq => ?_⟩
    have j2 := same_new (o := .lst [V.ref pd]) fq
    have e2 : (upd G1 q (.lst [V.ref pd])) q = some (.lst [V.ref pd]) := upd_same
    have e1 := j2 _ _ e1
    generalize upd G1 q (.lst [V.ref pd]) = G2 at j2 e2 e1 ⊢
    refine .inr (.inr (.inl ⟨q, 5, [.ref pd], rfl, rfl, e2, by decide, by decide, Nat.le_of_lt (small1000 (show 5 ≤ 1000 by decide)), fun r hr => ?_⟩))
    have j3 := same_new (o := .lst ([V.ref pd, .ref pd, .ref pd, .ref pd, .ref pd])) hr
    have sA := (j1.trans j2).trans j3
    have er : (List.replicate (5 : Int).toNat [V.ref pd]).flatten = [pd, pd, pd, pd, pd].map V.ref := rfl
    rw [er]
    refine ne_unk (ps := ps) (qs := [pd, pd, pd, pd, pd]) nm (sA _ _ hz) upd_same (fun p hp => sA _ _ (ap p hp)) (fun p hp => ?_) lp ⟨false, rfl, iteF' rfl ?_⟩
    · have : p = pd := by simpa using hp
      rw [this]
      exact j3 _ _ e1
    · have sB := s.trans sA
      have S2 := S.same sB
      obtain ⟨a, dx, vp, vh, vk, vss, vo, e0, h0, fx⟩ := S2.pl.ins
      subst e0
      refine ⟨_, rfl, _, rfl, a, dx, _, rfl, h0, .ref a, .str n, B, P0, rfl, S2.pl.rd, .inr ⟨not_nm nm hn, fun H5 s5 => ⟨false, rfl, false, rfl, iteF' rfl (nx _ (sB.trans s5))⟩⟩⟩
/-- a thing that is no name -/
theorem run_b5 (S : Std K C F o v A B) (hx : ∀ G, Same F G → NotNm K G x B.nm) (he : ∀ G p q, Same F G → G p = some (.tup [.str "unknown", x]) → G q = some (.tup [.str "unknown", x]) → ∀ R : VK, R (.bl false) G → rNeT K (.ref p) (.ref q) G R)
    (nx : ∀ F', Same F F' → N.nx [s0, s1, s2, some v, some o, s5, s6, s8, s9, s10, s11, s12, some x, s13] F') : b5_25 K C N [s0, s1, s2, some v, some o, s5, s6, s8, s9, s10, s11, s12, some x, s13] F := by
  have hs : NotNm K F x B.ss.nm := by
    rcases hx F (Same.refl F) with h | ⟨z, e, l, m⟩
    · exact .inl h
    · exact .inr ⟨z, e, l, fun q => m (List.mem_cons_of_mem _ (List.mem_append_right _ q))⟩
  refine ⟨_, rfl, _, rfl, o, 4, x, B, rfl, S.pl, S.fu, .inr (.inr ⟨by decide, by decide, hs, fun _ => hx F (Same.refl F), fun p G fp s1 e1 => ?_⟩)⟩
  refine ⟨_, rfl, two_fit.2.1, fun q fq => ?_⟩
  have j1 := same_new (o := .tup [V.str "unknown", x]) fq
  have sB := s1.trans j1
  refine he _ p q sB (j1 _ _ e1) upd_same _ ⟨false, rfl, iteF' rfl ?_⟩
  have S2 := S.same sB
  obtain ⟨a, dx, vp, vh, vk, vss, vo, e0, h0, fx⟩ := S2.pl.ins
  subst e0
  exact ⟨_, rfl, _, rfl, a, dx, _, rfl, h0, .ref a, x, B, P0, rfl, S2.pl.rd, .inr ⟨hx _ sB, fun H5 s5 => ⟨false, rfl, false, rfl, iteF' rfl (nx _ (sB.trans s5))⟩⟩⟩
/-! the whole of a turn -/
def rest_25 (K : PySem.W.Frag) (C : Cs) : TS :=
  (tSeq (tFor (iRng1 (tCons (tC (.int 2)) tNil)) (gName 6) (tSeq (tFor (iList K (tOp (rAddU K) (tVar 5) (tCall (sp_law_shared K C) [] E0 (tCons (tVar 3) tNil)))) (gName 7) (tSeq (tPar 8 9 (tCons (tCall (sp_law_told K C) [] E0 (tCons (tVar 4) (tCons (tC (.int 1)) (tCons (tVar 7) tNil)))) (tCons (tCall (sp_law_under K C) [] E0 (tCons (tVar 3) (tCons (tVar 7) tNil))) tNil)))
    (tSeq (tIfS (tOr (tNot (tB (tCall (sp_law_alike K) [] E0 (tCons (tVar 8) (tCons (tVar 9) tNil))))) (tNot (tB (tCall (sp_law_pool_right K C) [] E0 (tCons (tVar 4) (tCons (tVar 3) (tCons (tVar 7) tNil))))))) (tRet (tC (.bl false))) tNext)
    (tDrop (tBM K "list" rAppend (tVar 8) (tCons (tC (.str "zz")) tNil))))))
    (tSeq (tFor (iList K (tVar 5)) (gName 7) (tSeq (tAsg (tCall (sp_law_told K C) [] E0 (tCons (tVar 4) (tCons (tC (.int 0)) (tCons (tVar 7) tNil)))) (gName 8))
    (tSeq (tIfS (tNot (tB (tCall (sp_law_alike K) [] E0 (tCons (tVar 8) (tCons (tCall (sp_law_over K C) [] E0 (tCons (tVar 3) (tCons (tVar 7) tNil))) tNil))))) (tRet (tC (.bl false))) tNext)
    (tDrop (tBM0 K "list" rReverse (tVar 8))))))
    (tFor (iList K (tCall (sp_law_shared K C) [] E0 (tCons (tVar 3) tNil))) (gName 7) (tSeq (tAsg (tTup (tCons (tC (.str "unknown")) (tCons (tVar 7) tNil))) (gName 9))
    (tIfS (tTest (tOp (rNeU K) (tLc (iTup K (tTup (tCons (tC (.int 0)) (tCons (tC (.int 2)) (tCons (tC (.int 3)) tNil))))) (gName 13) tYes (tCall (sp_law_told K C) [] E0 (tCons (tVar 4) (tCons (tVar 13) (tCons (tVar 7) tNil)))) [13]) (tLst (tCons (tVar 9) (tCons (tVar 9) (tCons (tVar 9) tNil)))))) (tRet (tC (.bl false))) tNext))))))
    (tSeq (tAsg (tOp (rAddU K) (tVar 5) (tCall (sp_law_shared K C) [] E0 (tCons (tVar 3) tNil))) (gName 10))
    (tSeq (tAsg (tLc (iTup K (tTup (tCons (tC (.str "zzzzzzzz")) (tCons (tC (.str "q")) (tCons (tC (.str "pip")) (tCons (tC (.str "pipes")) tNil)))))) (gName 7) (tTest (tOp (rNotInU K) (tVar 7) (tVar 10))) (tVar 7) [7]) (gName 11))
    (tSeq (tFor (iList K (tVar 11)) (gName 7) (tIfS (tOr (tTest (tOp (rNeU K) (tLc (iRng1 (tCons (tC (.int 5)) tNil)) (gName 13) tYes (tCall (sp_law_told K C) [] E0 (tCons (tVar 4) (tCons (tVar 13) (tCons (tVar 7) tNil)))) [13]) (tOp (rMulU K) (tLst (tCons (tTup (tCons (tC (.str "unknown")) (tCons (tVar 7) tNil))) tNil)) (tC (.int 5))))) (tTest (tOp (rInOwn C.Plan (sp_Plan___contains__ K C) E0) (tVar 7) (tVar 4)))) (tRet (tC (.bl false))) tNext))
    (tFor (iTup K (tTup (tCons (tC .non) (tCons (tC (.int 5)) (tCons (tC (.str "")) (tCons (tC (.str "Pipe")) (tCons (tLst (tCons (tC (.str "pipe")) tNil)) (tCons (tTup (tCons (tC (.str "pipe")) tNil)) (tCons (tC (.bl true)) (tCons tDNewK (tCons (tTup (tCons (tLst (tCons (tC (.str "a")) tNil)) tNil)) tNil))))))))))) (gName 12) (tIfS (tOr (tTest (tOp (rNeT K) (tCall (sp_law_told K C) [] E0 (tCons (tVar 4) (tCons (tC (.int 4)) (tCons (tVar 12) tNil)))) (tTup (tCons (tC (.str "unknown")) (tCons (tVar 12) tNil))))) (tTest (tOp (rInOwn C.Plan (sp_Plan___contains__ K C) E0) (tVar 12) (tVar 4)))) (tRet (tC (.bl false))) tNext))))))
theorem shared_in {ys : List Str} (pm : ys.Perm (A.hs.nm ++ A.ks.nm ++ [("pipe" : Str)])) : ∀ n, n ∈ A.ss.nm ++ ys ↔ n ∈ A.nm := by
  intro n
  show _ ↔ n ∈ ("pipe" : Str) :: (A.hs.nm ++ A.ks.nm ++ A.ss.nm)
  simp only [List.mem_append, pm.mem_iff, List.mem_cons, List.mem_singleton, List.not_mem_nil, or_false]
  constructor
  · rintro (h | ((h | h) | h))
    · exact .inr (.inr h)
    · exact .inr (.inl (.inl h))
    · exact .inr (.inl (.inr h))
    · exact .inl h
  · rintro (h | ((h | h) | h))
    · exact .inr (.inr h)
    · exact .inr (.inl (.inl h))
    · exact .inr (.inl (.inr h))
    · exact .inl h
theorem shared_out {ys : List Str} (ok : A.ok) (pm : ys.Perm (A.hs.nm ++ A.ks.nm ++ [("pipe" : Str)])) (h : n ∈ ys) : n ∈ A.nm ∧ n ∉ A.ss.nm := by
  refine ⟨(shared_in pm n).mp (List.mem_append_right _ h), fun m => ?_⟩
  have nd := ok.nd
  obtain ⟨n1, n2⟩ := List.nodup_cons.mp nd
  have h := pm.mem_iff.mp h
  rcases List.mem_append.mp h with h | h
  · exact (List.nodup_append.mp n2).2.2 n h n m rfl
  · rw [List.mem_singleton.mp h] at m
    exact n1 (List.mem_append_right _ m)
def four : List Str := ["zzzzzzzz", "q", "pip", "pipes"]
theorem four_nm : ∀ n ∈ four, isNm n = true := by decide +kernel
theorem run_rest {p5 : Addr} (S : Std K C F o v A B) (h5 : F p5 = some (.lst (A.ss.nm.map V.str)))
    (nx : ∀ s6 s7 s8 s9 s10 s11 s12 F', Same F F' → N.nx [s0, s1, s2, some v, some o, some (.ref p5), s6, s7, s8, s9, s10, s11, s12, none] F') (s7 : Option V) :
    rest_25 K C N [s0, s1, s2, some v, some o, some (.ref p5), s6, s7, s8, s9, s10, s11, s12, none] F := by
  have lss : A.ss.nm.length ≤ 6 := by rw [Stms.nm, List.length_map]; exact S.ok.s6
  have lys : ∀ {ys : List Str}, ys.Perm (A.hs.nm ++ A.ks.nm ++ [("pipe" : Str)]) → ys.length ≤ 7 := fun pm => by
    have g6 := S.ok.g6
    rw [pm.length_eq, List.length_append, List.length_append, Grps.nm, Grps.nm, List.length_map, List.length_map, List.length_singleton]
    omega
  refine ⟨2, rfl, by decide, by decide, ?_⟩
  refine for_range (lo := 0) (n := 2) (fun i σ' G => ∃ s6 s7 s8 s9, σ' = [s0, s1, s2, some v, some o, some (.ref p5), s6, s7, s8, s9, s10, s11, s12, none] ∧ Same F G) ⟨_, _, _, _, rfl, Same.refl F⟩ ?_ ?_
  · rintro i σ' G hi ⟨s6, s7, s8, s9, rfl, sG⟩
    have SG := S.same sG
    have h5G := sG _ _ h5
    refine ⟨_, rfl, _, rfl, v, A, rfl, SG.pt, S.ok, fun ps ys F1 fps j1 pm e1 => ?_⟩
    refine cat_lists (j1 _ _ h5G) e1 (by rw [List.length_map, List.length_map]; have := lys pm; omega) fun q fq => ?_
    have j2 := same_new (o := .lst (A.ss.nm.map V.str ++ ys.map V.str)) fq
    have e2 : (upd F1 q (.lst (A.ss.nm.map V.str ++ ys.map V.str))) q = some (.lst ((A.ss.nm ++ ys).map V.str)) := by rw [upd_same, List.map_append]
    generalize upd F1 q (.lst (A.ss.nm.map V.str ++ ys.map V.str)) = F2 at j2 e2 ⊢
    have s2' := sG.trans (j1.trans j2)
    refine ⟨q, rfl, ⟨_, SqL.of e2⟩, ?_⟩
    refine for_list (K := K) (a := q) (xs := (A.ss.nm ++ ys).map V.str) (fun j σ' G => ∃ s6 s7 s8 s9, σ' = [s0, s1, s2, some v, some o, some (.ref p5), s6, s7, s8, s9, s10, s11, s12, none] ∧ Same F2 G) ⟨_, _, _, _, rfl, Same.refl F2⟩ (fun j σ' G _ ⟨_, _, _, _, _, s⟩ => SqL.of (s _ _ e2)) ?_ ?_
    · rintro j x σ' G hx ⟨s6, s7, s8, s9, rfl, s⟩
      rw [List.getElem?_map] at hx
      cases hn : (A.ss.nm ++ ys)[j]? with
      | none => rw [hn] at hx; cases hx
      | some y =>
        rw [hn] at hx
        cases hx
        exact run_b1 (S.same (s2'.trans s)) ((shared_in pm y).mp (List.mem_of_getElem? hn)) fun s8 s9 F' s' => ⟨_, _, _, _, rfl, s.trans s'⟩
    rintro σ' G2 ⟨s6, s7, s8, s9, rfl, s⟩
    have s3' := s2'.trans s
    have h5G2 := s3' _ _ h5
    refine ⟨_, rfl, p5, rfl, ⟨_, SqL.of h5G2⟩, ?_⟩
    refine for_list (K := K) (a := p5) (xs := A.ss.nm.map V.str) (fun j σ' G => ∃ s6 s7 s8 s9, σ' = [s0, s1, s2, some v, some o, some (.ref p5), s6, s7, s8, s9, s10, s11, s12, none] ∧ Same G2 G) ⟨_, _, _, _, rfl, Same.refl G2⟩ (fun j σ' G _ ⟨_, _, _, _, _, s⟩ => SqL.of (s _ _ h5G2)) ?_ ?_
    · rintro j x σ' G hx ⟨s6, s7, s8, s9, rfl, s⟩
      rw [List.getElem?_map] at hx
      cases hn : A.ss.nm[j]? with
      | none => rw [hn] at hx; cases hx
      | some y =>
        rw [hn] at hx
        cases hx
        exact run_b2 (S.same (s3'.trans s)) (List.mem_of_getElem? hn) fun s8 F' s' => ⟨_, _, _, _, rfl, s.trans s'⟩
    rintro σ' G3 ⟨s6, s7, s8, s9, rfl, s⟩
    have s4' := s3'.trans s
    refine ⟨_, rfl, v, A, rfl, (S.same s4').pt, S.ok, fun ps ys F4 fps j4 pm e4 => ⟨ps, rfl, ⟨_, SqL.of e4⟩, ?_⟩⟩
    have s5' := s4'.trans j4
    refine for_list (K := K) (a := ps) (xs := ys.map V.str) (fun j σ' G => ∃ s6 s7 s8 s9, σ' = [s0, s1, s2, some v, some o, some (.ref p5), s6, s7, s8, s9, s10, s11, s12, none] ∧ Same F4 G) ⟨_, _, _, _, rfl, Same.refl F4⟩ (fun j σ' G _ ⟨_, _, _, _, _, s⟩ => SqL.of (s _ _ e4)) ?_ ?_
    · rintro j x σ' G hx ⟨s6, s7, s8, s9, rfl, s⟩
      rw [List.getElem?_map] at hx
      cases hn : ys[j]? with
      | none => rw [hn] at hx; cases hx
      | some y =>
        rw [hn] at hx
        cases hx
        obtain ⟨q1, q2⟩ := shared_out S.ok pm (List.mem_of_getElem? hn)
        exact run_b3 (S.same (s5'.trans s)) (fun m => q2 ((S.of.ss.map (·.1)).mem_iff.mp m)) (S.ok.names y q1) fun s9 F' s' => ⟨_, _, _, _, rfl, s.trans s'⟩
    rintro σ' G5 ⟨s6, s7, s8, s9, rfl, s⟩
    exact ⟨_, _, _, _, rfl, s5'.trans s⟩
  rintro σ' G ⟨s6, s7, s8, s9, rfl, sG⟩
  have h5G := sG _ _ h5
  -- what is known
  refine ⟨_, rfl, _, rfl, v, A, rfl, (S.same sG).pt, S.ok, fun ps ys F1 fps j1 pm e1 => ?_⟩
  refine cat_lists (j1 _ _ h5G) e1 (by rw [List.length_map, List.length_map]; have := lys pm; omega) fun pk fk => ?_
  have j2 := same_new (o := .lst (A.ss.nm.map V.str ++ ys.map V.str)) fk
  have ek : (upd F1 pk (.lst (A.ss.nm.map V.str ++ ys.map V.str))) pk = some (.lst ((A.ss.nm ++ ys).map V.str)) := by rw [upd_same, List.map_append]
  generalize upd F1 pk (.lst (A.ss.nm.map V.str ++ ys.map V.str)) = F2 at j2 ek ⊢
  have s2' := sG.trans (j1.trans j2)
  dsimp only [gName, List.set]
  -- what is lost
  refine ⟨two_fit.2.2.2, fun T hT => ⟨T, rfl, ⟨_, SqT.of upd_same⟩, fun D hD => ?_⟩⟩
  have j3 := same_new (o := .tup [V.str "zzzzzzzz", .str "q", .str "pip", .str "pipes"]) hT
  have e3 : (upd F2 T (.tup [V.str "zzzzzzzz", .str "q", .str "pip", .str "pipes"])) T = some (.tup (four.map V.str)) := upd_same
  have ek3 := j3 _ _ ek
  generalize upd F2 T (.tup [V.str "zzzzzzzz", .str "q", .str "pip", .str "pipes"]) = F3 at j3 e3 ek3 hD ⊢
  have s3' := s2'.trans j3
  refine lc_tup (xs := four.map V.str) (fun i G => Same F3 G ∧ G D = some (.lst (((four.take i).filter fun y => decide (y ∉ A.ss.nm ++ ys)).map V.str))) ⟨same_new hD, upd_same⟩ (fun i G _ ⟨s, _⟩ => SqT.of (s _ _ e3)) ?_ ?_
  · rintro i x G hx ⟨s, hf⟩
    rw [List.getElem?_map] at hx
    cases hn : four[i]? with
    | none => rw [hn] at hx; cases hx
    | some y =>
      rw [hn] at hx
      cases hx
      have lt : i < 4 := (List.getElem?_eq_some_iff.mp hn).1
      have few : (((four.take i).filter fun y => decide (y ∉ A.ss.nm ++ ys)).map V.str).length ≤ 4 := by
        rw [List.length_map]
        exact Nat.le_trans (List.length_filter_le ..) (by rw [List.length_take]; omega)
      refine ⟨rfl, _, rfl, _, rfl, .inl ⟨pk, _, rfl, .inl (SqL.of (s _ _ ek3)), rfl, flat_strs _, _, rfl, ?_⟩⟩
      refine if_notin (fun c => ?_) (fun c => ?_)
      · rw [inV_strs] at c
        have c' : decide (y ∉ A.ss.nm ++ ys) = true := decide_eq_true (p := y ∉ A.ss.nm ++ ys) fun m => c (decide_eq_true m)
        refine ⟨_, rfl, _, hf, small1000 (by omega), fun c2 o e => by rw [upd_ne (ne_of_none e hD)]; exact s _ _ e, ?_⟩
        rw [upd_same, filter_take hn, if_pos c', List.map_append]
        rfl
      · rw [inV_strs] at c
        have c' : ¬ decide (y ∉ A.ss.nm ++ ys) = true := fun z => (of_decide_eq_true (p := y ∉ A.ss.nm ++ ys) z) (of_decide_eq_true c)
        refine ⟨s, ?_⟩
        rw [filter_take hn, if_neg c', List.append_nil]
        exact hf
  rintro G4 ⟨s4, hf⟩
  rw [List.length_map, List.take_length] at hf
  have s4' := s3'.trans s4
  have lost : ∀ n ∈ four.filter (fun y => decide (y ∉ A.ss.nm ++ ys)), isNm n = true ∧ n ∉ B.nm := fun n hn => by
    obtain ⟨m1, m2⟩ := List.mem_filter.mp hn
    have m2 : n ∉ A.ss.nm ++ ys := of_decide_eq_true m2
    exact ⟨four_nm n m1, fun m => m2 ((shared_in pm n).mpr ((of_nm S.of).mem_iff.mp m))⟩
  generalize four.filter (fun y => decide (y ∉ A.ss.nm ++ ys)) = ws at hf lost
  refine ⟨_, rfl, D, rfl, ⟨_, SqL.of hf⟩, ?_⟩
  refine for_list (K := K) (a := D) (xs := ws.map V.str) (fun j σ' G => ∃ s7, σ' = [s0, s1, s2, some v, some o, some (.ref p5), s6, s7, s8, s9, some (.ref pk), some (.ref D), s12, none] ∧ Same G4 G) ⟨_, rfl, Same.refl G4⟩ (fun j σ' G _ ⟨_, _, s⟩ => SqL.of (s _ _ hf)) ?_ ?_
  · rintro j x σ' G hx ⟨s7, rfl, s⟩
    rw [List.getElem?_map] at hx
    cases hn : ws[j]? with
    | none => rw [hn] at hx; cases hx
    | some y =>
      rw [hn] at hx
      cases hx
      obtain ⟨q1, q2⟩ := lost y (List.mem_of_getElem? hn)
      exact run_b4 (S.same (s4'.trans s)) q2 q1 fun F' s' => ⟨_, rfl, s.trans s'⟩
  rintro σ' G5 ⟨s7, rfl, s5⟩
  have s5' := s4'.trans s5
  -- things
  refine ⟨two_fit.1, fun p1 f1 => ?_⟩
  have i1 := same_new (o := .lst [V.str "pipe"]) f1
  have v1 : (upd G5 p1 (.lst [V.str "pipe"])) p1 = some (.lst [V.str "pipe"]) := upd_same
  generalize upd G5 p1 (.lst [V.str "pipe"]) = H1 at i1 v1 ⊢
  refine ⟨two_fit.1, fun p2 f2 => ?_⟩
  have i2 := same_new (o := .tup [V.str "pipe"]) f2
  have v2 : (upd H1 p2 (.tup [V.str "pipe"])) p2 = some (.tup [V.str "pipe"]) := upd_same
  have v1 := i2 _ _ v1
  generalize upd H1 p2 (.tup [V.str "pipe"]) = H2 at i2 v2 v1 ⊢
  intro p3 f3
  have i3 := same_new (o := .dK []) f3
  have v3 : (upd H2 p3 (.dK [])) p3 = some (.dK []) := upd_same
  have v1 := i3 _ _ v1
  have v2 := i3 _ _ v2
  generalize upd H2 p3 (.dK []) = H3 at i3 v3 v2 v1 ⊢
  refine ⟨two_fit.1, fun p4 f4 => ?_⟩
  have i4 := same_new (o := .lst [V.str "a"]) f4
  have v4 : (upd H3 p4 (.lst [V.str "a"])) p4 = some (.lst [V.str "a"]) := upd_same
  have v1 := i4 _ _ v1
  have v2 := i4 _ _ v2
  have v3 := i4 _ _ v3
  generalize upd H3 p4 (.lst [V.str "a"]) = H4 at i4 v4 v3 v2 v1 ⊢
  refine ⟨two_fit.1, fun q5 f5 => ?_⟩
  have i5 := same_new (o := .tup [V.ref p4]) f5
  have v5 : (upd H4 q5 (.tup [V.ref p4])) q5 = some (.tup [V.ref p4]) := upd_same
  have v1 := i5 _ _ v1
  have v2 := i5 _ _ v2
  have v3 := i5 _ _ v3
  have v4 := i5 _ _ v4
  generalize upd H4 q5 (.tup [V.ref p4]) = H5 at i5 v5 v4 v3 v2 v1 ⊢
  refine ⟨Nat.le_of_lt (small1000 (show 9 ≤ 1000 by decide)), fun tp ft => ⟨tp, rfl, ⟨_, SqT.of upd_same⟩, ?_⟩⟩
  have i6 := same_new (o := .tup [V.non, .int 5, .str "", .str "Pipe", .ref p1, .ref p2, .bl true, .ref p3, .ref q5]) ft
  have v6 : (upd H5 tp (.tup [V.non, .int 5, .str "", .str "Pipe", .ref p1, .ref p2, .bl true, .ref p3, .ref q5])) tp = some (.tup [V.non, .int 5, .str "", .str "Pipe", .ref p1, .ref p2, .bl true, .ref p3, .ref q5]) := upd_same
  have v1 := i6 _ _ v1
  have v2 := i6 _ _ v2
  have v3 := i6 _ _ v3
  have v4 := i6 _ _ v4
  have v5 := i6 _ _ v5
  generalize upd H5 tp (.tup [V.non, .int 5, .str "", .str "Pipe", .ref p1, .ref p2, .bl true, .ref p3, .ref q5]) = H6 at i6 v6 v5 v4 v3 v2 v1 ⊢
  have s6' := s5'.trans (((((i1.trans i2).trans i3).trans i4).trans i5).trans i6)
  refine for_tup (K := K) (a := tp) (xs := [V.non, .int 5, .str "", .str "Pipe", .ref p1, .ref p2, .bl true, .ref p3, .ref q5]) (fun j σ' G => ∃ s12, σ' = [s0, s1, s2, some v, some o, some (.ref p5), s6, s7, s8, s9, some (.ref pk), some (.ref D), s12, none] ∧ Same H6 G) ⟨_, rfl, Same.refl H6⟩ (fun j σ' G _ ⟨_, _, s⟩ => SqT.of (s _ _ v6)) ?_ ?_
  · rintro j x σ' G hx ⟨s12, rfl, s⟩
    have SG := S.same (s6'.trans s)
    have lt : j < 9 := (List.getElem?_eq_some_iff.mp hx).1
    have no : ∀ {z : Str}, isNm z = false → z.length ≤ 100 → ∀ G', NotNm K G' (.str z) B.nm := fun h l G' => .inr ⟨_, rfl, l, fun m => by
      have q := S.ok.names _ ((of_nm S.of).mem_iff.mp m)
      rw [h] at q
      cases q⟩
    have go : ∀ (d : PyData), (∀ G', Same G G' → Dp K G' x d) → (PyData.tuple [.str "unknown", d]).canLay0 = true → SeqAt.shaped (.tuple [.str "unknown", d]) = true → (∀ G', Same G G' → NotNm K G' x B.nm) →
        b5_25 K C { nx := fun σ' G => ∃ s12, σ' = [s0, s1, s2, some v, some o, some (.ref p5), s6, s7, s8, s9, some (.ref pk), some (.ref D), s12, none] ∧ Same H6 G, rt := N.rt, bk := N.nx, ct := fun σ' G => ∃ s12, σ' = [s0, s1, s2, some v, some o, some (.ref p5), s6, s7, s8, s9, some (.ref pk), some (.ref D), s12, none] ∧ Same H6 G }
          [s0, s1, s2, some v, some o, some (.ref p5), s6, s7, s8, s9, some (.ref pk), some (.ref D), some x, none] G := fun d hd lay sh hn =>
      run_b5 SG hn (fun G' p q s e1 e2 R r => .inl (.inr ⟨_, _, .tup (SqT.of e1) (.cons (.str _) (.cons (hd G' s) .nil)), .tup (SqT.of e2) (.cons (.str _) (.cons (hd G' s) .nil)), sh, sh, by rw [SeqAt.eqv_refl _ lay]; exact r⟩)) fun F' s' => ⟨_, rfl, s.trans s'⟩
    rcases (by omega : j = 0 ∨ j = 1 ∨ j = 2 ∨ j = 3 ∨ j = 4 ∨ j = 5 ∨ j = 6 ∨ j = 7 ∨ j = 8) with rfl | rfl | rfl | rfl | rfl | rfl | rfl | rfl | rfl
    · cases hx
      exact go .none (fun _ _ => .non) (by decide +kernel) (by decide +kernel) fun G' _ => .inl ⟨_, .base .non, kit_ty (by decide +kernel)⟩
    · cases hx
      exact go (.int 5) (fun _ _ => .int 5) (by decide +kernel) (by decide +kernel) fun G' _ => .inl ⟨_, .base (.int 5), kit_ty (by decide +kernel)⟩
    · cases hx
      exact go (.str "") (fun _ _ => .str _) (by decide +kernel) (by decide +kernel) fun G' _ => no (by decide +kernel) (by decide +kernel) G'
    · cases hx
      exact go (.str "Pipe") (fun _ _ => .str _) (by decide +kernel) (by decide +kernel) fun G' _ => no (by decide +kernel) (by decide +kernel) G'
    · cases hx
      exact go (.list [.str "pipe"]) (fun G' s' => .lst (SqL.of ((s.trans s') _ _ v1)) (.cons (.str _) .nil)) (by decide +kernel) (by decide +kernel) fun G' s' => .inl ⟨_, .base (.lst ((s.trans s') _ _ v1)), kit_ty (by decide +kernel)⟩
    · cases hx
      exact go (.tuple [.str "pipe"]) (fun G' s' => .tup (SqT.of ((s.trans s') _ _ v2)) (.cons (.str _) .nil)) (by decide +kernel) (by decide +kernel) fun G' s' => .inl ⟨_, sqt_ty (SqT.of ((s.trans s') _ _ v2)), kit_ty (by decide +kernel)⟩
    · cases hx
      exact go (.bool true) (fun _ _ => .bl true) (by decide +kernel) (by decide +kernel) fun G' _ => .inl ⟨_, .base (.bl true), kit_ty (by decide +kernel)⟩
    · cases hx
      exact run_b5 SG (fun G' s' => .inl ⟨_, .base (.dK ((s.trans s') _ _ v3)), kit_ty (by decide +kernel)⟩) (fun G' p q s' e1 e2 R r => .inr ⟨p, q, p3, "unknown", rfl, rfl, e1, e2, r⟩) fun F' s' => ⟨_, rfl, s.trans s'⟩
    · cases hx
      exact go (.tuple [.list [.str "a"]]) (fun G' s' => .tup (SqT.of ((s.trans s') _ _ v5)) (.cons (.lst (SqL.of ((s.trans s') _ _ v4)) (.cons (.str _) .nil)) .nil)) (by decide +kernel) (by decide +kernel) fun G' s' => .inl ⟨_, sqt_ty (SqT.of ((s.trans s') _ _ v5)), kit_ty (by decide +kernel)⟩
  rintro σ' G ⟨s12, rfl, s⟩
  exact nx _ _ _ _ _ _ _ _ (s6'.trans s)
end
def t_law (K : PySem.W.Frag) (C : Cs) : TS :=
  (tSeq (tAsg (tCall (sp_law_bag K) [] E0 (tCons (tVar 0) tNil)) (gName 1))
    (tSeq (tFor (iRng1 (tCons (tC (.int 2)) tNil)) (gName 2) (tSeq (tAsg (tCall (sp_law_draw_parts K C) [] E0 (tCons (tVar 1) (tCons (tC (.int 6)) (tCons (tC (.int 3)) (tCons (tC (.int 30)) tNil))))) (gName 3))
    (Evl.tCut (tIfS (tTest (tOp (rEqU K) (tCall (sp_law_take K) [] E0 (tCons (tVar 1) (tCons (tC (.int 4)) tNil))) (tC (.int 0)))) (tAsg (tCall (sp_law_deep_parts K C) [] E0 (tCons (tVar 1) (tCons (tVar 3) tNil))) (gName 3)) tNext)
    (tSeq (tAsg (tTup (tCons (tCall (sp_law_make_plan K C) [] E0 (tCons (tVar 1) (tCons (tVar 3) tNil))) (tCons (tCB rKeysL (tCons (tDGet (tVar 3) (tC (.str "streams"))) tNil)) tNil))) (gTup K 2 (gCons (gName 4) (gCons (gName 5) gNil))))
    (tSeq (tFor (iRng1 (tCons (tC (.int 2)) tNil)) (gName 6) (tSeq (tFor (iList K (tOp (rAddU K) (tVar 5) (tCall (sp_law_shared K C) [] E0 (tCons (tVar 3) tNil)))) (gName 7) (tSeq (tPar 8 9 (tCons (tCall (sp_law_told K C) [] E0 (tCons (tVar 4) (tCons (tC (.int 1)) (tCons (tVar 7) tNil)))) (tCons (tCall (sp_law_under K C) [] E0 (tCons (tVar 3) (tCons (tVar 7) tNil))) tNil)))
    (tSeq (tIfS (tOr (tNot (tB (tCall (sp_law_alike K) [] E0 (tCons (tVar 8) (tCons (tVar 9) tNil))))) (tNot (tB (tCall (sp_law_pool_right K C) [] E0 (tCons (tVar 4) (tCons (tVar 3) (tCons (tVar 7) tNil))))))) (tRet (tC (.bl false))) tNext)
    (tDrop (tBM K "list" rAppend (tVar 8) (tCons (tC (.str "zz")) tNil))))))
    (tSeq (tFor (iList K (tVar 5)) (gName 7) (tSeq (tAsg (tCall (sp_law_told K C) [] E0 (tCons (tVar 4) (tCons (tC (.int 0)) (tCons (tVar 7) tNil)))) (gName 8))
    (tSeq (tIfS (tNot (tB (tCall (sp_law_alike K) [] E0 (tCons (tVar 8) (tCons (tCall (sp_law_over K C) [] E0 (tCons (tVar 3) (tCons (tVar 7) tNil))) tNil))))) (tRet (tC (.bl false))) tNext)
    (tDrop (tBM0 K "list" rReverse (tVar 8))))))
    (tFor (iList K (tCall (sp_law_shared K C) [] E0 (tCons (tVar 3) tNil))) (gName 7) (tSeq (tAsg (tTup (tCons (tC (.str "unknown")) (tCons (tVar 7) tNil))) (gName 9))
    (tIfS (tTest (tOp (rNeU K) (tLc (iTup K (tTup (tCons (tC (.int 0)) (tCons (tC (.int 2)) (tCons (tC (.int 3)) tNil))))) (gName 13) tYes (tCall (sp_law_told K C) [] E0 (tCons (tVar 4) (tCons (tVar 13) (tCons (tVar 7) tNil)))) [13]) (tLst (tCons (tVar 9) (tCons (tVar 9) (tCons (tVar 9) tNil)))))) (tRet (tC (.bl false))) tNext))))))
    (tSeq (tAsg (tOp (rAddU K) (tVar 5) (tCall (sp_law_shared K C) [] E0 (tCons (tVar 3) tNil))) (gName 10))
    (tSeq (tAsg (tLc (iTup K (tTup (tCons (tC (.str "zzzzzzzz")) (tCons (tC (.str "q")) (tCons (tC (.str "pip")) (tCons (tC (.str "pipes")) tNil)))))) (gName 7) (tTest (tOp (rNotInU K) (tVar 7) (tVar 10))) (tVar 7) [7]) (gName 11))
    (tSeq (tFor (iList K (tVar 11)) (gName 7) (tIfS (tOr (tTest (tOp (rNeU K) (tLc (iRng1 (tCons (tC (.int 5)) tNil)) (gName 13) tYes (tCall (sp_law_told K C) [] E0 (tCons (tVar 4) (tCons (tVar 13) (tCons (tVar 7) tNil)))) [13]) (tOp (rMulU K) (tLst (tCons (tTup (tCons (tC (.str "unknown")) (tCons (tVar 7) tNil))) tNil)) (tC (.int 5))))) (tTest (tOp (rInOwn C.Plan (sp_Plan___contains__ K C) E0) (tVar 7) (tVar 4)))) (tRet (tC (.bl false))) tNext))
    (tFor (iTup K (tTup (tCons (tC .non) (tCons (tC (.int 5)) (tCons (tC (.str "")) (tCons (tC (.str "Pipe")) (tCons (tLst (tCons (tC (.str "pipe")) tNil)) (tCons (tTup (tCons (tC (.str "pipe")) tNil)) (tCons (tC (.bl true)) (tCons tDNewK (tCons (tTup (tCons (tLst (tCons (tC (.str "a")) tNil)) tNil)) tNil))))))))))) (gName 12) (tIfS (tOr (tTest (tOp (rNeT K) (tCall (sp_law_told K C) [] E0 (tCons (tVar 4) (tCons (tC (.int 4)) (tCons (tVar 12) tNil)))) (tTup (tCons (tC (.str "unknown")) (tCons (tVar 12) tNil))))) (tTest (tOp (rInOwn C.Plan (sp_Plan___contains__ K C) E0) (tVar 12) (tVar 4)))) (tRet (tC (.bl false))) tNext))))))))))
    (tRet (tC (.bl true)))))
theorem rd_law (fr : FxRule K C) (fp : FxPlan K C) (fu : FxUn K C) (h : sp_law K vs H Q E) : t_law K C (EndsOf Q) (start ["", "", "", "", "", "", "", "", "", "", "", "", "", ""] vs) H := by
  obtain ⟨a, ns, rfl, hS, few, k⟩ := h
  refine ⟨_, rfl, a, ns, rfl, hS, fun b l H1 fb fl B1 s1 => ?_⟩
  refine ⟨2, rfl, by decide, by decide, ?_⟩
  refine for_range (lo := 0) (n := 2) (fun i σ' F => ∃ s2 s3 s4 s5 s6 s7 s8 s9 s10 s11 s12, σ' = [some (.ref a), some (.ref b), s2, s3, s4, s5, s6, s7, s8, s9, s10, s11, s12, none] ∧ Bag F b l) ⟨_, _, _, _, _, _, _, _, _, _, _, rfl, B1⟩ ?_ ?_
  · rintro i σ' F hi ⟨s2, s3, s4, s5, s6, s7, s8, s9, s10, s11, s12, rfl, B⟩
    refine ⟨_, rfl, b, l, 6, 3, 30, rfl, B, by decide, by decide, by decide, by decide, by decide, by decide, fun v A F1 pt ok B2 k2 _ => ?_⟩
    refine ⟨fun σ2 F2 => ∃ v A, σ2 = [some (.ref a), some (.ref b), some (.int (0 + (i : Int))), some v, s4, s5, s6, s7, s8, s9, s10, s11, s12, none] ∧ PtsAt true K C F2 A v ∧ A.ok ∧ Bag F2 b l, ?_, ?_⟩
    · refine ⟨_, rfl, b, l, 4, rfl, B2, by decide, by decide, fun j F2 j0 j1 B3 k3 => .inl ⟨rfl, _, rfl, ?_⟩⟩
      refine ifI (fun _ => ?_) (fun _ => ⟨v, A, rfl, pt.bag B2 k3, ok, B3⟩)
      exact ⟨_, rfl, _, rfl, b, l, v, A, rfl, B3, pt.bag B2 k3, ok, fun v' A' F3 pt' ok' B4 _ => ⟨v', A', rfl, pt', ok', B4⟩⟩
    rintro σ' F2 ⟨v, A, rfl, pt, ok, B3⟩
    refine ⟨_, rfl, _, rfl, b, l, v, A, rfl, B3, pt, ok, fr, fp, fun x Bp F3 pl of B4 k4 fx => ?_⟩
    have pt3 := pt.bag B3 k4
    obtain ⟨d, w, rfl, dg, as, ks, rfl, _, hs, kv⟩ := pt3.gs
    have hs : F3 as = some (.dK ks) := hs
    refine ⟨_, rfl, d, _, rfl, dg, as, ks, rfl, .inl hs, fun p5 f5 => ?_⟩
    rw [kv.keys.2, Stms.tab_nm]
    have j1 := same_new (o := .lst (A.ss.nm.map V.str)) f5
    have e1 : (upd F3 p5 (.lst (A.ss.nm.map V.str))) p5 = some (.lst (A.ss.nm.map V.str)) := upd_same
    generalize upd F3 p5 (.lst (A.ss.nm.map V.str)) = F4 at j1 e1 ⊢
    refine ⟨two_fit.2.1, fun T hT => ⟨T, _, rfl, SqT.of upd_same, rfl, _, _, rfl, _, _, rfl, rfl, ?_⟩⟩
    have j2 := same_new (o := .tup [.ref x, .ref p5]) hT
    have sA := j1.trans j2
    refine run_rest ⟨pl.same sA, fu, of, pt3.same sA, ok⟩ (j2 _ _ e1) ?_ s7
    exact fun s6 s7 s8 s9 s10 s11 s12 F' s' => ⟨_, _, _, _, _, _, _, _, _, _, _, rfl, (B4.same sA).same s'⟩
  · rintro σ' F ⟨s2, s3, s4, s5, s6, s7, s8, s9, s10, s11, s12, rfl, B⟩
    exact k F
end
end Pk
set_option maxHeartbeats 4000000
namespace Lw
open PySem PySem.Spec L2 PyProof.Rows Pk
def top (i : Nat) : Stmt := PySem.Challenge.pw_sharedpipe_k25_pools_over_and_under.main.body.getD i (.Pass ⟨0, 0, 0, 0⟩)
abbrev s_is_name : Stmt := (top 14)
abbrev N_is_name : List Str := ["thing", "sign"]
abbrev P_is_name : List Str := ["thing"]
theorem sc_is_name : FnScope N_is_name P_is_name (defScope s_is_name) := ⟨rfl, rfl, rfl, by decide +kernel, rfl, by decide +kernel, by decide +kernel⟩
abbrev s_Plan___contains__ : Stmt := (inClass (top 61) 2)
abbrev N_Plan___contains__ : List Str := ["self", "name"]
abbrev P_Plan___contains__ : List Str := ["self", "name"]
theorem sc_Plan___contains__ : FnScope N_Plan___contains__ P_Plan___contains__ (defScope s_Plan___contains__) := ⟨rfl, rfl, rfl, by decide +kernel, rfl, by decide +kernel, by decide +kernel⟩
abbrev s__law_alike : Stmt := (top 68)
abbrev N__law_alike : List Str := ["_law_found", "_law_due"]
abbrev P__law_alike : List Str := ["_law_found", "_law_due"]
theorem sc__law_alike : FnScope N__law_alike P__law_alike (defScope s__law_alike) := ⟨rfl, rfl, rfl, by decide +kernel, rfl, by decide +kernel, by decide +kernel⟩
abbrev s__law_bag : Stmt := (top 66)
abbrev N__law_bag : List Str := ["_law_script", "_law_cell"]
abbrev P__law_bag : List Str := ["_law_script"]
theorem sc__law_bag : FnScope N__law_bag P__law_bag (defScope s__law_bag) := ⟨rfl, rfl, rfl, by decide +kernel, rfl, by decide +kernel, by decide +kernel⟩
abbrev s__law_take : Stmt := (top 67)
abbrev N__law_take : List Str := ["_law_bag_here", "_law_many", "_law_cell", "_law_mixed_here", "_law_value", "_law_begin", "_law_second"]
abbrev P__law_take : List Str := ["_law_bag_here", "_law_many"]
theorem sc__law_take : FnScope N__law_take P__law_take (defScope s__law_take) := ⟨rfl, rfl, rfl, by decide +kernel, rfl, by decide +kernel, by decide +kernel⟩
abbrev s__law_draw_size : Stmt := (top 71)
abbrev N__law_draw_size : List Str := ["_law_bag_here", "_law_top", "_law_scale"]
abbrev P__law_draw_size : List Str := ["_law_bag_here", "_law_top", "_law_scale"]
theorem sc__law_draw_size : FnScope N__law_draw_size P__law_draw_size (defScope s__law_draw_size) := ⟨rfl, rfl, rfl, by decide +kernel, rfl, by decide +kernel, by decide +kernel⟩
abbrev s__law_draw_tree : Stmt := (top 72)
abbrev N__law_draw_tree : List Str := ["_law_bag_here", "_law_top", "_law_scale", "_law_depth", "_law_way", "_law_one", "_law_other", "_law_k"]
abbrev P__law_draw_tree : List Str := ["_law_bag_here", "_law_top", "_law_scale", "_law_depth"]
theorem sc__law_draw_tree : FnScope N__law_draw_tree P__law_draw_tree (defScope s__law_draw_tree) := ⟨rfl, rfl, rfl, by decide +kernel, rfl, by decide +kernel, by decide +kernel⟩
abbrev s__law_threshold : Stmt := (top 73)
abbrev N__law_threshold : List Str := ["_law_tree", "_law_word", "_law_one", "_law_other", "_law_pair"]
abbrev P__law_threshold : List Str := ["_law_tree"]
theorem sc__law_threshold : FnScope N__law_threshold P__law_threshold (defScope s__law_threshold) := ⟨rfl, rfl, rfl, by decide +kernel, rfl, by decide +kernel, by decide +kernel⟩
abbrev s__law_draw_pool : Stmt := (top 74)
abbrev N__law_draw_pool : List Str := ["_law_bag_here", "_law_top", "_law_scale", "_law_tree", "_law_when", "_law_worth"]
abbrev P__law_draw_pool : List Str := ["_law_bag_here", "_law_top", "_law_scale"]
theorem sc__law_draw_pool : FnScope N__law_draw_pool P__law_draw_pool (defScope s__law_draw_pool) := ⟨rfl, rfl, rfl, by decide +kernel, rfl, by decide +kernel, by decide +kernel⟩
abbrev s__law_deep_parts : Stmt := (top 86)
abbrev N__law_deep_parts : List Str := ["_law_bag_here", "_law_parts", "_law_used", "_law_word", "_law_found", "_law_fresh", "_law_name", "_law_names", "_law_groups", "_law_streams", "_law_k", "_law_around_here", "_law_inner", "_law_links", "_law_letter"]
abbrev P__law_deep_parts : List Str := ["_law_bag_here", "_law_parts"]
theorem sc__law_deep_parts : FnScope N__law_deep_parts P__law_deep_parts (defScope s__law_deep_parts) := ⟨rfl, rfl, rfl, by decide +kernel, rfl, by decide +kernel, by decide +kernel⟩
abbrev s__law_draw_groups : Stmt := (top 75)
abbrev N__law_draw_groups : List Str := ["_law_bag_here", "_law_names", "_law_top", "_law_scale", "_law_found", "_law_name", "_law_around_here"]
abbrev P__law_draw_groups : List Str := ["_law_bag_here", "_law_names", "_law_top", "_law_scale"]
theorem sc__law_draw_groups : FnScope N__law_draw_groups P__law_draw_groups (defScope s__law_draw_groups) := ⟨rfl, rfl, rfl, by decide +kernel, rfl, by decide +kernel, by decide +kernel⟩
abbrev s__law_draw_names : Stmt := (top 70)
abbrev N__law_draw_names : List Str := ["_law_bag_here", "_law_many", "_law_signs", "_law_words", "_law_way", "_law_turn", "_law_base", "_law_found", "_law_k", "_law_name"]
abbrev P__law_draw_names : List Str := ["_law_bag_here", "_law_many"]
theorem sc__law_draw_names : FnScope N__law_draw_names P__law_draw_names (defScope s__law_draw_names) := ⟨rfl, rfl, rfl, by decide +kernel, rfl, by decide +kernel, by decide +kernel⟩
abbrev s__law_draw_stream : Stmt := (top 76)
abbrev N__law_draw_stream : List Str := ["_law_bag_here", "_law_parts", "_law_top", "_law_scale", "_law_house", "_law_kind", "_law_free", "_law_guide", "_law_tree", "_law_cap", "_law_worth", "_law_name"]
abbrev P__law_draw_stream : List Str := ["_law_bag_here", "_law_parts", "_law_top", "_law_scale"]
theorem sc__law_draw_stream : FnScope N__law_draw_stream P__law_draw_stream (defScope s__law_draw_stream) := ⟨rfl, rfl, rfl, by decide +kernel, rfl, by decide +kernel, by decide +kernel⟩
abbrev s__law_mixed : Stmt := (top 69)
abbrev N__law_mixed : List Str := ["_law_bag_here", "_law_things", "_law_found", "_law_thing"]
abbrev P__law_mixed : List Str := ["_law_bag_here", "_law_things"]
theorem sc__law_mixed : FnScope N__law_mixed P__law_mixed (defScope s__law_mixed) := ⟨rfl, rfl, rfl, by decide +kernel, rfl, by decide +kernel, by decide +kernel⟩
abbrev s__law_draw_parts : Stmt := (top 77)
abbrev N__law_draw_parts : List Str := ["_law_bag_here", "_law_streams", "_law_groups", "_law_top", "_law_scale", "_law_many", "_law_names", "_law_first", "_law_second", "_law_parts", "_law_name"]
abbrev P__law_draw_parts : List Str := ["_law_bag_here", "_law_streams", "_law_groups", "_law_top"]
theorem sc__law_draw_parts : FnScope N__law_draw_parts P__law_draw_parts (defScope s__law_draw_parts) := ⟨rfl, rfl, rfl, by decide +kernel, rfl, by decide +kernel, by decide +kernel⟩
abbrev s_threshold_of : Stmt := (top 25)
abbrev N_threshold_of : List Str := ["tree", "word", "one", "other"]
abbrev P_threshold_of : List Str := ["tree"]
theorem sc_threshold_of : FnScope N_threshold_of P_threshold_of (defScope s_threshold_of) := ⟨rfl, rfl, rfl, by decide +kernel, rfl, by decide +kernel, by decide +kernel⟩
abbrev s_Rule_threshold : Stmt := (inClass (top 31) 3)
abbrev N_Rule_threshold : List Str := ["self"]
abbrev P_Rule_threshold : List Str := ["self"]
theorem sc_Rule_threshold : FnScope N_Rule_threshold P_Rule_threshold (defScope s_Rule_threshold) := ⟨rfl, rfl, rfl, by decide +kernel, rfl, by decide +kernel, by decide +kernel⟩
abbrev s_is_narrow : Stmt := (top 57)
abbrev N_is_narrow : List Str := ["pool", "credit", "rule", "moment"]
abbrev P_is_narrow : List Str := ["pool"]
theorem sc_is_narrow : FnScope N_is_narrow P_is_narrow (defScope s_is_narrow) := ⟨rfl, rfl, rfl, by decide +kernel, rfl, by decide +kernel, by decide +kernel⟩
abbrev s_least_own : Stmt := (top 59)
abbrev N_least_own : List Str := ["rule", "most"]
abbrev P_least_own : List Str := ["rule", "most"]
theorem sc_least_own : FnScope N_least_own P_least_own (defScope s_least_own) := ⟨rfl, rfl, rfl, by decide +kernel, rfl, by decide +kernel, by decide +kernel⟩
abbrev s_is_narrow_stream : Stmt := (top 58)
abbrev N_is_narrow_stream : List Str := ["stream", "credit", "rule", "most", "_"]
abbrev P_is_narrow_stream : List Str := ["stream"]
theorem sc_is_narrow_stream : FnScope N_is_narrow_stream P_is_narrow_stream (defScope s_is_narrow_stream) := ⟨rfl, rfl, rfl, by decide +kernel, rfl, by decide +kernel, by decide +kernel⟩
abbrev s_check_credits : Stmt := (top 56)
abbrev N_check_credits : List Str := ["pipe", "houses", "kinds", "streams", "found", "groups", "name", "stream", "group"]
abbrev P_check_credits : List Str := ["pipe", "houses", "kinds", "streams"]
theorem sc_check_credits : FnScope N_check_credits P_check_credits (defScope s_check_credits) := ⟨rfl, rfl, rfl, by decide +kernel, rfl, by decide +kernel, by decide +kernel⟩
abbrev s_has_bad_guide : Stmt := (top 55)
abbrev N_has_bad_guide : List Str := ["name", "streams", "row", "guide"]
abbrev P_has_bad_guide : List Str := ["name", "streams"]
theorem sc_has_bad_guide : FnScope N_has_bad_guide P_has_bad_guide (defScope s_has_bad_guide) := ⟨rfl, rfl, rfl, by decide +kernel, rfl, by decide +kernel, by decide +kernel⟩
abbrev s_check_guides : Stmt := (top 54)
abbrev N_check_guides : List Str := ["streams", "found", "name"]
abbrev P_check_guides : List Str := ["streams"]
theorem sc_check_guides : FnScope N_check_guides P_check_guides (defScope s_check_guides) := ⟨rfl, rfl, rfl, by decide +kernel, rfl, by decide +kernel, by decide +kernel⟩
abbrev s_is_name_or_none : Stmt := (top 49)
abbrev N_is_name_or_none : List Str := ["thing"]
abbrev P_is_name_or_none : List Str := ["thing"]
theorem sc_is_name_or_none : FnScope N_is_name_or_none P_is_name_or_none (defScope s_is_name_or_none) := ⟨rfl, rfl, rfl, by decide +kernel, rfl, by decide +kernel, by decide +kernel⟩
abbrev s_is_moment : Stmt := (top 15)
abbrev N_is_moment : List Str := ["thing"]
abbrev P_is_moment : List Str := ["thing"]
theorem sc_is_moment : FnScope N_is_moment P_is_moment (defScope s_is_moment) := ⟨rfl, rfl, rfl, by decide +kernel, rfl, by decide +kernel, by decide +kernel⟩
abbrev s_is_integer : Stmt := (top 12)
abbrev N_is_integer : List Str := ["thing"]
abbrev P_is_integer : List Str := ["thing"]
theorem sc_is_integer : FnScope N_is_integer P_is_integer (defScope s_is_integer) := ⟨rfl, rfl, rfl, by decide +kernel, rfl, by decide +kernel, by decide +kernel⟩
abbrev s_is_number : Stmt := (top 13)
abbrev N_is_number : List Str := ["least", "thing"]
abbrev P_is_number : List Str := ["least", "thing"]
theorem sc_is_number : FnScope N_is_number P_is_number (defScope s_is_number) := ⟨rfl, rfl, rfl, by decide +kernel, rfl, by decide +kernel, by decide +kernel⟩
abbrev s_is_pool : Stmt := (top 44)
abbrev N_is_pool : List Str := ["thing", "credit", "rule", "moment"]
abbrev P_is_pool : List Str := ["thing"]
theorem sc_is_pool : FnScope N_is_pool P_is_pool (defScope s_is_pool) := ⟨rfl, rfl, rfl, by decide +kernel, rfl, by decide +kernel, by decide +kernel⟩
abbrev s_is_group : Stmt := (top 46)
abbrev N_is_group : List Str := ["thing"]
abbrev P_is_group : List Str := ["thing"]
theorem sc_is_group : FnScope N_is_group P_is_group (defScope s_is_group) := ⟨rfl, rfl, rfl, by decide +kernel, rfl, by decide +kernel, by decide +kernel⟩
abbrev s_are_groups : Stmt := (top 45)
abbrev N_are_groups : List Str := ["thing", "name", "group"]
abbrev P_are_groups : List Str := ["thing"]
theorem sc_are_groups : FnScope N_are_groups P_are_groups (defScope s_are_groups) := ⟨rfl, rfl, rfl, by decide +kernel, rfl, by decide +kernel, by decide +kernel⟩
abbrev s_is_stream : Stmt := (top 48)
abbrev N_is_stream : List Str := ["thing", "credit", "rule", "most", "house", "kind", "guide"]
abbrev P_is_stream : List Str := ["thing"]
theorem sc_is_stream : FnScope N_is_stream P_is_stream (defScope s_is_stream) := ⟨rfl, rfl, rfl, by decide +kernel, rfl, by decide +kernel, by decide +kernel⟩
abbrev s_are_streams : Stmt := (top 47)
abbrev N_are_streams : List Str := ["thing", "name", "stream"]
abbrev P_are_streams : List Str := ["thing"]
theorem sc_are_streams : FnScope N_are_streams P_are_streams (defScope s_are_streams) := ⟨rfl, rfl, rfl, by decide +kernel, rfl, by decide +kernel, by decide +kernel⟩
abbrev s_check_kinds : Stmt := (top 43)
abbrev N_check_kinds : List Str := ["pipe", "houses", "kinds", "streams"]
abbrev P_check_kinds : List Str := ["pipe", "houses", "kinds", "streams"]
theorem sc_check_kinds : FnScope N_check_kinds P_check_kinds (defScope s_check_kinds) := ⟨rfl, rfl, rfl, by decide +kernel, rfl, by decide +kernel, by decide +kernel⟩
abbrev s_missing_names : Stmt := (top 51)
abbrev N_missing_names : List Str := ["table", "rows", "at", "row"]
abbrev P_missing_names : List Str := ["table", "rows", "at"]
theorem sc_missing_names : FnScope N_missing_names P_missing_names (defScope s_missing_names) := ⟨rfl, rfl, rfl, by decide +kernel, rfl, by decide +kernel, by decide +kernel⟩
abbrev s_check_names : Stmt := (top 50)
abbrev N_check_names : List Str := ["houses", "kinds", "streams", "names", "at", "missing"]
abbrev P_check_names : List Str := ["houses", "kinds", "streams"]
theorem sc_check_names : FnScope N_check_names P_check_names (defScope s_check_names) := ⟨rfl, rfl, rfl, by decide +kernel, rfl, by decide +kernel, by decide +kernel⟩
abbrev s_is_in_itself : Stmt := (top 53)
abbrev N_is_in_itself : List Str := ["name", "groups", "around", "_"]
abbrev P_is_in_itself : List Str := ["name", "groups"]
theorem sc_is_in_itself : FnScope N_is_in_itself P_is_in_itself (defScope s_is_in_itself) := ⟨rfl, rfl, rfl, by decide +kernel, rfl, by decide +kernel, by decide +kernel⟩
abbrev s_check_rings : Stmt := (top 52)
abbrev N_check_rings : List Str := ["houses", "kinds", "found", "name"]
abbrev P_check_rings : List Str := ["houses", "kinds"]
theorem sc_check_rings : FnScope N_check_rings P_check_rings (defScope s_check_rings) := ⟨rfl, rfl, rfl, by decide +kernel, rfl, by decide +kernel, by decide +kernel⟩
abbrev s_check_parts : Stmt := (top 42)
abbrev N_check_parts : List Str := ["pipe", "houses", "kinds", "streams"]
abbrev P_check_parts : List Str := ["pipe", "houses", "kinds", "streams"]
theorem sc_check_parts : FnScope N_check_parts P_check_parts (defScope s_check_parts) := ⟨rfl, rfl, rfl, by decide +kernel, rfl, by decide +kernel, by decide +kernel⟩
abbrev s_ordered : Stmt := (top 62)
abbrev N_ordered : List Str := ["table", "name"]
abbrev P_ordered : List Str := ["table"]
theorem sc_ordered : FnScope N_ordered P_ordered (defScope s_ordered) := ⟨rfl, rfl, rfl, by decide +kernel, rfl, by decide +kernel, by decide +kernel⟩
abbrev s_pools_of : Stmt := (top 63)
abbrev N_pools_of : List Str := ["pipe", "houses", "kinds", "streams", "pools", "groups", "name", "row"]
abbrev P_pools_of : List Str := ["pipe", "houses", "kinds", "streams"]
theorem sc_pools_of : FnScope N_pools_of P_pools_of (defScope s_pools_of) := ⟨rfl, rfl, rfl, by decide +kernel, rfl, by decide +kernel, by decide +kernel⟩
abbrev s_Plan___init__ : Stmt := (inClass (top 61) 0)
abbrev N_Plan___init__ : List Str := ["self", "pipe", "houses", "kinds", "streams"]
abbrev P_Plan___init__ : List Str := ["self", "pipe", "houses", "kinds", "streams"]
theorem sc_Plan___init__ : FnScope N_Plan___init__ P_Plan___init__ (defScope s_Plan___init__) := ⟨rfl, rfl, rfl, by decide +kernel, rfl, by decide +kernel, by decide +kernel⟩
abbrev s_has_word : Stmt := (top 20)
abbrev N_has_word : List Str := ["thing", "words"]
abbrev P_has_word : List Str := ["thing", "words"]
theorem sc_has_word : FnScope N_has_word P_has_word (defScope s_has_word) := ⟨rfl, rfl, rfl, by decide +kernel, rfl, by decide +kernel, by decide +kernel⟩
abbrev s_is_by : Stmt := (top 22)
abbrev N_is_by : List Str := ["thing"]
abbrev P_is_by : List Str := ["thing"]
theorem sc_is_by : FnScope N_is_by P_is_by (defScope s_is_by) := ⟨rfl, rfl, rfl, by decide +kernel, rfl, by decide +kernel, by decide +kernel⟩
abbrev s_is_leaf : Stmt := (top 21)
abbrev N_is_leaf : List Str := ["thing"]
abbrev P_is_leaf : List Str := ["thing"]
theorem sc_is_leaf : FnScope N_is_leaf P_is_leaf (defScope s_is_leaf) := ⟨rfl, rfl, rfl, by decide +kernel, rfl, by decide +kernel, by decide +kernel⟩
abbrev s_is_tree : Stmt := (top 23)
abbrev N_is_tree : List Str := ["thing", "waiting", "leaves", "part"]
abbrev P_is_tree : List Str := ["thing"]
theorem sc_is_tree : FnScope N_is_tree P_is_tree (defScope s_is_tree) := ⟨rfl, rfl, rfl, by decide +kernel, rfl, by decide +kernel, by decide +kernel⟩
abbrev s_Rule___init__ : Stmt := (inClass (top 31) 0)
abbrev N_Rule___init__ : List Str := ["self", "tree"]
abbrev P_Rule___init__ : List Str := ["self", "tree"]
theorem sc_Rule___init__ : FnScope N_Rule___init__ P_Rule___init__ (defScope s_Rule___init__) := ⟨rfl, rfl, rfl, by decide +kernel, rfl, by decide +kernel, by decide +kernel⟩
abbrev s__law_make_plan : Stmt := (top 78)
abbrev N__law_make_plan : List Str := ["_law_bag_here", "_law_parts", "_law_handed", "_law_word", "_law_some", "_law_made", "_law_name", "_law_worth", "_law_tree", "_law_when"]
abbrev P__law_make_plan : List Str := ["_law_bag_here", "_law_parts"]
theorem sc__law_make_plan : FnScope N__law_make_plan P__law_make_plan (defScope s__law_make_plan) := ⟨rfl, rfl, rfl, by decide +kernel, rfl, by decide +kernel, by decide +kernel⟩
abbrev s__law_around : Stmt := (top 79)
abbrev N__law_around : List Str := ["_law_groups", "_law_name", "_law_found"]
abbrev P__law_around : List Str := ["_law_groups", "_law_name"]
theorem sc__law_around : FnScope N__law_around P__law_around (defScope s__law_around) := ⟨rfl, rfl, rfl, by decide +kernel, rfl, by decide +kernel, by decide +kernel⟩
abbrev s__law_over : Stmt := (top 80)
abbrev N__law_over : List Str := ["_law_parts", "_law_stream", "_law_house", "_law_kind", "_law_found"]
abbrev P__law_over : List Str := ["_law_parts", "_law_stream"]
theorem sc__law_over : FnScope N__law_over P__law_over (defScope s__law_over) := ⟨rfl, rfl, rfl, by decide +kernel, rfl, by decide +kernel, by decide +kernel⟩
abbrev s_Unknown___init__ : Stmt := (inClass (top 6) 0)
abbrev N_Unknown___init__ : List Str := ["self", "name"]
abbrev P_Unknown___init__ : List Str := ["self", "name"]
theorem sc_Unknown___init__ : FnScope N_Unknown___init__ P_Unknown___init__ (defScope s_Unknown___init__) := ⟨rfl, rfl, rfl, by decide +kernel, rfl, by decide +kernel, by decide +kernel⟩
abbrev s_Plan___getitem__ : Stmt := (inClass (top 61) 3)
abbrev N_Plan___getitem__ : List Str := ["self", "name"]
abbrev P_Plan___getitem__ : List Str := ["self", "name"]
theorem sc_Plan___getitem__ : FnScope N_Plan___getitem__ P_Plan___getitem__ (defScope s_Plan___getitem__) := ⟨rfl, rfl, rfl, by decide +kernel, rfl, by decide +kernel, by decide +kernel⟩
abbrev s_Rule_tree : Stmt := (inClass (top 31) 4)
abbrev N_Rule_tree : List Str := ["self"]
abbrev P_Rule_tree : List Str := ["self"]
theorem sc_Rule_tree : FnScope N_Rule_tree P_Rule_tree (defScope s_Rule_tree) := ⟨rfl, rfl, rfl, by decide +kernel, rfl, by decide +kernel, by decide +kernel⟩
abbrev s__law_pool : Stmt := (top 83)
abbrev N__law_pool : List Str := ["_law_parts", "_law_name", "_law_word"]
abbrev P__law_pool : List Str := ["_law_parts", "_law_name"]
theorem sc__law_pool : FnScope N__law_pool P__law_pool (defScope s__law_pool) := ⟨rfl, rfl, rfl, by decide +kernel, rfl, by decide +kernel, by decide +kernel⟩
abbrev s__law_pool_right : Stmt := (top 85)
abbrev N__law_pool_right : List Str := ["_law_plan", "_law_parts", "_law_name", "_law_worth", "_law_tree", "_law_when", "_law_found"]
abbrev P__law_pool_right : List Str := ["_law_plan", "_law_parts", "_law_name"]
theorem sc__law_pool_right : FnScope N__law_pool_right P__law_pool_right (defScope s__law_pool_right) := ⟨rfl, rfl, rfl, by decide +kernel, rfl, by decide +kernel, by decide +kernel⟩
abbrev s__law_shared : Stmt := (top 82)
abbrev N__law_shared : List Str := ["_law_parts"]
abbrev P__law_shared : List Str := ["_law_parts"]
theorem sc__law_shared : FnScope N__law_shared P__law_shared (defScope s__law_shared) := ⟨rfl, rfl, rfl, by decide +kernel, rfl, by decide +kernel, by decide +kernel⟩
abbrev s_Plan__row : Stmt := (inClass (top 61) 17)
abbrev N_Plan__row : List Str := ["self", "stream"]
abbrev P_Plan__row : List Str := ["self", "stream"]
theorem sc_Plan__row : FnScope N_Plan__row P_Plan__row (defScope s_Plan__row) := ⟨rfl, rfl, rfl, by decide +kernel, rfl, by decide +kernel, by decide +kernel⟩
abbrev s_Plan_guide : Stmt := (inClass (top 61) 12)
abbrev N_Plan_guide : List Str := ["self", "stream"]
abbrev P_Plan_guide : List Str := ["self", "stream"]
theorem sc_Plan_guide : FnScope N_Plan_guide P_Plan_guide (defScope s_Plan_guide) := ⟨rfl, rfl, rfl, by decide +kernel, rfl, by decide +kernel, by decide +kernel⟩
abbrev s_Plan_most : Stmt := (inClass (top 61) 11)
abbrev N_Plan_most : List Str := ["self", "stream"]
abbrev P_Plan_most : List Str := ["self", "stream"]
theorem sc_Plan_most : FnScope N_Plan_most P_Plan_most (defScope s_Plan_most) := ⟨rfl, rfl, rfl, by decide +kernel, rfl, by decide +kernel, by decide +kernel⟩
abbrev s_outward : Stmt := (top 64)
abbrev N_outward : List Str := ["name", "groups", "names"]
abbrev P_outward : List Str := ["name", "groups"]
theorem sc_outward : FnScope N_outward P_outward (defScope s_outward) := ⟨rfl, rfl, rfl, by decide +kernel, rfl, by decide +kernel, by decide +kernel⟩
abbrev s_Plan_over : Stmt := (inClass (top 61) 9)
abbrev N_Plan_over : List Str := ["self", "stream", "row"]
abbrev P_Plan_over : List Str := ["self", "stream"]
theorem sc_Plan_over : FnScope N_Plan_over P_Plan_over (defScope s_Plan_over) := ⟨rfl, rfl, rfl, by decide +kernel, rfl, by decide +kernel, by decide +kernel⟩
abbrev s_Plan_under : Stmt := (inClass (top 61) 10)
abbrev N_Plan_under : List Str := ["self", "name", "stream"]
abbrev P_Plan_under : List Str := ["self", "name"]
theorem sc_Plan_under : FnScope N_Plan_under P_Plan_under (defScope s_Plan_under) := ⟨rfl, rfl, rfl, by decide +kernel, rfl, by decide +kernel, by decide +kernel⟩
abbrev s__law_told : Stmt := (top 84)
abbrev N__law_told : List Str := ["_law_plan", "_law_way", "_law_name", "e"]
abbrev P__law_told : List Str := ["_law_plan", "_law_way", "_law_name"]
theorem sc__law_told : FnScope N__law_told P__law_told (defScope s__law_told) := ⟨rfl, rfl, rfl, by decide +kernel, rfl, by decide +kernel, by decide +kernel⟩
abbrev s__law_under : Stmt := (top 81)
abbrev N__law_under : List Str := ["_law_parts", "_law_name", "_law_stream"]
abbrev P__law_under : List Str := ["_law_parts", "_law_name"]
theorem sc__law_under : FnScope N__law_under P__law_under (defScope s__law_under) := ⟨rfl, rfl, rfl, by decide +kernel, rfl, by decide +kernel, by decide +kernel⟩
abbrev s_law : Stmt := (top 87)
abbrev N_law : List Str := ["_law_script", "_law_bag_here", "_law_turn", "_law_parts", "_law_plan", "_law_streams", "_law_again", "_law_name", "_law_found", "_law_due", "_law_known", "_law_lost", "_law_thing", "_law_way"]
abbrev P_law : List Str := ["_law_script"]
theorem sc_law : FnScope N_law P_law (defScope s_law) := ⟨rfl, rfl, rfl, by decide +kernel, rfl, by decide +kernel, by decide +kernel⟩
structure Bl (mg : Str → Option Value) : Prop where
  none_ : True
  b_abs : mg "abs" = none
  b_all : mg "all" = none
  b_bool : mg "bool" = none
  b_dict : mg "dict" = none
  b_int : mg "int" = none
  b_isinstance : mg "isinstance" = none
  b_len : mg "len" = none
  b_list : mg "list" = none
  b_max : mg "max" = none
  b_min : mg "min" = none
  b_range : mg "range" = none
  b_repr : mg "repr" = none
  b_sorted : mg "sorted" = none
  b_str : mg "str" = none
  b_tuple : mg "tuple" = none
  g_AROUND : ∃ t, mg "AROUND" = some (.int 3 t)
  g_GUIDE : ∃ t, mg "GUIDE" = some (.int 5 t)
  g_HOUSE : ∃ t, mg "HOUSE" = some (.int 3 t)
  g_KIND : ∃ t, mg "KIND" = some (.int 4 t)
  g_LONGEST_NAME : ∃ t, mg "LONGEST_NAME" = some (.int 8 t)
  g_MOST : ∃ t, mg "MOST" = some (.int 2 t)
  g_MOST_BY : ∃ t, mg "MOST_BY" = some (.int 6 t)
  g_MOST_GROUPS : ∃ t, mg "MOST_GROUPS" = some (.int 6 t)
  g_MOST_LEAVES : ∃ t, mg "MOST_LEAVES" = some (.int 6 t)
  g_MOST_STREAMS : ∃ t, mg "MOST_STREAMS" = some (.int 6 t)
  g_PIPE : ∃ t, mg "PIPE" = some (.str "pipe" t)
section
variable {P : Program} {w : World} {K : PySem.W.Frag} {mg : Str → Option Value} {base : Heap} {C : Cs}
theorem ok_is_name {f : Addr} {fd : FuncData} (F : Fun K "is_name" "is_name" s_is_name f fd) (T : Bl mg)   : FnOk P w K mg base CX0 1 f fd P_is_name (sp_is_name K) := by
  obtain ⟨t_AROUND, g_AROUND⟩ := T.g_AROUND
  obtain ⟨t_GUIDE, g_GUIDE⟩ := T.g_GUIDE
  obtain ⟨t_HOUSE, g_HOUSE⟩ := T.g_HOUSE
  obtain ⟨t_KIND, g_KIND⟩ := T.g_KIND
  obtain ⟨t_LONGEST_NAME, g_LONGEST_NAME⟩ := T.g_LONGEST_NAME
  obtain ⟨t_MOST, g_MOST⟩ := T.g_MOST
  obtain ⟨t_MOST_BY, g_MOST_BY⟩ := T.g_MOST_BY
  obtain ⟨t_MOST_GROUPS, g_MOST_GROUPS⟩ := T.g_MOST_GROUPS
  obtain ⟨t_MOST_LEAVES, g_MOST_LEAVES⟩ := T.g_MOST_LEAVES
  obtain ⟨t_MOST_STREAMS, g_MOST_STREAMS⟩ := T.g_MOST_STREAMS
  obtain ⟨t_PIPE, g_PIPE⟩ := T.g_PIPE
  refine F.ok sc_is_name (fun vs H Q E h => ln_is_name h) (fun cdv A outer s H vs Q E hr h => ⟨t_is_name K, ?_, rd_is_name  h⟩)
  exact (pss_cons (ps_if (PW.pt (pw_or (pt_not (pt_val (pe_callB call_isi rfl T.b_isinstance Pk.boot_isinstance (pa_cons (pv 0) (pa_cons (pe_bltn (v := .ty "str") rfl T.b_str Pk.boot_t_str rfl) pa_nil))))) (pw_or1 (pt_not (pt_chain opLe opLe pe_int (pe_callB callLen rfl T.b_len Pk.boot_len (pa_cons (pv 0) pa_nil)) (pe_glob rfl g_LONGEST_NAME ⟨_, rfl⟩)))))) (pss_one (ps_ret pe_bl)) pss_nil)
    (pss_one (ps_ret (pe_callB (cr_all rfl) rfl T.b_all Pk.boot_all (pa_cons (pe_lc (own := [("sign", 1)]) (g := (gName 1)) (tt := tYes) rfl sc_is_name.nd (pi_str (pv 0)) (blkOk_by (N := N_is_name) (own := [("sign", 1)]) (sc := defScope s_is_name) (by decide +kernel)) (fun _ _ _ _ _ => (pg_name (i := 1) sc_is_name.nd rfl (Or.inl rfl))) (fun _ _ _ _ _ => pts_nil) (fun _ _ _ _ _ => (pe_chain opLe opLe pe_str (pv 1) pe_str))) pa_nil)))))
theorem ok_Plan___contains__ {f : Addr} {fd : FuncData} (F : Fun K "__contains__" "Plan.__contains__" s_Plan___contains__ f fd) (T : Bl mg)  (f_is_name : Cal P w K mg base CX0 1 "is_name" P_is_name [] (sp_is_name K)) : FnOk P w K mg base CX0 2 f fd P_Plan___contains__ (sp_Plan___contains__ K C) := by
  obtain ⟨t_AROUND, g_AROUND⟩ := T.g_AROUND
  obtain ⟨t_GUIDE, g_GUIDE⟩ := T.g_GUIDE
  obtain ⟨t_HOUSE, g_HOUSE⟩ := T.g_HOUSE
  obtain ⟨t_KIND, g_KIND⟩ := T.g_KIND
  obtain ⟨t_LONGEST_NAME, g_LONGEST_NAME⟩ := T.g_LONGEST_NAME
  obtain ⟨t_MOST, g_MOST⟩ := T.g_MOST
  obtain ⟨t_MOST_BY, g_MOST_BY⟩ := T.g_MOST_BY
  obtain ⟨t_MOST_GROUPS, g_MOST_GROUPS⟩ := T.g_MOST_GROUPS
  obtain ⟨t_MOST_LEAVES, g_MOST_LEAVES⟩ := T.g_MOST_LEAVES
  obtain ⟨t_MOST_STREAMS, g_MOST_STREAMS⟩ := T.g_MOST_STREAMS
  obtain ⟨t_PIPE, g_PIPE⟩ := T.g_PIPE
  refine F.ok sc_Plan___contains__ (fun vs H Q E h => ln_Plan___contains__ h) (fun cdv A outer s H vs Q E hr h => ⟨t_Plan___contains__ K, ?_, rd_Plan___contains__  h⟩)
  exact (pss_one (ps_ret (pe_and (pe_cal f_is_name hr pass0 (pa_cons (pv 1) pa_nil)) (pe_one (pe_cmp (pc_din (hu_of hr) (pv 1) (pe_fld (pv 0) rfl)))))))
theorem ok__law_alike {f : Addr} {fd : FuncData} (F : Fun K "_law_alike" "_law_alike" s__law_alike f fd) (T : Bl mg)   : FnG P w K mg base CX0 1 f fd P__law_alike (sp_law_alike K) := by
  obtain ⟨t_AROUND, g_AROUND⟩ := T.g_AROUND
  obtain ⟨t_GUIDE, g_GUIDE⟩ := T.g_GUIDE
  obtain ⟨t_HOUSE, g_HOUSE⟩ := T.g_HOUSE
  obtain ⟨t_KIND, g_KIND⟩ := T.g_KIND
  obtain ⟨t_LONGEST_NAME, g_LONGEST_NAME⟩ := T.g_LONGEST_NAME
  obtain ⟨t_MOST, g_MOST⟩ := T.g_MOST
  obtain ⟨t_MOST_BY, g_MOST_BY⟩ := T.g_MOST_BY
  obtain ⟨t_MOST_GROUPS, g_MOST_GROUPS⟩ := T.g_MOST_GROUPS
  obtain ⟨t_MOST_LEAVES, g_MOST_LEAVES⟩ := T.g_MOST_LEAVES
  obtain ⟨t_MOST_STREAMS, g_MOST_STREAMS⟩ := T.g_MOST_STREAMS
  obtain ⟨t_PIPE, g_PIPE⟩ := T.g_PIPE
  refine okG F sc__law_alike (fun vs H Q E h => ln_law_alike h) (fun cdv A outer s H vs Q E gd hr h => ⟨t_law_alike K, ?_, rd_law_alike  h⟩)
  exact (pss_one (ps_ret (pe_and (pe_cmpR (opEq hr.units) (pv 0) (pv 1) (nomark _)) (pe_one (pe_cmpR (opEq hr.units) (pe_callB (call_repr gd (room_repr hr)) rfl T.b_repr Pk.boot_repr (pa_cons (pv 0) pa_nil)) (pe_callB (call_repr gd (room_repr hr)) rfl T.b_repr Pk.boot_repr (pa_cons (pv 1) pa_nil)) (nomark _))))))
theorem ok__law_bag {f : Addr} {fd : FuncData} (F : Fun K "_law_bag" "_law_bag" s__law_bag f fd) (T : Bl mg)   : FnOk P w K mg base CX0 1 f fd P__law_bag (sp_law_bag K) := by
  obtain ⟨t_AROUND, g_AROUND⟩ := T.g_AROUND
  obtain ⟨t_GUIDE, g_GUIDE⟩ := T.g_GUIDE
  obtain ⟨t_HOUSE, g_HOUSE⟩ := T.g_HOUSE
  obtain ⟨t_KIND, g_KIND⟩ := T.g_KIND
  obtain ⟨t_LONGEST_NAME, g_LONGEST_NAME⟩ := T.g_LONGEST_NAME
  obtain ⟨t_MOST, g_MOST⟩ := T.g_MOST
  obtain ⟨t_MOST_BY, g_MOST_BY⟩ := T.g_MOST_BY
  obtain ⟨t_MOST_GROUPS, g_MOST_GROUPS⟩ := T.g_MOST_GROUPS
  obtain ⟨t_MOST_LEAVES, g_MOST_LEAVES⟩ := T.g_MOST_LEAVES
  obtain ⟨t_MOST_STREAMS, g_MOST_STREAMS⟩ := T.g_MOST_STREAMS
  obtain ⟨t_PIPE, g_PIPE⟩ := T.g_PIPE
  refine F.ok sc__law_bag (fun vs H Q E h => ln_law_bag h) (fun cdv A outer s H vs Q E hr h => ⟨t_law_bag K, ?_, rd_law_bag  h⟩)
  exact (pss_one (ps_ret (pe_lst (pa_cons pe_int (pa_cons pe_int (pa_cons pe_int (pa_cons (pe_lc (own := [("_law_cell", 1)]) (g := (gName 1)) (tt := tYes) rfl sc__law_bag.nd (pi_list (pe_slice slU (pv 0) po_none (po_some pe_int))) (blkOk_by (N := N__law_bag) (own := [("_law_cell", 1)]) (sc := defScope s__law_bag) (by decide +kernel)) (fun _ _ _ _ _ => (pg_name (i := 1) sc__law_bag.nd rfl (Or.inl rfl))) (fun _ _ _ _ _ => pts_nil) (fun _ _ _ _ _ => (pe_callB call_abs rfl T.b_abs Pk.boot_abs (pa_cons (pv 1) pa_nil)))) pa_nil)))))))
theorem ok__law_take {f : Addr} {fd : FuncData} (F : Fun K "_law_take" "_law_take" s__law_take f fd) (T : Bl mg)   : FnOk P w K mg base CX0 1 f fd P__law_take (sp_law_take K) := by
  obtain ⟨t_AROUND, g_AROUND⟩ := T.g_AROUND
  obtain ⟨t_GUIDE, g_GUIDE⟩ := T.g_GUIDE
  obtain ⟨t_HOUSE, g_HOUSE⟩ := T.g_HOUSE
  obtain ⟨t_KIND, g_KIND⟩ := T.g_KIND
  obtain ⟨t_LONGEST_NAME, g_LONGEST_NAME⟩ := T.g_LONGEST_NAME
  obtain ⟨t_MOST, g_MOST⟩ := T.g_MOST
  obtain ⟨t_MOST_BY, g_MOST_BY⟩ := T.g_MOST_BY
  obtain ⟨t_MOST_GROUPS, g_MOST_GROUPS⟩ := T.g_MOST_GROUPS
  obtain ⟨t_MOST_LEAVES, g_MOST_LEAVES⟩ := T.g_MOST_LEAVES
  obtain ⟨t_MOST_STREAMS, g_MOST_STREAMS⟩ := T.g_MOST_STREAMS
  obtain ⟨t_PIPE, g_PIPE⟩ := T.g_PIPE
  refine F.ok sc__law_take (fun vs H Q E h => ln_law_take h) (fun cdv A outer s H vs Q E hr h => ⟨t_law_take K, ?_, rd_law_take  h⟩)
  exact (Evl.pss_cut (ps_if (pt_cmpR (opEq hr.units) (pe_ix ix_seq (pv 0) pe_int (fun _ _ => rfl)) pe_int (nomark _)) (pss_cons (ps_set (i := 2) sc__law_take.nd rfl (Or.inl rfl) pe_int)
    (Evl.pss_cut (ps_if (pt_cmpR opLt (pe_ix ix_seq (pv 0) pe_int (fun _ _ => rfl)) (pe_callB callLen rfl T.b_len Pk.boot_len (pa_cons (pe_ix ix_seq (pv 0) pe_int (fun _ _ => rfl)) pa_nil)) (nomark _)) (pss_one (ps_set (i := 2) sc__law_take.nd rfl (Or.inl rfl) (pe_ix ix_seq (pe_ix ix_seq (pv 0) pe_int (fun _ _ => rfl)) (pe_ix ix_seq (pv 0) pe_int (fun _ _ => rfl)) (fun _ _ => rfl)))) pss_nil)
    (pss_cons (ps_augS (pv 0) pe_int get_list pe_int ip_add set_list)
    (Evl.pss_cut (ps_if (pt_cmpR opGe (pv 2) pe_int (nomark _)) (pss_one (ps_asg (pv 2) (pg_sub (pv 0) pe_int set_list))) pss_nil)
    (pss_cons (ps_set (i := 3) sc__law_take.nd rfl (Or.inl rfl) (pe_op opAdd (pe_op opAdd (pe_op opMul (pe_ix ix_seq (pv 0) pe_int (fun _ _ => rfl)) pe_int) (pe_op opMod (pe_callTy callInt rfl T.b_int Pk.boot_t_int (pa_cons (pv 2) pa_nil)) pe_int)) (pe_op opMul pe_int (pe_ix ix_seq (pv 0) pe_int (fun _ _ => rfl)))))
    (pss_one (ps_asg (pe_op opMod (pe_callTy callInt rfl T.b_int Pk.boot_t_int (pa_cons (pv 3) pa_nil)) pe_int) (pg_sub (pv 0) pe_int set_list)))))))) pss_nil)
    (pss_cons (ps_if (pt_cmpR opGt (pe_ix ix_seq (pv 0) pe_int (fun _ _ => rfl)) pe_int (nomark _)) (pss_cons (ps_set (i := 4) sc__law_take.nd rfl (Or.inl rfl) (pe_op opMod (pe_callTy callInt rfl T.b_int Pk.boot_t_int (pa_cons (pe_ix ix_seq (pv 0) pe_int (fun _ _ => rfl)) pa_nil)) (pv 1)))
    (pss_cons (ps_asg (pe_op opDiv (pe_ix ix_seq (pv 0) pe_int (fun _ _ => rfl)) (pv 1)) (pg_sub (pv 0) pe_int set_list))
    (pss_one (ps_ret (pv 4))))) pss_nil)
    (pss_cons (ps_set (i := 5) sc__law_take.nd rfl (Or.inl rfl) (pe_op opMod (pe_callTy callInt rfl T.b_int Pk.boot_t_int (pa_cons (pe_op opMul (pe_op opAdd (pe_ix ix_seq (pv 0) pe_int (fun _ _ => rfl)) pe_int) pe_int) pa_nil)) pe_int))
    (pss_cons (ps_set (i := 6) sc__law_take.nd rfl (Or.inl rfl) (pe_op opMod (pe_callTy callInt rfl T.b_int Pk.boot_t_int (pa_cons (pe_op opMul (pe_op opMod (pe_callTy callInt rfl T.b_int Pk.boot_t_int (pa_cons (pe_op opMul (pv 5) (pv 5)) pa_nil)) pe_int) pe_int) pa_nil)) pe_int))
    (pss_cons (ps_if (pt_cmpR opGt (pv 1) pe_int (nomark _)) (pss_one (ps_ret (pe_op opMod (pe_callTy callInt rfl T.b_int Pk.boot_t_int (pa_cons (pe_op opAdd (pe_op opMul (pv 6) pe_int) (pv 5)) pa_nil)) (pv 1)))) pss_nil)
    (pss_one (ps_ret (pe_op opMod (pe_callTy callInt rfl T.b_int Pk.boot_t_int (pa_cons (pe_op opDiv (pv 6) pe_int) pa_nil)) (pv 1)))))))))
theorem ok__law_draw_size {f : Addr} {fd : FuncData} (F : Fun K "_law_draw_size" "_law_draw_size" s__law_draw_size f fd) (T : Bl mg)  (f__law_take : Cal P w K mg base CX0 1 "_law_take" P__law_take [] (sp_law_take K)) : FnOk P w K mg base CX0 2 f fd P__law_draw_size (sp_law_draw_size K) := by
  obtain ⟨t_AROUND, g_AROUND⟩ := T.g_AROUND
  obtain ⟨t_GUIDE, g_GUIDE⟩ := T.g_GUIDE
  obtain ⟨t_HOUSE, g_HOUSE⟩ := T.g_HOUSE
  obtain ⟨t_KIND, g_KIND⟩ := T.g_KIND
  obtain ⟨t_LONGEST_NAME, g_LONGEST_NAME⟩ := T.g_LONGEST_NAME
  obtain ⟨t_MOST, g_MOST⟩ := T.g_MOST
  obtain ⟨t_MOST_BY, g_MOST_BY⟩ := T.g_MOST_BY
  obtain ⟨t_MOST_GROUPS, g_MOST_GROUPS⟩ := T.g_MOST_GROUPS
  obtain ⟨t_MOST_LEAVES, g_MOST_LEAVES⟩ := T.g_MOST_LEAVES
  obtain ⟨t_MOST_STREAMS, g_MOST_STREAMS⟩ := T.g_MOST_STREAMS
  obtain ⟨t_PIPE, g_PIPE⟩ := T.g_PIPE
  refine F.ok sc__law_draw_size (fun vs H Q E h => ln_law_draw_size h) (fun cdv A outer s H vs Q E hr h => ⟨t_law_draw_size K, ?_, rd_law_draw_size  h⟩)
  exact (pss_one (ps_ret (pe_op opMul (pe_op opAdd pe_int (pe_cal f__law_take hr pass0 (pa_cons (pv 0) (pa_cons (pv 1) pa_nil)))) (pe_ix ix_seq (pe_lst (pa_cons pe_int (pa_cons (pv 2) pa_nil))) (pe_cal f__law_take hr pass0 (pa_cons (pv 0) (pa_cons pe_int pa_nil))) (fun _ _ => rfl)))))
theorem ok__law_draw_tree {n : Nat} {f : Addr} {fd : FuncData} (F : Fun K "_law_draw_tree" "_law_draw_tree" s__law_draw_tree f fd) (T : Bl mg)  (f__law_draw_tree : Cal P w K mg base CX0 (2 + n) "_law_draw_tree" P__law_draw_tree [] (sp_law_draw_tree K n)) (f__law_take : Cal P w K mg base CX0 1 "_law_take" P__law_take [] (sp_law_take K)) (f__law_draw_size : Cal P w K mg base CX0 2 "_law_draw_size" P__law_draw_size [] (sp_law_draw_size K)) : FnOk P w K mg base CX0 (2 + n + 1) f fd P__law_draw_tree (sp_law_draw_tree K (n + 1)) := by
  obtain ⟨t_AROUND, g_AROUND⟩ := T.g_AROUND
  obtain ⟨t_GUIDE, g_GUIDE⟩ := T.g_GUIDE
  obtain ⟨t_HOUSE, g_HOUSE⟩ := T.g_HOUSE
  obtain ⟨t_KIND, g_KIND⟩ := T.g_KIND
  obtain ⟨t_LONGEST_NAME, g_LONGEST_NAME⟩ := T.g_LONGEST_NAME
  obtain ⟨t_MOST, g_MOST⟩ := T.g_MOST
  obtain ⟨t_MOST_BY, g_MOST_BY⟩ := T.g_MOST_BY
  obtain ⟨t_MOST_GROUPS, g_MOST_GROUPS⟩ := T.g_MOST_GROUPS
  obtain ⟨t_MOST_LEAVES, g_MOST_LEAVES⟩ := T.g_MOST_LEAVES
  obtain ⟨t_MOST_STREAMS, g_MOST_STREAMS⟩ := T.g_MOST_STREAMS
  obtain ⟨t_PIPE, g_PIPE⟩ := T.g_PIPE
  refine F.ok sc__law_draw_tree (fun vs H Q E h => ln_law_draw_tree h) (fun cdv A outer s H vs Q E hr h => ⟨t_law_draw_tree K n, ?_, rd_law_draw_tree  h⟩)
  exact (pss_cons (ps_set (i := 4) sc__law_draw_tree.nd rfl (Or.inl rfl) (pe_cal f__law_take hr pass0 (pa_cons (pv 0) (pa_cons pe_int pa_nil))))
    (pss_cons (ps_if (PW.pt (pw_or (pt_cmpR (opEq hr.units) (pv 3) pe_int (nomark _)) (pw_or1 (pt_cmpR opLt (pv 4) pe_int (nomark _))))) (pss_one (ps_ret (pe_tup (pa_cons pe_str (pa_cons (pe_cal f__law_draw_size hr pass0 (pa_cons (pv 0) (pa_cons (pv 1) (pa_cons (pv 2) pa_nil)))) (pa_cons (pe_op opAdd pe_int (pe_cal f__law_take hr pass0 (pa_cons (pv 0) (pa_cons pe_int pa_nil)))) pa_nil)))))) pss_nil)
    (pss_cons (ps_asg (pe_lc (own := [("_law_k", 7)]) (g := (gName 7)) (tt := tYes) rfl sc__law_draw_tree.nd (pi_range1 rfl T.b_range (pa_cons pe_int pa_nil)) (blkOk_by (N := N__law_draw_tree) (own := [("_law_k", 7)]) (sc := defScope s__law_draw_tree) (by decide +kernel)) (fun _ _ _ _ _ => (pg_name (i := 7) sc__law_draw_tree.nd rfl (Or.inl rfl))) (fun _ _ _ _ _ => pts_nil) (fun _ _ _ _ _ => (pe_cal f__law_draw_tree hr pass0 (pa_cons (pv 0) (pa_cons (pv 1) (pa_cons (pv 2) (pa_cons (pe_op opSub (pv 3) pe_int) pa_nil))))))) (pg_lst rfl (pgs_cons (pg_name (i := 5) sc__law_draw_tree.nd rfl (Or.inl rfl)) (pgs_cons (pg_name (i := 6) sc__law_draw_tree.nd rfl (Or.inl rfl)) pgs_nil))))
    (pss_one (ps_ret (pe_tup (pa_cons (pe_ix ix_seq (pe_lst (pa_cons pe_str (pa_cons pe_str pa_nil))) (pe_op opSub (pv 4) pe_int) (fun _ _ => rfl)) (pa_cons (pv 5) (pa_cons (pv 6) pa_nil)))))))))
theorem all__law_draw_tree {f : Addr} {fd : FuncData} (F : Fun K "_law_draw_tree" "_law_draw_tree" s__law_draw_tree f fd) (T : Bl mg)  (f__law_take : Cal P w K mg base CX0 1 "_law_take" P__law_take [] (sp_law_take K)) (f__law_draw_size : Cal P w K mg base CX0 2 "_law_draw_size" P__law_draw_size [] (sp_law_draw_size K)) (hm : mg "_law_draw_tree" = some (.ref f)) (hk : PySem.W.keepIn K (.ref f) = true) (hb : Binds K fd P__law_draw_tree []) : ∀ n : Nat, FnOk P w K mg base CX0 (2 + n) f fd P__law_draw_tree (sp_law_draw_tree K n)
  | 0 => ⟨fun vs H Q E h => (no_law_draw_tree h).elim, fun A outer s H args us vs Q E _ _ _ _ h => (no_law_draw_tree h).elim⟩
  | n + 1 => ok__law_draw_tree F T  ⟨_, _, all__law_draw_tree F T  f__law_take f__law_draw_size hm hk hb n, hm, hk, hb⟩ f__law_take f__law_draw_size
theorem ok__law_threshold {n : Nat} {f : Addr} {fd : FuncData} (F : Fun K "_law_threshold" "_law_threshold" s__law_threshold f fd) (T : Bl mg)  (f__law_threshold : Cal P w K mg base CX0 (0 + n) "_law_threshold" P__law_threshold [] (sp_law_threshold K n)) : FnOk P w K mg base CX0 (0 + n + 1) f fd P__law_threshold (sp_law_threshold K (n + 1)) := by
  obtain ⟨t_AROUND, g_AROUND⟩ := T.g_AROUND
  obtain ⟨t_GUIDE, g_GUIDE⟩ := T.g_GUIDE
  obtain ⟨t_HOUSE, g_HOUSE⟩ := T.g_HOUSE
  obtain ⟨t_KIND, g_KIND⟩ := T.g_KIND
  obtain ⟨t_LONGEST_NAME, g_LONGEST_NAME⟩ := T.g_LONGEST_NAME
  obtain ⟨t_MOST, g_MOST⟩ := T.g_MOST
  obtain ⟨t_MOST_BY, g_MOST_BY⟩ := T.g_MOST_BY
  obtain ⟨t_MOST_GROUPS, g_MOST_GROUPS⟩ := T.g_MOST_GROUPS
  obtain ⟨t_MOST_LEAVES, g_MOST_LEAVES⟩ := T.g_MOST_LEAVES
  obtain ⟨t_MOST_STREAMS, g_MOST_STREAMS⟩ := T.g_MOST_STREAMS
  obtain ⟨t_PIPE, g_PIPE⟩ := T.g_PIPE
  refine F.ok sc__law_threshold (fun vs H Q E h => ln_law_threshold h) (fun cdv A outer s H vs Q E hr h => ⟨t_law_threshold K n, ?_, rd_law_threshold  h⟩)
  exact (pss_cons (ps_asg (pv 0) (pg_tup rfl (pgs_cons (pg_name (i := 1) sc__law_threshold.nd rfl (Or.inl rfl)) (pgs_cons (pg_name (i := 2) sc__law_threshold.nd rfl (Or.inl rfl)) (pgs_cons (pg_name (i := 3) sc__law_threshold.nd rfl (Or.inl rfl)) pgs_nil)))))
    (pss_cons (ps_if (pt_cmpR (opEq hr.units) (pv 1) pe_str (nomark _)) (pss_one (ps_ret (pe_callB (call_max2 rfl) rfl T.b_max Pk.boot_max (pa_cons (pv 2) (pa_cons (pv 3) pa_nil))))) pss_nil)
    (pss_cons (ps_set (i := 4) sc__law_threshold.nd rfl (Or.inl rfl) (pe_lst (pa_cons (pe_cal f__law_threshold hr pass0 (pa_cons (pv 2) pa_nil)) (pa_cons (pe_cal f__law_threshold hr pass0 (pa_cons (pv 3) pa_nil)) pa_nil))))
    (pss_one (ps_ret (pe_ifExp (pt_cmpR (opEq hr.units) (pv 1) pe_str (nomark _)) (pe_callB (cr_min rfl) rfl T.b_min Pk.boot_min (pa_cons (pv 4) pa_nil)) (pe_callB (cr_max rfl) rfl T.b_max Pk.boot_max (pa_cons (pv 4) pa_nil))))))))
theorem all__law_threshold {f : Addr} {fd : FuncData} (F : Fun K "_law_threshold" "_law_threshold" s__law_threshold f fd) (T : Bl mg)   (hm : mg "_law_threshold" = some (.ref f)) (hk : PySem.W.keepIn K (.ref f) = true) (hb : Binds K fd P__law_threshold []) : ∀ n : Nat, FnOk P w K mg base CX0 (0 + n) f fd P__law_threshold (sp_law_threshold K n)
  | 0 => ⟨fun vs H Q E h => (no_law_threshold h).elim, fun A outer s H args us vs Q E _ _ _ _ h => (no_law_threshold h).elim⟩
  | n + 1 => ok__law_threshold F T  ⟨_, _, all__law_threshold F T   hm hk hb n, hm, hk, hb⟩
theorem ok__law_draw_pool {f : Addr} {fd : FuncData} (F : Fun K "_law_draw_pool" "_law_draw_pool" s__law_draw_pool f fd) (T : Bl mg)  (f__law_threshold : Cal P w K mg base CX0 7 "_law_threshold" P__law_threshold [] (sp_law_threshold K 7)) (f__law_draw_size : Cal P w K mg base CX0 2 "_law_draw_size" P__law_draw_size [] (sp_law_draw_size K)) (f__law_take : Cal P w K mg base CX0 1 "_law_take" P__law_take [] (sp_law_take K)) (f__law_draw_tree : Cal P w K mg base CX0 5 "_law_draw_tree" P__law_draw_tree [] (sp_law_draw_tree K 3)) : FnOk P w K mg base CX0 8 f fd P__law_draw_pool (sp_law_draw_pool K C) := by
  obtain ⟨t_AROUND, g_AROUND⟩ := T.g_AROUND
  obtain ⟨t_GUIDE, g_GUIDE⟩ := T.g_GUIDE
  obtain ⟨t_HOUSE, g_HOUSE⟩ := T.g_HOUSE
  obtain ⟨t_KIND, g_KIND⟩ := T.g_KIND
  obtain ⟨t_LONGEST_NAME, g_LONGEST_NAME⟩ := T.g_LONGEST_NAME
  obtain ⟨t_MOST, g_MOST⟩ := T.g_MOST
  obtain ⟨t_MOST_BY, g_MOST_BY⟩ := T.g_MOST_BY
  obtain ⟨t_MOST_GROUPS, g_MOST_GROUPS⟩ := T.g_MOST_GROUPS
  obtain ⟨t_MOST_LEAVES, g_MOST_LEAVES⟩ := T.g_MOST_LEAVES
  obtain ⟨t_MOST_STREAMS, g_MOST_STREAMS⟩ := T.g_MOST_STREAMS
  obtain ⟨t_PIPE, g_PIPE⟩ := T.g_PIPE
  refine F.ok sc__law_draw_pool (fun vs H Q E h => ln_law_draw_pool h) (fun cdv A outer s H vs Q E hr h => ⟨t_law_draw_pool K, ?_, rd_law_draw_pool  h⟩)
  exact (pss_cons (ps_set (i := 3) sc__law_draw_pool.nd rfl (Or.inl rfl) (pe_cal f__law_draw_tree hr pass0 (pa_cons (pv 0) (pa_cons (pv 1) (pa_cons (pv 2) (pa_cons pe_int pa_nil))))))
    (pss_cons (ps_set (i := 4) sc__law_draw_pool.nd rfl (Or.inl rfl) (pe_ix ix_seq (pe_lst (pa_cons pe_str (pa_cons pe_str (pa_cons pe_str (pa_cons pe_str pa_nil))))) (pe_cal f__law_take hr pass0 (pa_cons (pv 0) (pa_cons pe_int pa_nil))) (fun _ _ => rfl)))
    (pss_cons (ps_set (i := 5) sc__law_draw_pool.nd rfl (Or.inl rfl) (pe_cal f__law_draw_size hr pass0 (pa_cons (pv 0) (pa_cons (pv 1) (pa_cons (pv 2) pa_nil)))))
    (Evl.pss_cut (ps_if (pt_cmpR (opEq hr.units) (pv 4) pe_str (nomark _)) (pss_one (ps_aug (i := 5) sc__law_draw_pool.nd rfl (Or.inl rfl) (pe_op opSub (pe_cal f__law_threshold hr pass0 (pa_cons (pv 3) pa_nil)) pe_int) ip_add)) pss_nil)
    (pss_one (ps_ret (pe_tup (pa_cons (pv 5) (pa_cons (pv 3) (pa_cons (pv 4) pa_nil))))))))))
theorem ok__law_deep_parts {f : Addr} {fd : FuncData} (F : Fun K "_law_deep_parts" "_law_deep_parts" s__law_deep_parts f fd) (T : Bl mg)  (f__law_take : Cal P w K mg base CX0 1 "_law_take" P__law_take [] (sp_law_take K)) (f__law_draw_pool : Cal P w K mg base CX0 8 "_law_draw_pool" P__law_draw_pool [] (sp_law_draw_pool K C)) : FnOk P w K mg base CX0 9 f fd P__law_deep_parts (sp_law_deep_parts K C) := by
  obtain ⟨t_AROUND, g_AROUND⟩ := T.g_AROUND
  obtain ⟨t_GUIDE, g_GUIDE⟩ := T.g_GUIDE
  obtain ⟨t_HOUSE, g_HOUSE⟩ := T.g_HOUSE
  obtain ⟨t_KIND, g_KIND⟩ := T.g_KIND
  obtain ⟨t_LONGEST_NAME, g_LONGEST_NAME⟩ := T.g_LONGEST_NAME
  obtain ⟨t_MOST, g_MOST⟩ := T.g_MOST
  obtain ⟨t_MOST_BY, g_MOST_BY⟩ := T.g_MOST_BY
  obtain ⟨t_MOST_GROUPS, g_MOST_GROUPS⟩ := T.g_MOST_GROUPS
  obtain ⟨t_MOST_LEAVES, g_MOST_LEAVES⟩ := T.g_MOST_LEAVES
  obtain ⟨t_MOST_STREAMS, g_MOST_STREAMS⟩ := T.g_MOST_STREAMS
  obtain ⟨t_PIPE, g_PIPE⟩ := T.g_PIPE
  refine F.ok sc__law_deep_parts (fun vs H Q E h => ln_law_deep_parts h) (fun cdv A outer s H vs Q E hr h => ⟨t_law_deep_parts K C, ?_, rd_law_deep_parts  h⟩)
  exact (pss_cons (ps_asg (pe_tup (pa_cons (pe_op opAdd (pe_lst (pa_cons pe_str pa_nil)) (pe_callTy (call_keysL rfl) rfl T.b_list Pk.boot_t_list (pa_cons (pe_dget (hu_of hr) (pv 1) pe_str (fun _ _ => rfl)) pa_nil))) (pa_cons (pe_cal f__law_take hr pass0 (pa_cons (pv 0) (pa_cons pe_int pa_nil))) (pa_cons (pe_disp (pps_cons pe_str (pe_dget (hu_of hr) (pv 1) pe_str (fun _ _ => rfl)) pps_nil) rfl rfl nofun (by decide)) pa_nil)))) (pg_tup rfl (pgs_cons (pg_name (i := 2) sc__law_deep_parts.nd rfl (Or.inr rfl)) (pgs_cons (pg_name (i := 3) sc__law_deep_parts.nd rfl (Or.inl rfl)) (pgs_cons (pg_name (i := 4) sc__law_deep_parts.nd rfl (Or.inl rfl)) pgs_nil)))))
    (pss_cons (ps_setLc (i := 5) (own := [("_law_letter", 14)]) (g := (gName 14)) (tt := tYes) rfl sc__law_deep_parts.nd rfl rfl (sw_true rfl rfl rfl (by decide +kernel)) (pi_str pe_str) (blkOk_by (N := N__law_deep_parts) (own := [("_law_letter", 14)]) (sc := defScope s__law_deep_parts) (by decide +kernel)) (fun _ _ _ _ _ => (pg_name (i := 14) sc__law_deep_parts.nd rfl (Or.inl rfl))) (fun _ _ _ _ _ => pts_nil) (fun _ _ _ _ _ => (pe_op opAdd (pv 14) pe_str)))
    (pss_cons (ps_set (i := 7) sc__law_deep_parts.nd rfl (Or.inl rfl) (pe_slice slU (pe_lc (own := [("_law_name", 6)]) (g := (gName 6)) (tt := (tTest (tOp (rNotInU K) (tVar 6) (tVar 2)))) rfl sc__law_deep_parts.nd (pi_list (pv 5)) (blkOk_by (N := N__law_deep_parts) (own := [("_law_name", 6)]) (sc := defScope s__law_deep_parts) (by decide +kernel)) (fun _ _ _ _ _ => (pg_name (i := 6) sc__law_deep_parts.nd rfl (Or.inl rfl))) (fun _ _ _ _ _ => (pts_one (pt_cmpR opNotIn (pv 6) (pv 2) rfl))) (fun _ _ _ _ _ => (pv 6))) po_none (po_some pe_int)))
    (pss_cons (ps_par (i := 8) (j := 9) (by rfl) sc__law_deep_parts.nd rfl rfl (by decide) rfl rfl (pa_cons pe_dnewK (pa_cons pe_dnewK pa_nil)) (by rfl))
    (pss_cons (ps_for PassesOwn.never rfl (pi_range1 rfl T.b_range (pa_cons pe_int pa_nil)) (pg_name (i := 10) sc__law_deep_parts.nd rfl (Or.inl rfl)) (pss_cons (ps_set (i := 11) sc__law_deep_parts.nd rfl (Or.inl rfl) (pe_ifExp (PW.pt (pw_and (pt_cmpR opGt (pv 10) pe_int (nomark _)) (pw_and1 (pt_cmpR opGt (pe_cal f__law_take hr pass0 (pa_cons (pv 0) (pa_cons pe_int pa_nil))) pe_int (nomark _))))) (pe_ix ix_seq (pv 7) (pe_op opSub (pv 10) pe_int) (fun _ _ => rfl)) pe_non))
    (pss_one (ps_asg (pe_op opAdd (pe_cal f__law_draw_pool hr pass0 (pa_cons (pv 0) (pa_cons pe_int (pa_cons pe_int pa_nil)))) (pe_tup (pa_cons (pv 11) pa_nil))) (pg_sub (pv 8) (pe_ix ix_seq (pv 7) (pv 10) (fun _ _ => rfl)) (set_dict (hu_of hr)))))))
    (pss_cons (ps_lock (ps_for PassesOwn.never rfl (pi_keys (pe_dget (hu_of hr) (pv 1) pe_str (fun _ _ => rfl))) (pg_name (i := 6) sc__law_deep_parts.nd rfl (Or.inl rfl)) (pss_cons (ps_set (i := 12) sc__law_deep_parts.nd rfl (Or.inl rfl) (pe_ix ix_seq (pv 7) (pe_cal f__law_take hr pass0 (pa_cons (pv 0) (pa_cons pe_int pa_nil))) (fun _ _ => rfl)))
    (pss_cons (ps_set (i := 13) sc__law_deep_parts.nd rfl (Or.inl rfl) (pe_ix ix_seq (pe_lst (pa_cons (pe_tup (pa_cons (pv 12) (pa_cons pe_non pa_nil))) (pa_cons (pe_tup (pa_cons pe_non (pa_cons (pv 12) pa_nil))) pa_nil))) (pv 3) (fun _ _ => rfl)))
    (pss_one (ps_asg (pe_op opAdd (pe_op opAdd (pe_slice slU (pe_dget (hu_of hr) (pe_dget (hu_of hr) (pv 1) pe_str (fun _ _ => rfl)) (pv 6) (fun _ _ => rfl)) po_none (po_some pe_int)) (pv 13)) (pe_tup (pa_cons pe_non pa_nil))) (pg_sub (pv 9) (pv 6) (set_dict (hu_of hr)))))))))
    (pss_cons (ps_asg (pe_tup (pa_cons (pe_ix ix_seq (pe_lst (pa_cons (pv 8) (pa_cons pe_dnewK pa_nil))) (pv 3) (fun _ _ => rfl)) (pa_cons (pe_ix ix_seq (pe_lst (pa_cons pe_dnewK (pa_cons (pv 8) pa_nil))) (pv 3) (fun _ _ => rfl)) (pa_cons (pv 9) pa_nil)))) (pg_tup rfl (pgs_cons (pg_sub (pv 4) pe_str (set_dict (hu_of hr))) (pgs_cons (pg_sub (pv 4) pe_str (set_dict (hu_of hr))) (pgs_cons (pg_sub (pv 4) pe_str (set_dict (hu_of hr))) pgs_nil)))))
    (pss_one (ps_ret (pv 4))))))))))
theorem ok__law_draw_groups {f : Addr} {fd : FuncData} (F : Fun K "_law_draw_groups" "_law_draw_groups" s__law_draw_groups f fd) (T : Bl mg)  (f__law_draw_pool : Cal P w K mg base CX0 8 "_law_draw_pool" P__law_draw_pool [] (sp_law_draw_pool K C)) (f__law_take : Cal P w K mg base CX0 1 "_law_take" P__law_take [] (sp_law_take K)) : FnOk P w K mg base CX0 9 f fd P__law_draw_groups (sp_law_draw_groups K C) := by
  obtain ⟨t_AROUND, g_AROUND⟩ := T.g_AROUND
  obtain ⟨t_GUIDE, g_GUIDE⟩ := T.g_GUIDE
  obtain ⟨t_HOUSE, g_HOUSE⟩ := T.g_HOUSE
  obtain ⟨t_KIND, g_KIND⟩ := T.g_KIND
  obtain ⟨t_LONGEST_NAME, g_LONGEST_NAME⟩ := T.g_LONGEST_NAME
  obtain ⟨t_MOST, g_MOST⟩ := T.g_MOST
  obtain ⟨t_MOST_BY, g_MOST_BY⟩ := T.g_MOST_BY
  obtain ⟨t_MOST_GROUPS, g_MOST_GROUPS⟩ := T.g_MOST_GROUPS
  obtain ⟨t_MOST_LEAVES, g_MOST_LEAVES⟩ := T.g_MOST_LEAVES
  obtain ⟨t_MOST_STREAMS, g_MOST_STREAMS⟩ := T.g_MOST_STREAMS
  obtain ⟨t_PIPE, g_PIPE⟩ := T.g_PIPE
  refine F.ok sc__law_draw_groups (fun vs H Q E h => ln_law_draw_groups h) (fun cdv A outer s H vs Q E hr h => ⟨t_law_draw_groups K C, ?_, rd_law_draw_groups  h⟩)
  exact (pss_cons (ps_set (i := 4) sc__law_draw_groups.nd rfl (Or.inl rfl) pe_dnewK)
    (pss_cons (ps_for PassesOwn.never rfl (pi_list (pv 1)) (pg_name (i := 5) sc__law_draw_groups.nd rfl (Or.inl rfl)) (pss_cons (ps_set (i := 6) sc__law_draw_groups.nd rfl (Or.inl rfl) (pe_ix ix_seq (pe_op opAdd (pe_lst (pa_cons pe_non pa_nil)) (pe_callTy (call_keysL rfl) rfl T.b_list Pk.boot_t_list (pa_cons (pv 4) pa_nil))) (pe_cal f__law_take hr pass0 (pa_cons (pv 0) (pa_cons (pe_op opAdd (pe_callB call_lenR rfl T.b_len Pk.boot_len (pa_cons (pv 4) pa_nil)) pe_int) pa_nil))) (fun _ _ => rfl)))
    (pss_one (ps_asg (pe_op opAdd (pe_cal f__law_draw_pool hr pass0 (pa_cons (pv 0) (pa_cons (pv 2) (pa_cons (pv 3) pa_nil)))) (pe_tup (pa_cons (pv 6) pa_nil))) (pg_sub (pv 4) (pv 5) (set_dict (hu_of hr)))))))
    (pss_one (ps_ret (pv 4)))))
theorem ok__law_draw_names {f : Addr} {fd : FuncData} (F : Fun K "_law_draw_names" "_law_draw_names" s__law_draw_names f fd) (T : Bl mg)  (f__law_take : Cal P w K mg base CX0 1 "_law_take" P__law_take [] (sp_law_take K)) : FnOk P w K mg base CX0 2 f fd P__law_draw_names (sp_law_draw_names K) := by
  obtain ⟨t_AROUND, g_AROUND⟩ := T.g_AROUND
  obtain ⟨t_GUIDE, g_GUIDE⟩ := T.g_GUIDE
  obtain ⟨t_HOUSE, g_HOUSE⟩ := T.g_HOUSE
  obtain ⟨t_KIND, g_KIND⟩ := T.g_KIND
  obtain ⟨t_LONGEST_NAME, g_LONGEST_NAME⟩ := T.g_LONGEST_NAME
  obtain ⟨t_MOST, g_MOST⟩ := T.g_MOST
  obtain ⟨t_MOST_BY, g_MOST_BY⟩ := T.g_MOST_BY
  obtain ⟨t_MOST_GROUPS, g_MOST_GROUPS⟩ := T.g_MOST_GROUPS
  obtain ⟨t_MOST_LEAVES, g_MOST_LEAVES⟩ := T.g_MOST_LEAVES
  obtain ⟨t_MOST_STREAMS, g_MOST_STREAMS⟩ := T.g_MOST_STREAMS
  obtain ⟨t_PIPE, g_PIPE⟩ := T.g_PIPE
  refine F.ok sc__law_draw_names (fun vs H Q E h => ln_law_draw_names h) (fun cdv A outer s H vs Q E hr h => ⟨t_law_draw_names K, ?_, rd_law_draw_names  h⟩)
  exact (pss_cons (ps_set (i := 2) sc__law_draw_names.nd rfl (Or.inr rfl) pe_str)
    (pss_cons (ps_set (i := 3) sc__law_draw_names.nd rfl (Or.inl rfl) pe_str)
    (pss_cons (ps_asg (pe_tup (pa_cons (pe_split (pv 3) pe_str) (pa_cons (pe_cal f__law_take hr pass0 (pa_cons (pv 0) (pa_cons pe_int pa_nil))) (pa_cons (pe_cal f__law_take hr pass0 (pa_cons (pv 0) (pa_cons pe_int pa_nil))) pa_nil)))) (pg_tup rfl (pgs_cons (pg_name (i := 3) sc__law_draw_names.nd rfl (Or.inl rfl)) (pgs_cons (pg_name (i := 4) sc__law_draw_names.nd rfl (Or.inl rfl)) (pgs_cons (pg_name (i := 5) sc__law_draw_names.nd rfl (Or.inr rfl)) pgs_nil)))))
    (pss_cons (ps_set (i := 6) sc__law_draw_names.nd rfl (Or.inr rfl) (pe_join pe_str (pe_lc (own := [("_law_k", 8)]) (g := (gName 8)) (tt := tYes) rfl sc__law_draw_names.nd (pi_range1 rfl T.b_range (pa_cons (pe_cal f__law_take hr pass0 (pa_cons (pv 0) (pa_cons pe_int pa_nil))) pa_nil)) (blkOk_by (N := N__law_draw_names) (own := [("_law_k", 8)]) (sc := defScope s__law_draw_names) (by decide +kernel)) (fun _ _ _ _ _ => (pg_name (i := 8) sc__law_draw_names.nd rfl (Or.inl rfl))) (fun _ _ _ _ _ => pts_nil) (fun _ _ _ _ _ => (pe_ix ix_seq (pv 2) (pe_cal f__law_take hr pass0 (pa_cons (pv 0) (pa_cons pe_int pa_nil))) (fun _ _ => rfl))))))
    (pss_cons (ps_setLc (i := 7) (own := [("_law_k", 8)]) (g := (gName 8)) (tt := tYes) rfl sc__law_draw_names.nd rfl rfl (sw_true rfl rfl rfl (by decide +kernel)) (pi_range1 rfl T.b_range (pa_cons (pv 1) pa_nil)) (blkOk_by (N := N__law_draw_names) (own := [("_law_k", 8)]) (sc := defScope s__law_draw_names) (by decide +kernel)) (fun _ _ _ _ _ => (pg_name (i := 8) sc__law_draw_names.nd rfl (Or.inl rfl))) (fun _ _ _ _ _ => pts_nil) (fun _ _ _ _ _ => (pe_op opAdd (pv 6) (pe_ix ix_seq (pv 2) (pe_op opMod (pe_callTy callInt rfl T.b_int Pk.boot_t_int (pa_cons (pe_op opAdd (pv 5) (pe_op opMul pe_int (pv 8))) pa_nil)) pe_int) (fun _ _ => rfl)))))
    (Evl.pss_cut (ps_if (pt_cmpR (opEq hr.units) (pv 4) pe_int (nomark _)) (pss_one (ps_set (i := 7) sc__law_draw_names.nd rfl (Or.inl rfl) (pe_slice slU (pe_op opAdd (pe_slice slU (pv 3) (po_some (pv 5)) po_none) (pe_slice slU (pv 3) po_none (po_some (pv 5)))) po_none (po_some (pv 1))))) pss_nil)
    (Evl.pss_cut (ps_if (pt_cmpR (opEq hr.units) (pv 4) pe_int (nomark _)) (pss_one (ps_setLc (i := 7) (own := [("_law_k", 8)]) (g := (gName 8)) (tt := tYes) rfl sc__law_draw_names.nd rfl rfl (sw_true rfl rfl rfl (by decide +kernel)) (pi_range1 rfl T.b_range (pa_cons (pv 1) pa_nil)) (blkOk_by (N := N__law_draw_names) (own := [("_law_k", 8)]) (sc := defScope s__law_draw_names) (by decide +kernel)) (fun _ _ _ _ _ => (pg_name (i := 8) sc__law_draw_names.nd rfl (Or.inl rfl))) (fun _ _ _ _ _ => pts_nil) (fun _ _ _ _ _ => (pe_op opAdd (pe_ix ix_seq (pv 2) (pe_op opMod (pe_callTy callInt rfl T.b_int Pk.boot_t_int (pa_cons (pe_op opAdd (pv 5) (pe_op opMul pe_int (pv 8))) pa_nil)) pe_int) (fun _ _ => rfl)) (pe_slice sl_str (pv 6) po_none (po_some (pe_op opMod (pe_callTy callInt rfl T.b_int Pk.boot_t_int (pa_cons (pe_op opAdd (pv 5) (pv 8)) pa_nil)) pe_int))))))) pss_nil)
    (pss_one (ps_ret (pe_lc (own := [("_law_name", 9)]) (g := (gName 9)) (tt := tYes) rfl sc__law_draw_names.nd (pi_list (pv 7)) (blkOk_by (N := N__law_draw_names) (own := [("_law_name", 9)]) (sc := defScope s__law_draw_names) (by decide +kernel)) (fun _ _ _ _ _ => (pg_name (i := 9) sc__law_draw_names.nd rfl (Or.inl rfl))) (fun _ _ _ _ _ => pts_nil) (fun _ _ _ _ _ => (pe_op opAdd (pv 9) (pe_op opMul pe_str (pe_callTy callInt rfl T.b_int Pk.boot_t_int (pa_cons (pe_cmpR (opEq hr.units) (pv 9) pe_str (nomark _)) pa_nil)))))))))))))))
theorem ok__law_draw_stream {f : Addr} {fd : FuncData} (F : Fun K "_law_draw_stream" "_law_draw_stream" s__law_draw_stream f fd) (T : Bl mg)  (f__law_threshold : Cal P w K mg base CX0 7 "_law_threshold" P__law_threshold [] (sp_law_threshold K 7)) (f__law_draw_size : Cal P w K mg base CX0 2 "_law_draw_size" P__law_draw_size [] (sp_law_draw_size K)) (f__law_take : Cal P w K mg base CX0 1 "_law_take" P__law_take [] (sp_law_take K)) (f__law_draw_tree : Cal P w K mg base CX0 5 "_law_draw_tree" P__law_draw_tree [] (sp_law_draw_tree K 3)) : FnOk P w K mg base CX0 8 f fd P__law_draw_stream (sp_law_draw_stream K C) := by
  obtain ⟨t_AROUND, g_AROUND⟩ := T.g_AROUND
  obtain ⟨t_GUIDE, g_GUIDE⟩ := T.g_GUIDE
  obtain ⟨t_HOUSE, g_HOUSE⟩ := T.g_HOUSE
  obtain ⟨t_KIND, g_KIND⟩ := T.g_KIND
  obtain ⟨t_LONGEST_NAME, g_LONGEST_NAME⟩ := T.g_LONGEST_NAME
  obtain ⟨t_MOST, g_MOST⟩ := T.g_MOST
  obtain ⟨t_MOST_BY, g_MOST_BY⟩ := T.g_MOST_BY
  obtain ⟨t_MOST_GROUPS, g_MOST_GROUPS⟩ := T.g_MOST_GROUPS
  obtain ⟨t_MOST_LEAVES, g_MOST_LEAVES⟩ := T.g_MOST_LEAVES
  obtain ⟨t_MOST_STREAMS, g_MOST_STREAMS⟩ := T.g_MOST_STREAMS
  obtain ⟨t_PIPE, g_PIPE⟩ := T.g_PIPE
  refine F.ok sc__law_draw_stream (fun vs H Q E h => ln_law_draw_stream h) (fun cdv A outer s H vs Q E hr h => ⟨t_law_draw_stream K, ?_, rd_law_draw_stream  h⟩)
  exact (pss_cons (ps_set (i := 4) sc__law_draw_stream.nd rfl (Or.inl rfl) (pe_ix ix_seq (pe_op opAdd (pe_lst (pa_cons pe_non pa_nil)) (pe_callTy (call_keysL rfl) rfl T.b_list Pk.boot_t_list (pa_cons (pe_dget (hu_of hr) (pv 1) pe_str (fun _ _ => rfl)) pa_nil))) (pe_cal f__law_take hr pass0 (pa_cons (pv 0) (pa_cons (pe_op opAdd (pe_callB call_lenR rfl T.b_len Pk.boot_len (pa_cons (pe_dget (hu_of hr) (pv 1) pe_str (fun _ _ => rfl)) pa_nil)) pe_int) pa_nil))) (fun _ _ => rfl)))
    (pss_cons (ps_set (i := 5) sc__law_draw_stream.nd rfl (Or.inl rfl) (pe_ix ix_seq (pe_op opAdd (pe_lst (pa_cons pe_non pa_nil)) (pe_callTy (call_keysL rfl) rfl T.b_list Pk.boot_t_list (pa_cons (pe_dget (hu_of hr) (pv 1) pe_str (fun _ _ => rfl)) pa_nil))) (pe_cal f__law_take hr pass0 (pa_cons (pv 0) (pa_cons (pe_op opAdd (pe_callB call_lenR rfl T.b_len Pk.boot_len (pa_cons (pe_dget (hu_of hr) (pv 1) pe_str (fun _ _ => rfl)) pa_nil)) pe_int) pa_nil))) (fun _ _ => rfl)))
    (pss_cons (ps_lockN (ps_setLc (i := 6) (own := [("_law_name", 11)]) (g := (gName 11)) (tt := (tTest (tOp (rIsNn) (tOp (rIx K) (tDGet (tDGet (tVar 1) (tC (.str "streams"))) (tVar 11)) (tC (.int 5))) (tC .non)))) rfl sc__law_draw_stream.nd rfl rfl (sw_true rfl rfl rfl (by decide +kernel)) (pi_keys (pe_dget (hu_of hr) (pv 1) pe_str (fun _ _ => rfl))) (blkOk_by (N := N__law_draw_stream) (own := [("_law_name", 11)]) (sc := defScope s__law_draw_stream) (by decide +kernel)) (fun _ _ _ _ _ => (pg_name (i := 11) sc__law_draw_stream.nd rfl (Or.inl rfl))) (fun _ _ _ _ _ => (pts_one (pt_cmpR opIsN (pe_ix ix_seq (pe_dget (hu_of hr) (pe_dget (hu_of hr) (pv 1) pe_str (fun _ _ => rfl)) (pv 11) (fun _ _ => rfl)) pe_int (fun _ _ => rfl)) pe_non (nomark _)))) (fun _ _ _ _ _ => (pv 11))))
    (pss_cons (ps_par (i := 7) (j := 8) (by rfl) sc__law_draw_stream.nd rfl rfl (by decide) rfl rfl (pa_cons pe_non (pa_cons (pe_cal f__law_draw_tree hr pass0 (pa_cons (pv 0) (pa_cons (pv 2) (pa_cons (pv 3) (pa_cons pe_int pa_nil))))) pa_nil)) (by rfl))
    (Evl.pss_cut (ps_if (PW.pt (pw_and (pt_cmpR (opNe hr.units) (pv 6) (pe_lst pa_nil) (nomark _)) (pw_and1 (pt_cmpR (opEq hr.units) (pe_cal f__law_take hr pass0 (pa_cons (pv 0) (pa_cons pe_int pa_nil))) pe_int (nomark _))))) (pss_cons (ps_set (i := 7) sc__law_draw_stream.nd rfl (Or.inl rfl) (pe_ix ix_seq (pv 6) (pe_cal f__law_take hr pass0 (pa_cons (pv 0) (pa_cons (pe_callB callLen rfl T.b_len Pk.boot_len (pa_cons (pv 6) pa_nil)) pa_nil))) (fun _ _ => rfl)))
    (pss_one (ps_asg (pe_slice slU (pe_dget (hu_of hr) (pe_dget (hu_of hr) (pv 1) pe_str (fun _ _ => rfl)) (pv 7) (fun _ _ => rfl)) (po_some pe_int) (po_some pe_int)) (pg_tup rfl (pgs_cons (pg_name (i := 4) sc__law_draw_stream.nd rfl (Or.inl rfl)) (pgs_cons (pg_name (i := 5) sc__law_draw_stream.nd rfl (Or.inl rfl)) pgs_nil)))))) pss_nil)
    (pss_cons (ps_set (i := 9) sc__law_draw_stream.nd rfl (Or.inl rfl) (pe_ix ix_seq (pe_lst (pa_cons pe_non (pa_cons (pe_cal f__law_draw_size hr pass0 (pa_cons (pv 0) (pa_cons (pv 2) (pa_cons (pv 3) pa_nil)))) (pa_cons (pe_op opAdd pe_int (pe_cal f__law_take hr pass0 (pa_cons (pv 0) (pa_cons pe_int pa_nil)))) pa_nil)))) (pe_cal f__law_take hr pass0 (pa_cons (pv 0) (pa_cons pe_int pa_nil))) (fun _ _ => rfl)))
    (pss_cons (ps_set (i := 10) sc__law_draw_stream.nd rfl (Or.inl rfl) (pe_op opAdd (pe_op opSub (pe_op opAdd (pe_cal f__law_threshold hr pass0 (pa_cons (pv 8) pa_nil)) (pe_orT (pv 9) (pe_one pe_int))) pe_int) (pe_cal f__law_draw_size hr pass0 (pa_cons (pv 0) (pa_cons (pv 2) (pa_cons (pv 3) pa_nil))))))
    (pss_one (ps_ret (pe_tup (pa_cons (pv 10) (pa_cons (pv 8) (pa_cons (pv 9) (pa_cons (pv 4) (pa_cons (pv 5) (pa_cons (pv 7) pa_nil))))))))))))))))
theorem ok__law_mixed {f : Addr} {fd : FuncData} (F : Fun K "_law_mixed" "_law_mixed" s__law_mixed f fd) (T : Bl mg)  (f__law_take : Cal P w K mg base CX0 1 "_law_take" P__law_take [] (sp_law_take K)) : FnOk P w K mg base CX0 2 f fd P__law_mixed (sp_law_mixed K) := by
  obtain ⟨t_AROUND, g_AROUND⟩ := T.g_AROUND
  obtain ⟨t_GUIDE, g_GUIDE⟩ := T.g_GUIDE
  obtain ⟨t_HOUSE, g_HOUSE⟩ := T.g_HOUSE
  obtain ⟨t_KIND, g_KIND⟩ := T.g_KIND
  obtain ⟨t_LONGEST_NAME, g_LONGEST_NAME⟩ := T.g_LONGEST_NAME
  obtain ⟨t_MOST, g_MOST⟩ := T.g_MOST
  obtain ⟨t_MOST_BY, g_MOST_BY⟩ := T.g_MOST_BY
  obtain ⟨t_MOST_GROUPS, g_MOST_GROUPS⟩ := T.g_MOST_GROUPS
  obtain ⟨t_MOST_LEAVES, g_MOST_LEAVES⟩ := T.g_MOST_LEAVES
  obtain ⟨t_MOST_STREAMS, g_MOST_STREAMS⟩ := T.g_MOST_STREAMS
  obtain ⟨t_PIPE, g_PIPE⟩ := T.g_PIPE
  refine F.ok sc__law_mixed (fun vs H Q E h => ln_law_mixed h) (fun cdv A outer s H vs Q E hr h => ⟨t_law_mixed K, ?_, rd_law_mixed  h⟩)
  exact (pss_cons (ps_set (i := 2) sc__law_mixed.nd rfl (Or.inl rfl) (pe_lst pa_nil))
    (pss_cons (ps_for PassesOwn.never rfl (pi_list (pv 1)) (pg_name (i := 3) sc__law_mixed.nd rfl (Or.inl rfl)) (pss_one (ps_expr (pe_bm PySem.F.plainAttrs_list PySem.F.slot_list_insert PySem.F.type_list_insert mt_ins (pv 2) (pa_cons (pe_cal f__law_take hr pass0 (pa_cons (pv 0) (pa_cons (pe_op opAdd (pe_callB callLen rfl T.b_len Pk.boot_len (pa_cons (pv 2) pa_nil)) pe_int) pa_nil))) (pa_cons (pv 3) pa_nil))))))
    (pss_one (ps_ret (pv 2)))))
theorem ok__law_draw_parts {f : Addr} {fd : FuncData} (F : Fun K "_law_draw_parts" "_law_draw_parts" s__law_draw_parts f fd) (T : Bl mg)  (f__law_draw_stream : Cal P w K mg base CX0 8 "_law_draw_stream" P__law_draw_stream [] (sp_law_draw_stream K C)) (f__law_draw_groups : Cal P w K mg base CX0 9 "_law_draw_groups" P__law_draw_groups [] (sp_law_draw_groups K C)) (f__law_draw_pool : Cal P w K mg base CX0 8 "_law_draw_pool" P__law_draw_pool [] (sp_law_draw_pool K C)) (f__law_take : Cal P w K mg base CX0 1 "_law_take" P__law_take [] (sp_law_take K)) (f__law_draw_names : Cal P w K mg base CX0 2 "_law_draw_names" P__law_draw_names [] (sp_law_draw_names K)) (f__law_mixed : Cal P w K mg base CX0 2 "_law_mixed" P__law_mixed [] (sp_law_mixed K)) : FnOk P w K mg base CX0 10 f fd P__law_draw_parts (sp_law_draw_parts K C) := by
  obtain ⟨t_AROUND, g_AROUND⟩ := T.g_AROUND
  obtain ⟨t_GUIDE, g_GUIDE⟩ := T.g_GUIDE
  obtain ⟨t_HOUSE, g_HOUSE⟩ := T.g_HOUSE
  obtain ⟨t_KIND, g_KIND⟩ := T.g_KIND
  obtain ⟨t_LONGEST_NAME, g_LONGEST_NAME⟩ := T.g_LONGEST_NAME
  obtain ⟨t_MOST, g_MOST⟩ := T.g_MOST
  obtain ⟨t_MOST_BY, g_MOST_BY⟩ := T.g_MOST_BY
  obtain ⟨t_MOST_GROUPS, g_MOST_GROUPS⟩ := T.g_MOST_GROUPS
  obtain ⟨t_MOST_LEAVES, g_MOST_LEAVES⟩ := T.g_MOST_LEAVES
  obtain ⟨t_MOST_STREAMS, g_MOST_STREAMS⟩ := T.g_MOST_STREAMS
  obtain ⟨t_PIPE, g_PIPE⟩ := T.g_PIPE
  refine F.ok sc__law_draw_parts (fun vs H Q E h => ln_law_draw_parts h) (fun cdv A outer s H vs Q E hr h => ⟨t_law_draw_parts K C, ?_, rd_law_draw_parts  h⟩)
  exact (pss_cons (ps_set (i := 4) sc__law_draw_parts.nd rfl (Or.inl rfl) (pe_callTy callInt rfl T.b_int Pk.boot_t_int (pa_cons (pe_op opAdd pe_str (pe_op opMul pe_str (pe_op opMul (pe_cal f__law_take hr pass0 (pa_cons (pv 0) (pa_cons pe_int pa_nil))) (pe_cal f__law_take hr pass0 (pa_cons (pv 0) (pa_cons pe_int pa_nil)))))) pa_nil)))
    (pss_cons (ps_par (i := 5) (j := 6) (by rfl) sc__law_draw_parts.nd rfl rfl (by decide) rfl rfl (pa_cons (pe_op opAdd pe_int (pe_cal f__law_take hr pass0 (pa_cons (pv 0) (pa_cons (pv 1) pa_nil)))) (pa_cons (pe_cal f__law_mixed hr pass0 (pa_cons (pv 0) (pa_cons (pe_cal f__law_draw_names hr pass0 (pa_cons (pv 0) (pa_cons pe_int pa_nil))) pa_nil))) pa_nil)) (by rfl))
    (pss_cons (ps_par (i := 7) (j := 8) (by rfl) sc__law_draw_parts.nd rfl rfl (by decide) rfl rfl (pa_cons (pe_cal f__law_take hr pass0 (pa_cons (pv 0) (pa_cons (pe_op opAdd (pv 2) pe_int) pa_nil))) (pa_cons (pe_cal f__law_take hr pass0 (pa_cons (pv 0) (pa_cons (pe_op opAdd (pv 2) pe_int) pa_nil))) pa_nil)) (by rfl))
    (pss_cons (ps_set (i := 9) sc__law_draw_parts.nd rfl (Or.inl rfl) (pe_disp (pps_cons pe_str (pe_cal f__law_draw_pool hr pass0 (pa_cons (pv 0) (pa_cons (pv 3) (pa_cons (pv 4) pa_nil)))) (pps_cons pe_str pe_dnewK pps_nil)) rfl rfl nofun (by decide)))
    (pss_cons (ps_asg (pe_cal f__law_draw_groups hr pass0 (pa_cons (pv 0) (pa_cons (pe_slice slU (pv 6) (po_some pe_int) (po_some (pe_op opAdd pe_int (pv 7)))) (pa_cons (pv 3) (pa_cons (pv 4) pa_nil))))) (pg_sub (pv 9) pe_str (set_dict (hu_of hr))))
    (pss_cons (ps_asg (pe_cal f__law_draw_groups hr pass0 (pa_cons (pv 0) (pa_cons (pe_slice slU (pv 6) (po_some pe_int) (po_some (pe_op opAdd pe_int (pv 8)))) (pa_cons (pv 3) (pa_cons (pv 4) pa_nil))))) (pg_sub (pv 9) pe_str (set_dict (hu_of hr))))
    (pss_cons (ps_for PassesOwn.never rfl (pi_list (pe_slice slU (pv 6) po_none (po_some (pv 5)))) (pg_name (i := 10) sc__law_draw_parts.nd rfl (Or.inl rfl)) (pss_one (ps_asg (pe_cal f__law_draw_stream hr pass0 (pa_cons (pv 0) (pa_cons (pv 9) (pa_cons (pv 3) (pa_cons (pv 4) pa_nil))))) (pg_sub (pe_dget (hu_of hr) (pv 9) pe_str (fun _ _ => rfl)) (pv 10) (set_dict (hu_of hr))))))
    (pss_one (ps_ret (pv 9))))))))))
theorem ok_threshold_of {n : Nat} {f : Addr} {fd : FuncData} (F : Fun K "threshold_of" "threshold_of" s_threshold_of f fd) (T : Bl mg)  (f_threshold_of : Cal P w K mg base CX0 (0 + n) "threshold_of" P_threshold_of [] (sp_threshold_of K n)) : FnOk P w K mg base CX0 (0 + n + 1) f fd P_threshold_of (sp_threshold_of K (n + 1)) := by
  obtain ⟨t_AROUND, g_AROUND⟩ := T.g_AROUND
  obtain ⟨t_GUIDE, g_GUIDE⟩ := T.g_GUIDE
  obtain ⟨t_HOUSE, g_HOUSE⟩ := T.g_HOUSE
  obtain ⟨t_KIND, g_KIND⟩ := T.g_KIND
  obtain ⟨t_LONGEST_NAME, g_LONGEST_NAME⟩ := T.g_LONGEST_NAME
  obtain ⟨t_MOST, g_MOST⟩ := T.g_MOST
  obtain ⟨t_MOST_BY, g_MOST_BY⟩ := T.g_MOST_BY
  obtain ⟨t_MOST_GROUPS, g_MOST_GROUPS⟩ := T.g_MOST_GROUPS
  obtain ⟨t_MOST_LEAVES, g_MOST_LEAVES⟩ := T.g_MOST_LEAVES
  obtain ⟨t_MOST_STREAMS, g_MOST_STREAMS⟩ := T.g_MOST_STREAMS
  obtain ⟨t_PIPE, g_PIPE⟩ := T.g_PIPE
  refine F.ok sc_threshold_of (fun vs H Q E h => ln_threshold_of h) (fun cdv A outer s H vs Q E hr h => ⟨t_threshold_of K n, ?_, rd_threshold_of  h⟩)
  exact (pss_cons (ps_asg (pv 0) (pg_tup rfl (pgs_cons (pg_name (i := 1) sc_threshold_of.nd rfl (Or.inl rfl)) (pgs_cons (pg_name (i := 2) sc_threshold_of.nd rfl (Or.inl rfl)) (pgs_cons (pg_name (i := 3) sc_threshold_of.nd rfl (Or.inl rfl)) pgs_nil)))))
    (pss_cons (ps_if (pt_cmpR (opEq hr.units) (pv 1) pe_str (nomark _)) (pss_one (ps_ret (pe_callB (call_max2 rfl) rfl T.b_max Pk.boot_max (pa_cons (pv 2) (pa_cons (pv 3) pa_nil))))) pss_nil)
    (pss_cons (ps_if (pt_cmpR (opEq hr.units) (pv 1) pe_str (nomark _)) (pss_one (ps_ret (pe_callB (call_min2 rfl) rfl T.b_min Pk.boot_min (pa_cons (pe_cal f_threshold_of hr pass0 (pa_cons (pv 2) pa_nil)) (pa_cons (pe_cal f_threshold_of hr pass0 (pa_cons (pv 3) pa_nil)) pa_nil))))) pss_nil)
    (pss_one (ps_ret (pe_callB (call_max2 rfl) rfl T.b_max Pk.boot_max (pa_cons (pe_cal f_threshold_of hr pass0 (pa_cons (pv 2) pa_nil)) (pa_cons (pe_cal f_threshold_of hr pass0 (pa_cons (pv 3) pa_nil)) pa_nil))))))))
theorem all_threshold_of {f : Addr} {fd : FuncData} (F : Fun K "threshold_of" "threshold_of" s_threshold_of f fd) (T : Bl mg)   (hm : mg "threshold_of" = some (.ref f)) (hk : PySem.W.keepIn K (.ref f) = true) (hb : Binds K fd P_threshold_of []) : ∀ n : Nat, FnOk P w K mg base CX0 (0 + n) f fd P_threshold_of (sp_threshold_of K n)
  | 0 => ⟨fun vs H Q E h => (no_threshold_of h).elim, fun A outer s H args us vs Q E _ _ _ _ h => (no_threshold_of h).elim⟩
  | n + 1 => ok_threshold_of F T  ⟨_, _, all_threshold_of F T   hm hk hb n, hm, hk, hb⟩
theorem ok_Rule_threshold {f : Addr} {fd : FuncData} (F : Fun K "threshold" "Rule.threshold" s_Rule_threshold f fd) (T : Bl mg)  (f_threshold_of : Cal P w K mg base CX0 7 "threshold_of" P_threshold_of [] (sp_threshold_of K 7)) : FnOk P w K mg base CX0 8 f fd P_Rule_threshold (sp_Rule_threshold K C) := by
  obtain ⟨t_AROUND, g_AROUND⟩ := T.g_AROUND
  obtain ⟨t_GUIDE, g_GUIDE⟩ := T.g_GUIDE
  obtain ⟨t_HOUSE, g_HOUSE⟩ := T.g_HOUSE
  obtain ⟨t_KIND, g_KIND⟩ := T.g_KIND
  obtain ⟨t_LONGEST_NAME, g_LONGEST_NAME⟩ := T.g_LONGEST_NAME
  obtain ⟨t_MOST, g_MOST⟩ := T.g_MOST
  obtain ⟨t_MOST_BY, g_MOST_BY⟩ := T.g_MOST_BY
  obtain ⟨t_MOST_GROUPS, g_MOST_GROUPS⟩ := T.g_MOST_GROUPS
  obtain ⟨t_MOST_LEAVES, g_MOST_LEAVES⟩ := T.g_MOST_LEAVES
  obtain ⟨t_MOST_STREAMS, g_MOST_STREAMS⟩ := T.g_MOST_STREAMS
  obtain ⟨t_PIPE, g_PIPE⟩ := T.g_PIPE
  refine F.ok sc_Rule_threshold (fun vs H Q E h => ln_Rule_threshold h) (fun cdv A outer s H vs Q E hr h => ⟨t_Rule_threshold K, ?_, rd_Rule_threshold  h⟩)
  exact (pss_one (ps_ret (pe_cal f_threshold_of hr pass0 (pa_cons (pe_fld (pv 0) rfl) pa_nil))))
theorem ok_is_narrow {f : Addr} {fd : FuncData} (F : Fun K "is_narrow" "is_narrow" s_is_narrow f fd) (T : Bl mg)  (o_Rule_threshold : Pro P w K mg base CX0 8 C.Rule "threshold" P_Rule_threshold (sp_Rule_threshold K C)) (K_Rule : Kls K mg "Rule" C.Rule) : FnOk P w K mg base CX0 10 f fd P_is_narrow (sp_is_narrow K C) := by
  obtain ⟨t_AROUND, g_AROUND⟩ := T.g_AROUND
  obtain ⟨t_GUIDE, g_GUIDE⟩ := T.g_GUIDE
  obtain ⟨t_HOUSE, g_HOUSE⟩ := T.g_HOUSE
  obtain ⟨t_KIND, g_KIND⟩ := T.g_KIND
  obtain ⟨t_LONGEST_NAME, g_LONGEST_NAME⟩ := T.g_LONGEST_NAME
  obtain ⟨t_MOST, g_MOST⟩ := T.g_MOST
  obtain ⟨t_MOST_BY, g_MOST_BY⟩ := T.g_MOST_BY
  obtain ⟨t_MOST_GROUPS, g_MOST_GROUPS⟩ := T.g_MOST_GROUPS
  obtain ⟨t_MOST_LEAVES, g_MOST_LEAVES⟩ := T.g_MOST_LEAVES
  obtain ⟨t_MOST_STREAMS, g_MOST_STREAMS⟩ := T.g_MOST_STREAMS
  obtain ⟨t_PIPE, g_PIPE⟩ := T.g_PIPE
  refine F.ok sc_is_narrow (fun vs H Q E h => ln_is_narrow h) (fun cdv A outer s H vs Q E hr h => ⟨t_is_narrow K C, ?_, rd_is_narrow  h⟩)
  exact (pss_cons (ps_asg (pv 0) (pg_tup rfl (pgs_cons (pg_name (i := 1) sc_is_narrow.nd rfl (Or.inl rfl)) (pgs_cons (pg_name (i := 2) sc_is_narrow.nd rfl (Or.inl rfl)) (pgs_cons (pg_name (i := 3) sc_is_narrow.nd rfl (Or.inl rfl)) pgs_nil)))))
    (pss_one (ps_ret (pe_and (pe_cmpR (opEq hr.units) (pv 3) pe_str (nomark _)) (pe_one (pe_cmpR opLt (pv 1) (pe_pr K_Rule o_Rule_threshold (pv 2) hr pass0) (nomark _)))))))
theorem ok_least_own {f : Addr} {fd : FuncData} (F : Fun K "least_own" "least_own" s_least_own f fd) (T : Bl mg)  (o_Rule_threshold : Pro P w K mg base CX0 8 C.Rule "threshold" P_Rule_threshold (sp_Rule_threshold K C)) (K_Rule : Kls K mg "Rule" C.Rule) : FnOk P w K mg base CX0 10 f fd P_least_own (sp_least_own K C) := by
  obtain ⟨t_AROUND, g_AROUND⟩ := T.g_AROUND
  obtain ⟨t_GUIDE, g_GUIDE⟩ := T.g_GUIDE
  obtain ⟨t_HOUSE, g_HOUSE⟩ := T.g_HOUSE
  obtain ⟨t_KIND, g_KIND⟩ := T.g_KIND
  obtain ⟨t_LONGEST_NAME, g_LONGEST_NAME⟩ := T.g_LONGEST_NAME
  obtain ⟨t_MOST, g_MOST⟩ := T.g_MOST
  obtain ⟨t_MOST_BY, g_MOST_BY⟩ := T.g_MOST_BY
  obtain ⟨t_MOST_GROUPS, g_MOST_GROUPS⟩ := T.g_MOST_GROUPS
  obtain ⟨t_MOST_LEAVES, g_MOST_LEAVES⟩ := T.g_MOST_LEAVES
  obtain ⟨t_MOST_STREAMS, g_MOST_STREAMS⟩ := T.g_MOST_STREAMS
  obtain ⟨t_PIPE, g_PIPE⟩ := T.g_PIPE
  refine F.ok sc_least_own (fun vs H Q E h => ln_least_own h) (fun cdv A outer s H vs Q E hr h => ⟨t_least_own K C, ?_, rd_least_own  h⟩)
  exact (pss_one (ps_ret (pe_op opAdd (pe_pr K_Rule o_Rule_threshold (pv 0) hr pass0) (pe_ifExp (pt_cmpR opNotN (pv 1) pe_non (nomark _)) (pe_op opSub (pv 1) pe_int) pe_int))))
theorem ok_is_narrow_stream {f : Addr} {fd : FuncData} (F : Fun K "is_narrow_stream" "is_narrow_stream" s_is_narrow_stream f fd) (T : Bl mg)  (f_least_own : Cal P w K mg base CX0 10 "least_own" P_least_own [] (sp_least_own K C)) : FnOk P w K mg base CX0 11 f fd P_is_narrow_stream (sp_is_narrow_stream K C) := by
  obtain ⟨t_AROUND, g_AROUND⟩ := T.g_AROUND
  obtain ⟨t_GUIDE, g_GUIDE⟩ := T.g_GUIDE
  obtain ⟨t_HOUSE, g_HOUSE⟩ := T.g_HOUSE
  obtain ⟨t_KIND, g_KIND⟩ := T.g_KIND
  obtain ⟨t_LONGEST_NAME, g_LONGEST_NAME⟩ := T.g_LONGEST_NAME
  obtain ⟨t_MOST, g_MOST⟩ := T.g_MOST
  obtain ⟨t_MOST_BY, g_MOST_BY⟩ := T.g_MOST_BY
  obtain ⟨t_MOST_GROUPS, g_MOST_GROUPS⟩ := T.g_MOST_GROUPS
  obtain ⟨t_MOST_LEAVES, g_MOST_LEAVES⟩ := T.g_MOST_LEAVES
  obtain ⟨t_MOST_STREAMS, g_MOST_STREAMS⟩ := T.g_MOST_STREAMS
  obtain ⟨t_PIPE, g_PIPE⟩ := T.g_PIPE
  refine F.ok sc_is_narrow_stream (fun vs H Q E h => ln_is_narrow_stream h) (fun cdv A outer s H vs Q E hr h => ⟨t_is_narrow_stream K C, ?_, rd_is_narrow_stream  h⟩)
  exact (pss_cons (ps_asg (pv 0) (pg_tup rfl (pgs_cons (pg_name (i := 1) sc_is_narrow_stream.nd rfl (Or.inl rfl)) (pgs_cons (pg_name (i := 2) sc_is_narrow_stream.nd rfl (Or.inl rfl)) (pgs_cons (pg_name (i := 3) sc_is_narrow_stream.nd rfl (Or.inl rfl)) (pgs_cons (pg_name (i := 4) sc_is_narrow_stream.nd rfl (Or.inl rfl)) (pgs_cons (pg_name (i := 4) sc_is_narrow_stream.nd rfl (Or.inl rfl)) (pgs_cons (pg_name (i := 4) sc_is_narrow_stream.nd rfl (Or.inl rfl)) pgs_nil))))))))
    (pss_one (ps_ret (pe_cmpR opLt (pv 1) (pe_cal f_least_own hr pass0 (pa_cons (pv 2) (pa_cons (pv 3) pa_nil))) (nomark _)))))
theorem ok_check_credits {f : Addr} {fd : FuncData} (F : Fun K "check_credits" "check_credits" s_check_credits f fd) (T : Bl mg)  (f_is_narrow_stream : Cal P w K mg base CX0 11 "is_narrow_stream" P_is_narrow_stream [] (sp_is_narrow_stream K C)) (f_is_narrow : Cal P w K mg base CX0 10 "is_narrow" P_is_narrow [] (sp_is_narrow K C)) : FnOk P w K mg base CX0 12 f fd P_check_credits (sp_check_credits K C) := by
  obtain ⟨t_AROUND, g_AROUND⟩ := T.g_AROUND
  obtain ⟨t_GUIDE, g_GUIDE⟩ := T.g_GUIDE
  obtain ⟨t_HOUSE, g_HOUSE⟩ := T.g_HOUSE
  obtain ⟨t_KIND, g_KIND⟩ := T.g_KIND
  obtain ⟨t_LONGEST_NAME, g_LONGEST_NAME⟩ := T.g_LONGEST_NAME
  obtain ⟨t_MOST, g_MOST⟩ := T.g_MOST
  obtain ⟨t_MOST_BY, g_MOST_BY⟩ := T.g_MOST_BY
  obtain ⟨t_MOST_GROUPS, g_MOST_GROUPS⟩ := T.g_MOST_GROUPS
  obtain ⟨t_MOST_LEAVES, g_MOST_LEAVES⟩ := T.g_MOST_LEAVES
  obtain ⟨t_MOST_STREAMS, g_MOST_STREAMS⟩ := T.g_MOST_STREAMS
  obtain ⟨t_PIPE, g_PIPE⟩ := T.g_PIPE
  refine F.ok sc_check_credits (fun vs H Q E h => ln_check_credits h) (fun cdv A outer s H vs Q E hr h => ⟨t_check_credits K C, ?_, rd_check_credits  h⟩)
  exact (pss_cons (ps_set (i := 4) sc_check_credits.nd rfl (Or.inl rfl) (pe_ifExp (pt_val (pe_cal f_is_narrow hr pass0 (pa_cons (pv 0) pa_nil))) (pe_lst (pa_cons (pe_glob rfl g_PIPE ⟨_, rfl⟩) pa_nil)) (pe_lst pa_nil)))
    (pss_cons (ps_for PassesOwn.never rfl (pi_tup (pe_tup (pa_cons (pv 1) (pa_cons (pv 2) pa_nil)))) (pg_name (i := 5) sc_check_credits.nd rfl (Or.inl rfl)) (pss_one (ps_set (i := 4) sc_check_credits.nd rfl (Or.inl rfl) (pe_op opAdd (pv 4) (pe_lock (pe_lc (own := [("name", 6), ("group", 8)]) (g := (gTup K 2 (gCons (gName 6) (gCons (gName 8) gNil)))) (tt := (tB (tCall (sp_is_narrow K C) [] E0 (tCons (tSl (rSlU K) (tVar 8) tNoPart (tPart (tC (.int 3)))) tNil)))) rfl sc_check_credits.nd (pi_items (pv 5)) (blkOk_by (N := N_check_credits) (own := [("name", 6), ("group", 8)]) (sc := defScope s_check_credits) (by decide +kernel)) (fun _ _ _ _ _ => (pg_tup rfl (pgs_cons (pg_name (i := 6) sc_check_credits.nd rfl (Or.inl rfl)) (pgs_cons (pg_name (i := 8) sc_check_credits.nd rfl (Or.inl rfl)) pgs_nil)))) (fun _ _ _ _ _ => (pts_one (pt_val (pe_cal f_is_narrow hr pass0 (pa_cons (pe_slice slU (pv 8) po_none (po_some (pe_glob rfl g_AROUND ⟨_, rfl⟩))) pa_nil))))) (fun _ _ _ _ _ => (pv 6))))))))
    (pss_cons (ps_set (i := 4) sc_check_credits.nd rfl (Or.inl rfl) (pe_op opAdd (pv 4) (pe_lock (pe_lc (own := [("name", 6), ("stream", 7)]) (g := (gTup K 2 (gCons (gName 6) (gCons (gName 7) gNil)))) (tt := (tB (tCall (sp_is_narrow_stream K C) [] E0 (tCons (tVar 7) tNil)))) rfl sc_check_credits.nd (pi_items (pv 3)) (blkOk_by (N := N_check_credits) (own := [("name", 6), ("stream", 7)]) (sc := defScope s_check_credits) (by decide +kernel)) (fun _ _ _ _ _ => (pg_tup rfl (pgs_cons (pg_name (i := 6) sc_check_credits.nd rfl (Or.inl rfl)) (pgs_cons (pg_name (i := 7) sc_check_credits.nd rfl (Or.inl rfl)) pgs_nil)))) (fun _ _ _ _ _ => (pts_one (pt_val (pe_cal f_is_narrow_stream hr pass0 (pa_cons (pv 7) pa_nil))))) (fun _ _ _ _ _ => (pv 6))))))
    (pss_one (ps_if (pt_cmpR opGt (pe_callB callLen rfl T.b_len Pk.boot_len (pa_cons (pv 4) pa_nil)) pe_int (nomark _)) (pss_one ps_never) pss_nil)))))
theorem ok_has_bad_guide {f : Addr} {fd : FuncData} (F : Fun K "has_bad_guide" "has_bad_guide" s_has_bad_guide f fd) (T : Bl mg)   : FnOk P w K mg base CX0 1 f fd P_has_bad_guide (sp_has_bad_guide K C) := by
  obtain ⟨t_AROUND, g_AROUND⟩ := T.g_AROUND
  obtain ⟨t_GUIDE, g_GUIDE⟩ := T.g_GUIDE
  obtain ⟨t_HOUSE, g_HOUSE⟩ := T.g_HOUSE
  obtain ⟨t_KIND, g_KIND⟩ := T.g_KIND
  obtain ⟨t_LONGEST_NAME, g_LONGEST_NAME⟩ := T.g_LONGEST_NAME
  obtain ⟨t_MOST, g_MOST⟩ := T.g_MOST
  obtain ⟨t_MOST_BY, g_MOST_BY⟩ := T.g_MOST_BY
  obtain ⟨t_MOST_GROUPS, g_MOST_GROUPS⟩ := T.g_MOST_GROUPS
  obtain ⟨t_MOST_LEAVES, g_MOST_LEAVES⟩ := T.g_MOST_LEAVES
  obtain ⟨t_MOST_STREAMS, g_MOST_STREAMS⟩ := T.g_MOST_STREAMS
  obtain ⟨t_PIPE, g_PIPE⟩ := T.g_PIPE
  refine F.ok sc_has_bad_guide (fun vs H Q E h => ln_has_bad_guide h) (fun cdv A outer s H vs Q E hr h => ⟨t_has_bad_guide K, ?_, rd_has_bad_guide  h⟩)
  exact (pss_cons (ps_set (i := 2) sc_has_bad_guide.nd rfl (Or.inl rfl) (pe_dget (hu_of hr) (pv 1) (pv 0) (fun _ _ => rfl)))
    (pss_cons (ps_if (pt_cmpR opIsN (pe_ix ix_seq (pv 2) (pe_glob rfl g_GUIDE ⟨_, rfl⟩) (fun _ _ => rfl)) pe_non (nomark _)) (pss_one (ps_ret pe_bl)) pss_nil)
    (pss_cons (ps_set (i := 3) sc_has_bad_guide.nd rfl (Or.inl rfl) (pe_dget (hu_of hr) (pv 1) (pe_ix ix_seq (pv 2) (pe_glob rfl g_GUIDE ⟨_, rfl⟩) (fun _ _ => rfl)) (fun _ _ => rfl)))
    (pss_one (ps_ret (pe_or (pe_cmpR opNotN (pe_ix ix_seq (pv 3) (pe_glob rfl g_GUIDE ⟨_, rfl⟩) (fun _ _ => rfl)) pe_non (nomark _)) (pe_or (pe_cmpR (opNe hr.units) (pe_ix ix_seq (pv 3) (pe_glob rfl g_HOUSE ⟨_, rfl⟩) (fun _ _ => rfl)) (pe_ix ix_seq (pv 2) (pe_glob rfl g_HOUSE ⟨_, rfl⟩) (fun _ _ => rfl)) (nomark _)) (pe_one (pe_cmpR (opNe hr.units) (pe_ix ix_seq (pv 3) (pe_glob rfl g_KIND ⟨_, rfl⟩) (fun _ _ => rfl)) (pe_ix ix_seq (pv 2) (pe_glob rfl g_KIND ⟨_, rfl⟩) (fun _ _ => rfl)) (nomark _))))))))))
theorem ok_check_guides {f : Addr} {fd : FuncData} (F : Fun K "check_guides" "check_guides" s_check_guides f fd) (T : Bl mg)  (f_has_bad_guide : Cal P w K mg base CX0 1 "has_bad_guide" P_has_bad_guide [] (sp_has_bad_guide K C)) : FnOk P w K mg base CX0 2 f fd P_check_guides (sp_check_guides K C) := by
  obtain ⟨t_AROUND, g_AROUND⟩ := T.g_AROUND
  obtain ⟨t_GUIDE, g_GUIDE⟩ := T.g_GUIDE
  obtain ⟨t_HOUSE, g_HOUSE⟩ := T.g_HOUSE
  obtain ⟨t_KIND, g_KIND⟩ := T.g_KIND
  obtain ⟨t_LONGEST_NAME, g_LONGEST_NAME⟩ := T.g_LONGEST_NAME
  obtain ⟨t_MOST, g_MOST⟩ := T.g_MOST
  obtain ⟨t_MOST_BY, g_MOST_BY⟩ := T.g_MOST_BY
  obtain ⟨t_MOST_GROUPS, g_MOST_GROUPS⟩ := T.g_MOST_GROUPS
  obtain ⟨t_MOST_LEAVES, g_MOST_LEAVES⟩ := T.g_MOST_LEAVES
  obtain ⟨t_MOST_STREAMS, g_MOST_STREAMS⟩ := T.g_MOST_STREAMS
  obtain ⟨t_PIPE, g_PIPE⟩ := T.g_PIPE
  refine F.ok sc_check_guides (fun vs H Q E h => ln_check_guides h) (fun cdv A outer s H vs Q E hr h => ⟨t_check_guides K C, ?_, rd_check_guides  h⟩)
  exact (pss_cons (ps_lockN (ps_setLc (i := 1) (own := [("name", 2)]) (g := (gName 2)) (tt := (tB (tCall (sp_has_bad_guide K C) [] E0 (tCons (tVar 2) (tCons (tVar 0) tNil))))) rfl sc_check_guides.nd rfl rfl (sw_true rfl rfl rfl (by decide +kernel)) (pi_keys (pv 0)) (blkOk_by (N := N_check_guides) (own := [("name", 2)]) (sc := defScope s_check_guides) (by decide +kernel)) (fun _ _ _ _ _ => (pg_name (i := 2) sc_check_guides.nd rfl (Or.inl rfl))) (fun _ _ _ _ _ => (pts_one (pt_val (pe_cal f_has_bad_guide hr pass0 (pa_cons (pv 2) (pa_cons (pv 0) pa_nil)))))) (fun _ _ _ _ _ => (pv 2))))
    (pss_one (ps_if (pt_cmpR opGt (pe_callB callLen rfl T.b_len Pk.boot_len (pa_cons (pv 1) pa_nil)) pe_int (nomark _)) (pss_one ps_never) pss_nil)))
theorem ok_is_name_or_none {f : Addr} {fd : FuncData} (F : Fun K "is_name_or_none" "is_name_or_none" s_is_name_or_none f fd) (T : Bl mg)  (f_is_name : Cal P w K mg base CX0 1 "is_name" P_is_name [] (sp_is_name K)) : FnOk P w K mg base CX0 2 f fd P_is_name_or_none (sp_is_name_or_none K) := by
  obtain ⟨t_AROUND, g_AROUND⟩ := T.g_AROUND
  obtain ⟨t_GUIDE, g_GUIDE⟩ := T.g_GUIDE
  obtain ⟨t_HOUSE, g_HOUSE⟩ := T.g_HOUSE
  obtain ⟨t_KIND, g_KIND⟩ := T.g_KIND
  obtain ⟨t_LONGEST_NAME, g_LONGEST_NAME⟩ := T.g_LONGEST_NAME
  obtain ⟨t_MOST, g_MOST⟩ := T.g_MOST
  obtain ⟨t_MOST_BY, g_MOST_BY⟩ := T.g_MOST_BY
  obtain ⟨t_MOST_GROUPS, g_MOST_GROUPS⟩ := T.g_MOST_GROUPS
  obtain ⟨t_MOST_LEAVES, g_MOST_LEAVES⟩ := T.g_MOST_LEAVES
  obtain ⟨t_MOST_STREAMS, g_MOST_STREAMS⟩ := T.g_MOST_STREAMS
  obtain ⟨t_PIPE, g_PIPE⟩ := T.g_PIPE
  refine F.ok sc_is_name_or_none (fun vs H Q E h => ln_is_name_or_none h) (fun cdv A outer s H vs Q E hr h => ⟨t_is_name_or_none K, ?_, rd_is_name_or_none  h⟩)
  exact (pss_one (ps_ret (pe_or (pe_cmpR opIsN (pv 0) pe_non (nomark _)) (pe_one (pe_cal f_is_name hr pass0 (pa_cons (pv 0) pa_nil))))))
theorem ok_is_moment {f : Addr} {fd : FuncData} (F : Fun K "is_moment" "is_moment" s_is_moment f fd) (T : Bl mg)   : FnOk P w K mg base CX0 1 f fd P_is_moment (sp_is_moment K) := by
  obtain ⟨t_AROUND, g_AROUND⟩ := T.g_AROUND
  obtain ⟨t_GUIDE, g_GUIDE⟩ := T.g_GUIDE
  obtain ⟨t_HOUSE, g_HOUSE⟩ := T.g_HOUSE
  obtain ⟨t_KIND, g_KIND⟩ := T.g_KIND
  obtain ⟨t_LONGEST_NAME, g_LONGEST_NAME⟩ := T.g_LONGEST_NAME
  obtain ⟨t_MOST, g_MOST⟩ := T.g_MOST
  obtain ⟨t_MOST_BY, g_MOST_BY⟩ := T.g_MOST_BY
  obtain ⟨t_MOST_GROUPS, g_MOST_GROUPS⟩ := T.g_MOST_GROUPS
  obtain ⟨t_MOST_LEAVES, g_MOST_LEAVES⟩ := T.g_MOST_LEAVES
  obtain ⟨t_MOST_STREAMS, g_MOST_STREAMS⟩ := T.g_MOST_STREAMS
  obtain ⟨t_PIPE, g_PIPE⟩ := T.g_PIPE
  refine F.ok sc_is_moment (fun vs H Q E h => ln_is_moment h) (fun cdv A outer s H vs Q E hr h => ⟨t_is_moment K, ?_, rd_is_moment  h⟩)
  exact (pss_one (ps_ret (pe_and (pe_callB call_isi rfl T.b_isinstance Pk.boot_isinstance (pa_cons (pv 0) (pa_cons (pe_bltn (v := .ty "str") rfl T.b_str Pk.boot_t_str rfl) pa_nil))) (pe_one (pe_cmpR opIn (pv 0) (pe_tup (pa_cons pe_str (pa_cons pe_str pa_nil))) rfl)))))
theorem ok_is_integer {f : Addr} {fd : FuncData} (F : Fun K "is_integer" "is_integer" s_is_integer f fd) (T : Bl mg)   : FnOk P w K mg base CX0 1 f fd P_is_integer (sp_is_integer K) := by
  obtain ⟨t_AROUND, g_AROUND⟩ := T.g_AROUND
  obtain ⟨t_GUIDE, g_GUIDE⟩ := T.g_GUIDE
  obtain ⟨t_HOUSE, g_HOUSE⟩ := T.g_HOUSE
  obtain ⟨t_KIND, g_KIND⟩ := T.g_KIND
  obtain ⟨t_LONGEST_NAME, g_LONGEST_NAME⟩ := T.g_LONGEST_NAME
  obtain ⟨t_MOST, g_MOST⟩ := T.g_MOST
  obtain ⟨t_MOST_BY, g_MOST_BY⟩ := T.g_MOST_BY
  obtain ⟨t_MOST_GROUPS, g_MOST_GROUPS⟩ := T.g_MOST_GROUPS
  obtain ⟨t_MOST_LEAVES, g_MOST_LEAVES⟩ := T.g_MOST_LEAVES
  obtain ⟨t_MOST_STREAMS, g_MOST_STREAMS⟩ := T.g_MOST_STREAMS
  obtain ⟨t_PIPE, g_PIPE⟩ := T.g_PIPE
  refine F.ok sc_is_integer (fun vs H Q E h => ln_is_integer h) (fun cdv A outer s H vs Q E hr h => ⟨t_is_integer K, ?_, rd_is_integer  h⟩)
  exact (pss_one (ps_ret (pe_and (pe_callB call_isi rfl T.b_isinstance Pk.boot_isinstance (pa_cons (pv 0) (pa_cons (pe_bltn (v := .ty "int") rfl T.b_int Pk.boot_t_int rfl) pa_nil))) (pe_one (pe_not (pe_callB call_isi rfl T.b_isinstance Pk.boot_isinstance (pa_cons (pv 0) (pa_cons (pe_bltn (v := .ty "bool") rfl T.b_bool Pk.boot_t_bool rfl) pa_nil))))))))
theorem ok_is_number {f : Addr} {fd : FuncData} (F : Fun K "is_number" "is_number" s_is_number f fd) (T : Bl mg)  (f_is_integer : Cal P w K mg base CX0 1 "is_integer" P_is_integer [] (sp_is_integer K)) : FnOk P w K mg base CX0 2 f fd P_is_number (sp_is_number K) := by
  obtain ⟨t_AROUND, g_AROUND⟩ := T.g_AROUND
  obtain ⟨t_GUIDE, g_GUIDE⟩ := T.g_GUIDE
  obtain ⟨t_HOUSE, g_HOUSE⟩ := T.g_HOUSE
  obtain ⟨t_KIND, g_KIND⟩ := T.g_KIND
  obtain ⟨t_LONGEST_NAME, g_LONGEST_NAME⟩ := T.g_LONGEST_NAME
  obtain ⟨t_MOST, g_MOST⟩ := T.g_MOST
  obtain ⟨t_MOST_BY, g_MOST_BY⟩ := T.g_MOST_BY
  obtain ⟨t_MOST_GROUPS, g_MOST_GROUPS⟩ := T.g_MOST_GROUPS
  obtain ⟨t_MOST_LEAVES, g_MOST_LEAVES⟩ := T.g_MOST_LEAVES
  obtain ⟨t_MOST_STREAMS, g_MOST_STREAMS⟩ := T.g_MOST_STREAMS
  obtain ⟨t_PIPE, g_PIPE⟩ := T.g_PIPE
  refine F.ok sc_is_number (fun vs H Q E h => ln_is_number h) (fun cdv A outer s H vs Q E hr h => ⟨t_is_number K, ?_, rd_is_number  h⟩)
  exact (pss_one (ps_ret (pe_and (pe_cal f_is_integer hr pass0 (pa_cons (pv 1) pa_nil)) (pe_one (pe_cmpR opGe (pv 1) (pv 0) (nomark _))))))
theorem ok_is_pool {f : Addr} {fd : FuncData} (F : Fun K "is_pool" "is_pool" s_is_pool f fd) (T : Bl mg)  (f_is_number : Cal P w K mg base CX0 2 "is_number" P_is_number [] (sp_is_number K)) (K_Rule : Kls K mg "Rule" C.Rule) (f_is_moment : Cal P w K mg base CX0 1 "is_moment" P_is_moment [] (sp_is_moment K)) : FnOk P w K mg base CX0 3 f fd P_is_pool (sp_is_pool K C) := by
  obtain ⟨t_AROUND, g_AROUND⟩ := T.g_AROUND
  obtain ⟨t_GUIDE, g_GUIDE⟩ := T.g_GUIDE
  obtain ⟨t_HOUSE, g_HOUSE⟩ := T.g_HOUSE
  obtain ⟨t_KIND, g_KIND⟩ := T.g_KIND
  obtain ⟨t_LONGEST_NAME, g_LONGEST_NAME⟩ := T.g_LONGEST_NAME
  obtain ⟨t_MOST, g_MOST⟩ := T.g_MOST
  obtain ⟨t_MOST_BY, g_MOST_BY⟩ := T.g_MOST_BY
  obtain ⟨t_MOST_GROUPS, g_MOST_GROUPS⟩ := T.g_MOST_GROUPS
  obtain ⟨t_MOST_LEAVES, g_MOST_LEAVES⟩ := T.g_MOST_LEAVES
  obtain ⟨t_MOST_STREAMS, g_MOST_STREAMS⟩ := T.g_MOST_STREAMS
  obtain ⟨t_PIPE, g_PIPE⟩ := T.g_PIPE
  refine F.ok sc_is_pool (fun vs H Q E h => ln_is_pool h) (fun cdv A outer s H vs Q E hr h => ⟨t_is_pool K C, ?_, rd_is_pool  h⟩)
  exact (pss_cons (ps_if (PW.pt (pw_or (pt_not (pt_val (pe_callB call_isi rfl T.b_isinstance Pk.boot_isinstance (pa_cons (pv 0) (pa_cons (pe_bltn (v := .ty "tuple") rfl T.b_tuple Pk.boot_t_tuple rfl) pa_nil))))) (pw_or1 (pt_cmpR (opNe hr.units) (pe_callB callLen rfl T.b_len Pk.boot_len (pa_cons (pv 0) pa_nil)) pe_int (nomark _))))) (pss_one (ps_ret pe_bl)) pss_nil)
    (pss_cons (ps_asg (pv 0) (pg_tup rfl (pgs_cons (pg_name (i := 1) sc_is_pool.nd rfl (Or.inl rfl)) (pgs_cons (pg_name (i := 2) sc_is_pool.nd rfl (Or.inl rfl)) (pgs_cons (pg_name (i := 3) sc_is_pool.nd rfl (Or.inl rfl)) pgs_nil)))))
    (pss_one (ps_ret (pe_and (pe_cal f_is_number hr pass0 (pa_cons pe_int (pa_cons (pv 1) pa_nil))) (pe_and (pe_callB call_isi rfl T.b_isinstance Pk.boot_isinstance (pa_cons (pv 2) (pa_cons (pe_glob rfl K_Rule.at_ rfl) pa_nil))) (pe_one (pe_cal f_is_moment hr pass0 (pa_cons (pv 3) pa_nil)))))))))
theorem ok_is_group {f : Addr} {fd : FuncData} (F : Fun K "is_group" "is_group" s_is_group f fd) (T : Bl mg)  (f_is_pool : Cal P w K mg base CX0 3 "is_pool" P_is_pool [] (sp_is_pool K C)) (f_is_name_or_none : Cal P w K mg base CX0 2 "is_name_or_none" P_is_name_or_none [] (sp_is_name_or_none K)) : FnOk P w K mg base CX0 4 f fd P_is_group (sp_is_group K C) := by
  obtain ⟨t_AROUND, g_AROUND⟩ := T.g_AROUND
  obtain ⟨t_GUIDE, g_GUIDE⟩ := T.g_GUIDE
  obtain ⟨t_HOUSE, g_HOUSE⟩ := T.g_HOUSE
  obtain ⟨t_KIND, g_KIND⟩ := T.g_KIND
  obtain ⟨t_LONGEST_NAME, g_LONGEST_NAME⟩ := T.g_LONGEST_NAME
  obtain ⟨t_MOST, g_MOST⟩ := T.g_MOST
  obtain ⟨t_MOST_BY, g_MOST_BY⟩ := T.g_MOST_BY
  obtain ⟨t_MOST_GROUPS, g_MOST_GROUPS⟩ := T.g_MOST_GROUPS
  obtain ⟨t_MOST_LEAVES, g_MOST_LEAVES⟩ := T.g_MOST_LEAVES
  obtain ⟨t_MOST_STREAMS, g_MOST_STREAMS⟩ := T.g_MOST_STREAMS
  obtain ⟨t_PIPE, g_PIPE⟩ := T.g_PIPE
  refine F.ok sc_is_group (fun vs H Q E h => ln_is_group h) (fun cdv A outer s H vs Q E hr h => ⟨t_is_group K C, ?_, rd_is_group  h⟩)
  exact (pss_cons (ps_if (PW.pt (pw_or (pt_not (pt_val (pe_callB call_isi rfl T.b_isinstance Pk.boot_isinstance (pa_cons (pv 0) (pa_cons (pe_bltn (v := .ty "tuple") rfl T.b_tuple Pk.boot_t_tuple rfl) pa_nil))))) (pw_or1 (pt_cmpR (opNe hr.units) (pe_callB callLen rfl T.b_len Pk.boot_len (pa_cons (pv 0) pa_nil)) pe_int (nomark _))))) (pss_one (ps_ret pe_bl)) pss_nil)
    (pss_one (ps_ret (pe_and (pe_cal f_is_pool hr pass0 (pa_cons (pe_slice slU (pv 0) po_none (po_some (pe_glob rfl g_AROUND ⟨_, rfl⟩))) pa_nil)) (pe_one (pe_cal f_is_name_or_none hr pass0 (pa_cons (pe_ix ix_seq (pv 0) (pe_glob rfl g_AROUND ⟨_, rfl⟩) (fun _ _ => rfl)) pa_nil)))))))
theorem ok_are_groups {f : Addr} {fd : FuncData} (F : Fun K "are_groups" "are_groups" s_are_groups f fd) (T : Bl mg)  (f_is_name : Cal P w K mg base CX0 1 "is_name" P_is_name [] (sp_is_name K)) (f_is_group : Cal P w K mg base CX0 4 "is_group" P_is_group [] (sp_is_group K C)) : FnOk P w K mg base CX0 5 f fd P_are_groups (sp_are_groups K C) := by
  obtain ⟨t_AROUND, g_AROUND⟩ := T.g_AROUND
  obtain ⟨t_GUIDE, g_GUIDE⟩ := T.g_GUIDE
  obtain ⟨t_HOUSE, g_HOUSE⟩ := T.g_HOUSE
  obtain ⟨t_KIND, g_KIND⟩ := T.g_KIND
  obtain ⟨t_LONGEST_NAME, g_LONGEST_NAME⟩ := T.g_LONGEST_NAME
  obtain ⟨t_MOST, g_MOST⟩ := T.g_MOST
  obtain ⟨t_MOST_BY, g_MOST_BY⟩ := T.g_MOST_BY
  obtain ⟨t_MOST_GROUPS, g_MOST_GROUPS⟩ := T.g_MOST_GROUPS
  obtain ⟨t_MOST_LEAVES, g_MOST_LEAVES⟩ := T.g_MOST_LEAVES
  obtain ⟨t_MOST_STREAMS, g_MOST_STREAMS⟩ := T.g_MOST_STREAMS
  obtain ⟨t_PIPE, g_PIPE⟩ := T.g_PIPE
  refine F.ok sc_are_groups (fun vs H Q E h => ln_are_groups h) (fun cdv A outer s H vs Q E hr h => ⟨t_are_groups K C, ?_, rd_are_groups  h⟩)
  exact (pss_cons (ps_if (pt_not (pt_val (pe_callB call_isi rfl T.b_isinstance Pk.boot_isinstance (pa_cons (pv 0) (pa_cons (pe_bltn (v := .ty "dict") rfl T.b_dict Pk.boot_t_dict rfl) pa_nil))))) (pss_one (ps_ret pe_bl)) pss_nil)
    (pss_one (ps_ret (pe_callB (cr_all rfl) rfl T.b_all Pk.boot_all (pa_cons (pe_lock (pe_lc (own := [("name", 1), ("group", 2)]) (g := (gTup K 2 (gCons (gName 1) (gCons (gName 2) gNil)))) (tt := tYes) rfl sc_are_groups.nd (pi_items (pv 0)) (blkOk_by (N := N_are_groups) (own := [("name", 1), ("group", 2)]) (sc := defScope s_are_groups) (by decide +kernel)) (fun _ _ _ _ _ => (pg_tup rfl (pgs_cons (pg_name (i := 1) sc_are_groups.nd rfl (Or.inl rfl)) (pgs_cons (pg_name (i := 2) sc_are_groups.nd rfl (Or.inl rfl)) pgs_nil)))) (fun _ _ _ _ _ => pts_nil) (fun _ _ _ _ _ => (pe_and (pe_cal f_is_name hr pass0 (pa_cons (pv 1) pa_nil)) (pe_one (pe_cal f_is_group hr pass0 (pa_cons (pv 2) pa_nil))))))) pa_nil)))))
theorem ok_is_stream {f : Addr} {fd : FuncData} (F : Fun K "is_stream" "is_stream" s_is_stream f fd) (T : Bl mg)  (f_is_name_or_none : Cal P w K mg base CX0 2 "is_name_or_none" P_is_name_or_none [] (sp_is_name_or_none K)) (f_is_number : Cal P w K mg base CX0 2 "is_number" P_is_number [] (sp_is_number K)) (K_Rule : Kls K mg "Rule" C.Rule) : FnOk P w K mg base CX0 3 f fd P_is_stream (sp_is_stream K C) := by
  obtain ⟨t_AROUND, g_AROUND⟩ := T.g_AROUND
  obtain ⟨t_GUIDE, g_GUIDE⟩ := T.g_GUIDE
  obtain ⟨t_HOUSE, g_HOUSE⟩ := T.g_HOUSE
  obtain ⟨t_KIND, g_KIND⟩ := T.g_KIND
  obtain ⟨t_LONGEST_NAME, g_LONGEST_NAME⟩ := T.g_LONGEST_NAME
  obtain ⟨t_MOST, g_MOST⟩ := T.g_MOST
  obtain ⟨t_MOST_BY, g_MOST_BY⟩ := T.g_MOST_BY
  obtain ⟨t_MOST_GROUPS, g_MOST_GROUPS⟩ := T.g_MOST_GROUPS
  obtain ⟨t_MOST_LEAVES, g_MOST_LEAVES⟩ := T.g_MOST_LEAVES
  obtain ⟨t_MOST_STREAMS, g_MOST_STREAMS⟩ := T.g_MOST_STREAMS
  obtain ⟨t_PIPE, g_PIPE⟩ := T.g_PIPE
  refine F.ok sc_is_stream (fun vs H Q E h => ln_is_stream h) (fun cdv A outer s H vs Q E hr h => ⟨t_is_stream K C, ?_, rd_is_stream  h⟩)
  exact (pss_cons (ps_if (PW.pt (pw_or (pt_not (pt_val (pe_callB call_isi rfl T.b_isinstance Pk.boot_isinstance (pa_cons (pv 0) (pa_cons (pe_bltn (v := .ty "tuple") rfl T.b_tuple Pk.boot_t_tuple rfl) pa_nil))))) (pw_or1 (pt_cmpR (opNe hr.units) (pe_callB callLen rfl T.b_len Pk.boot_len (pa_cons (pv 0) pa_nil)) pe_int (nomark _))))) (pss_one (ps_ret pe_bl)) pss_nil)
    (pss_cons (ps_asg (pv 0) (pg_tup rfl (pgs_cons (pg_name (i := 1) sc_is_stream.nd rfl (Or.inl rfl)) (pgs_cons (pg_name (i := 2) sc_is_stream.nd rfl (Or.inl rfl)) (pgs_cons (pg_name (i := 3) sc_is_stream.nd rfl (Or.inl rfl)) (pgs_cons (pg_name (i := 4) sc_is_stream.nd rfl (Or.inl rfl)) (pgs_cons (pg_name (i := 5) sc_is_stream.nd rfl (Or.inl rfl)) (pgs_cons (pg_name (i := 6) sc_is_stream.nd rfl (Or.inl rfl)) pgs_nil))))))))
    (pss_cons (ps_if (PW.pt (pw_or (pt_not (pt_val (pe_cal f_is_number hr pass0 (pa_cons pe_int (pa_cons (pv 1) pa_nil))))) (pw_or1 (pt_not (pt_val (pe_callB call_isi rfl T.b_isinstance Pk.boot_isinstance (pa_cons (pv 2) (pa_cons (pe_glob rfl K_Rule.at_ rfl) pa_nil)))))))) (pss_one (ps_ret pe_bl)) pss_nil)
    (pss_cons (ps_if (PW.pt (pw_and (pt_cmpR opNotN (pv 3) pe_non (nomark _)) (pw_and1 (pt_not (pt_val (pe_cal f_is_number hr pass0 (pa_cons pe_int (pa_cons (pv 3) pa_nil)))))))) (pss_one (ps_ret pe_bl)) pss_nil)
    (pss_one (ps_ret (pe_and (pe_cal f_is_name_or_none hr pass0 (pa_cons (pv 4) pa_nil)) (pe_and (pe_cal f_is_name_or_none hr pass0 (pa_cons (pv 5) pa_nil)) (pe_one (pe_cal f_is_name_or_none hr pass0 (pa_cons (pv 6) pa_nil)))))))))))
theorem ok_are_streams {f : Addr} {fd : FuncData} (F : Fun K "are_streams" "are_streams" s_are_streams f fd) (T : Bl mg)  (f_is_name : Cal P w K mg base CX0 1 "is_name" P_is_name [] (sp_is_name K)) (f_is_stream : Cal P w K mg base CX0 3 "is_stream" P_is_stream [] (sp_is_stream K C)) : FnOk P w K mg base CX0 4 f fd P_are_streams (sp_are_streams K C) := by
  obtain ⟨t_AROUND, g_AROUND⟩ := T.g_AROUND
  obtain ⟨t_GUIDE, g_GUIDE⟩ := T.g_GUIDE
  obtain ⟨t_HOUSE, g_HOUSE⟩ := T.g_HOUSE
  obtain ⟨t_KIND, g_KIND⟩ := T.g_KIND
  obtain ⟨t_LONGEST_NAME, g_LONGEST_NAME⟩ := T.g_LONGEST_NAME
  obtain ⟨t_MOST, g_MOST⟩ := T.g_MOST
  obtain ⟨t_MOST_BY, g_MOST_BY⟩ := T.g_MOST_BY
  obtain ⟨t_MOST_GROUPS, g_MOST_GROUPS⟩ := T.g_MOST_GROUPS
  obtain ⟨t_MOST_LEAVES, g_MOST_LEAVES⟩ := T.g_MOST_LEAVES
  obtain ⟨t_MOST_STREAMS, g_MOST_STREAMS⟩ := T.g_MOST_STREAMS
  obtain ⟨t_PIPE, g_PIPE⟩ := T.g_PIPE
  refine F.ok sc_are_streams (fun vs H Q E h => ln_are_streams h) (fun cdv A outer s H vs Q E hr h => ⟨t_are_streams K C, ?_, rd_are_streams  h⟩)
  exact (pss_cons (ps_if (PW.pt (pw_or (pt_not (pt_val (pe_callB call_isi rfl T.b_isinstance Pk.boot_isinstance (pa_cons (pv 0) (pa_cons (pe_bltn (v := .ty "dict") rfl T.b_dict Pk.boot_t_dict rfl) pa_nil))))) (pw_or1 (pt_not (pt_chain opLe opLe pe_int (pe_callB call_lenR rfl T.b_len Pk.boot_len (pa_cons (pv 0) pa_nil)) (pe_glob rfl g_MOST_STREAMS ⟨_, rfl⟩)))))) (pss_one (ps_ret pe_bl)) pss_nil)
    (pss_one (ps_ret (pe_callB (cr_all rfl) rfl T.b_all Pk.boot_all (pa_cons (pe_lock (pe_lc (own := [("name", 1), ("stream", 2)]) (g := (gTup K 2 (gCons (gName 1) (gCons (gName 2) gNil)))) (tt := tYes) rfl sc_are_streams.nd (pi_items (pv 0)) (blkOk_by (N := N_are_streams) (own := [("name", 1), ("stream", 2)]) (sc := defScope s_are_streams) (by decide +kernel)) (fun _ _ _ _ _ => (pg_tup rfl (pgs_cons (pg_name (i := 1) sc_are_streams.nd rfl (Or.inl rfl)) (pgs_cons (pg_name (i := 2) sc_are_streams.nd rfl (Or.inl rfl)) pgs_nil)))) (fun _ _ _ _ _ => pts_nil) (fun _ _ _ _ _ => (pe_and (pe_cal f_is_name hr pass0 (pa_cons (pv 1) pa_nil)) (pe_one (pe_cal f_is_stream hr pass0 (pa_cons (pv 2) pa_nil))))))) pa_nil)))))
theorem ok_check_kinds {f : Addr} {fd : FuncData} (F : Fun K "check_kinds" "check_kinds" s_check_kinds f fd) (T : Bl mg)  (f_are_streams : Cal P w K mg base CX0 4 "are_streams" P_are_streams [] (sp_are_streams K C)) (f_are_groups : Cal P w K mg base CX0 5 "are_groups" P_are_groups [] (sp_are_groups K C)) (f_is_pool : Cal P w K mg base CX0 3 "is_pool" P_is_pool [] (sp_is_pool K C)) : FnOk P w K mg base CX0 6 f fd P_check_kinds (sp_check_kinds K C) := by
  obtain ⟨t_AROUND, g_AROUND⟩ := T.g_AROUND
  obtain ⟨t_GUIDE, g_GUIDE⟩ := T.g_GUIDE
  obtain ⟨t_HOUSE, g_HOUSE⟩ := T.g_HOUSE
  obtain ⟨t_KIND, g_KIND⟩ := T.g_KIND
  obtain ⟨t_LONGEST_NAME, g_LONGEST_NAME⟩ := T.g_LONGEST_NAME
  obtain ⟨t_MOST, g_MOST⟩ := T.g_MOST
  obtain ⟨t_MOST_BY, g_MOST_BY⟩ := T.g_MOST_BY
  obtain ⟨t_MOST_GROUPS, g_MOST_GROUPS⟩ := T.g_MOST_GROUPS
  obtain ⟨t_MOST_LEAVES, g_MOST_LEAVES⟩ := T.g_MOST_LEAVES
  obtain ⟨t_MOST_STREAMS, g_MOST_STREAMS⟩ := T.g_MOST_STREAMS
  obtain ⟨t_PIPE, g_PIPE⟩ := T.g_PIPE
  refine F.ok sc_check_kinds (fun vs H Q E h => ln_check_kinds h) (fun cdv A outer s H vs Q E hr h => ⟨t_check_kinds K C, ?_, rd_check_kinds  h⟩)
  exact (pss_cons (ps_if (pt_not (pt_val (pe_cal f_is_pool hr pass0 (pa_cons (pv 0) pa_nil)))) (pss_one ps_never) pss_nil)
    (pss_cons (ps_if (pt_not (pt_val (pe_cal f_are_groups hr pass0 (pa_cons (pv 1) pa_nil)))) (pss_one ps_never) pss_nil)
    (pss_cons (ps_if (PW.pt (pw_or (pt_not (pt_val (pe_cal f_are_groups hr pass0 (pa_cons (pv 2) pa_nil)))) (pw_or1 (pt_cmpR opGt (pe_op opAdd (pe_callB call_lenR rfl T.b_len Pk.boot_len (pa_cons (pv 1) pa_nil)) (pe_callB call_lenR rfl T.b_len Pk.boot_len (pa_cons (pv 2) pa_nil))) (pe_glob rfl g_MOST_GROUPS ⟨_, rfl⟩) (nomark _))))) (pss_one ps_never) pss_nil)
    (pss_one (ps_if (pt_not (pt_val (pe_cal f_are_streams hr pass0 (pa_cons (pv 3) pa_nil)))) (pss_one ps_never) pss_nil)))))
theorem ok_missing_names {f : Addr} {fd : FuncData} (F : Fun K "missing_names" "missing_names" s_missing_names f fd) (T : Bl mg)   : FnOk P w K mg base CX0 1 f fd P_missing_names (sp_missing_names K C) := by
  obtain ⟨t_AROUND, g_AROUND⟩ := T.g_AROUND
  obtain ⟨t_GUIDE, g_GUIDE⟩ := T.g_GUIDE
  obtain ⟨t_HOUSE, g_HOUSE⟩ := T.g_HOUSE
  obtain ⟨t_KIND, g_KIND⟩ := T.g_KIND
  obtain ⟨t_LONGEST_NAME, g_LONGEST_NAME⟩ := T.g_LONGEST_NAME
  obtain ⟨t_MOST, g_MOST⟩ := T.g_MOST
  obtain ⟨t_MOST_BY, g_MOST_BY⟩ := T.g_MOST_BY
  obtain ⟨t_MOST_GROUPS, g_MOST_GROUPS⟩ := T.g_MOST_GROUPS
  obtain ⟨t_MOST_LEAVES, g_MOST_LEAVES⟩ := T.g_MOST_LEAVES
  obtain ⟨t_MOST_STREAMS, g_MOST_STREAMS⟩ := T.g_MOST_STREAMS
  obtain ⟨t_PIPE, g_PIPE⟩ := T.g_PIPE
  refine F.ok sc_missing_names (fun vs H Q E h => ln_missing_names h) (fun cdv A outer s H vs Q E hr h => ⟨t_missing_names K, ?_, rd_missing_names  h⟩)
  exact (pss_one (ps_ret (pe_lock (pe_lc (own := [("row", 3)]) (g := (gName 3)) (tt := (tAnd (tTest (tOp (rNotNn) (tOp (rIx K) (tVar 3) (tVar 2)) (tC .non))) (tB (tDNotIn (tOp (rIx K) (tVar 3) (tVar 2)) (tVar 0))))) rfl sc_missing_names.nd (pi_values (pv 1)) (blkOk_by (N := N_missing_names) (own := [("row", 3)]) (sc := defScope s_missing_names) (by decide +kernel)) (fun _ _ _ _ _ => (pg_name (i := 3) sc_missing_names.nd rfl (Or.inl rfl))) (fun _ _ _ _ _ => (pts_one (PW.pt (pw_and (pt_cmpR opNotN (pe_ix ix_seq (pv 3) (pv 2) (fun _ _ => rfl)) pe_non (nomark _)) (pw_and1 (pt_cmp (pc_dnotin (hu_of hr) (pe_ix ix_seq (pv 3) (pv 2) (fun _ _ => rfl)) (pv 0)))))))) (fun _ _ _ _ _ => (pe_ix ix_seq (pv 3) (pv 2) (fun _ _ => rfl)))))))
theorem ok_check_names {f : Addr} {fd : FuncData} (F : Fun K "check_names" "check_names" s_check_names f fd) (T : Bl mg)  (f_missing_names : Cal P w K mg base CX0 1 "missing_names" P_missing_names [] (sp_missing_names K C)) : FnOk P w K mg base CX0 2 f fd P_check_names (sp_check_names K C) := by
  obtain ⟨t_AROUND, g_AROUND⟩ := T.g_AROUND
  obtain ⟨t_GUIDE, g_GUIDE⟩ := T.g_GUIDE
  obtain ⟨t_HOUSE, g_HOUSE⟩ := T.g_HOUSE
  obtain ⟨t_KIND, g_KIND⟩ := T.g_KIND
  obtain ⟨t_LONGEST_NAME, g_LONGEST_NAME⟩ := T.g_LONGEST_NAME
  obtain ⟨t_MOST, g_MOST⟩ := T.g_MOST
  obtain ⟨t_MOST_BY, g_MOST_BY⟩ := T.g_MOST_BY
  obtain ⟨t_MOST_GROUPS, g_MOST_GROUPS⟩ := T.g_MOST_GROUPS
  obtain ⟨t_MOST_LEAVES, g_MOST_LEAVES⟩ := T.g_MOST_LEAVES
  obtain ⟨t_MOST_STREAMS, g_MOST_STREAMS⟩ := T.g_MOST_STREAMS
  obtain ⟨t_PIPE, g_PIPE⟩ := T.g_PIPE
  refine F.ok sc_check_names (fun vs H Q E h => ln_check_names h) (fun cdv A outer s H vs Q E hr h => ⟨t_check_names K C, ?_, rd_check_names  h⟩)
  exact (pss_cons (ps_set (i := 3) sc_check_names.nd rfl (Or.inl rfl) (pe_callB cr_sortedS rfl T.b_sorted Pk.boot_sorted (pa_cons (pe_op opAdd (pe_op opAdd (pe_op opAdd (pe_lst (pa_cons (pe_glob rfl g_PIPE ⟨_, rfl⟩) pa_nil)) (pe_callTy (call_keysL rfl) rfl T.b_list Pk.boot_t_list (pa_cons (pv 0) pa_nil))) (pe_callTy (call_keysL rfl) rfl T.b_list Pk.boot_t_list (pa_cons (pv 1) pa_nil))) (pe_callTy (call_keysL rfl) rfl T.b_list Pk.boot_t_list (pa_cons (pv 2) pa_nil))) pa_nil)))
    (pss_cons (ps_for PassesOwn.never rfl (pi_range1 rfl T.b_range (pa_cons (pe_op opSub (pe_callB callLen rfl T.b_len Pk.boot_len (pa_cons (pv 3) pa_nil)) pe_int) pa_nil)) (pg_name (i := 4) sc_check_names.nd rfl (Or.inl rfl)) (pss_one (ps_if (pt_cmpR (opEq hr.units) (pe_ix ix_seq (pv 3) (pv 4) (fun _ _ => rfl)) (pe_ix ix_seq (pv 3) (pe_op opAdd (pv 4) pe_int) (fun _ _ => rfl)) (nomark _)) (pss_one ps_never) pss_nil)))
    (pss_cons (ps_set (i := 5) sc_check_names.nd rfl (Or.inl rfl) (pe_op opAdd (pe_cal f_missing_names hr pass0 (pa_cons (pv 0) (pa_cons (pv 0) (pa_cons (pe_glob rfl g_AROUND ⟨_, rfl⟩) pa_nil)))) (pe_cal f_missing_names hr pass0 (pa_cons (pv 1) (pa_cons (pv 1) (pa_cons (pe_glob rfl g_AROUND ⟨_, rfl⟩) pa_nil))))))
    (pss_cons (ps_set (i := 5) sc_check_names.nd rfl (Or.inl rfl) (pe_op opAdd (pe_op opAdd (pv 5) (pe_cal f_missing_names hr pass0 (pa_cons (pv 0) (pa_cons (pv 2) (pa_cons (pe_glob rfl g_HOUSE ⟨_, rfl⟩) pa_nil))))) (pe_cal f_missing_names hr pass0 (pa_cons (pv 1) (pa_cons (pv 2) (pa_cons (pe_glob rfl g_KIND ⟨_, rfl⟩) pa_nil))))))
    (pss_cons (ps_set (i := 5) sc_check_names.nd rfl (Or.inl rfl) (pe_op opAdd (pv 5) (pe_cal f_missing_names hr pass0 (pa_cons (pv 2) (pa_cons (pv 2) (pa_cons (pe_glob rfl g_GUIDE ⟨_, rfl⟩) pa_nil))))))
    (pss_one (ps_if (pt_cmpR opGt (pe_callB callLen rfl T.b_len Pk.boot_len (pa_cons (pv 5) pa_nil)) pe_int (nomark _)) (pss_one ps_never) pss_nil)))))))
theorem ok_is_in_itself {f : Addr} {fd : FuncData} (F : Fun K "is_in_itself" "is_in_itself" s_is_in_itself f fd) (T : Bl mg)   : FnOk P w K mg base CX0 1 f fd P_is_in_itself (sp_is_in_itself K C) := by
  obtain ⟨t_AROUND, g_AROUND⟩ := T.g_AROUND
  obtain ⟨t_GUIDE, g_GUIDE⟩ := T.g_GUIDE
  obtain ⟨t_HOUSE, g_HOUSE⟩ := T.g_HOUSE
  obtain ⟨t_KIND, g_KIND⟩ := T.g_KIND
  obtain ⟨t_LONGEST_NAME, g_LONGEST_NAME⟩ := T.g_LONGEST_NAME
  obtain ⟨t_MOST, g_MOST⟩ := T.g_MOST
  obtain ⟨t_MOST_BY, g_MOST_BY⟩ := T.g_MOST_BY
  obtain ⟨t_MOST_GROUPS, g_MOST_GROUPS⟩ := T.g_MOST_GROUPS
  obtain ⟨t_MOST_LEAVES, g_MOST_LEAVES⟩ := T.g_MOST_LEAVES
  obtain ⟨t_MOST_STREAMS, g_MOST_STREAMS⟩ := T.g_MOST_STREAMS
  obtain ⟨t_PIPE, g_PIPE⟩ := T.g_PIPE
  refine F.ok sc_is_in_itself (fun vs H Q E h => ln_is_in_itself h) (fun cdv A outer s H vs Q E hr h => ⟨t_is_in_itself K, ?_, rd_is_in_itself  h⟩)
  exact (pss_cons (ps_set (i := 2) sc_is_in_itself.nd rfl (Or.inl rfl) (pe_ix ix_seq (pe_dget (hu_of hr) (pv 1) (pv 0) (fun _ _ => rfl)) (pe_glob rfl g_AROUND ⟨_, rfl⟩) (fun _ _ => rfl)))
    (pss_cons (ps_for PassesOwn.never rfl (pi_range1 rfl T.b_range (pa_cons (pe_callB call_lenR rfl T.b_len Pk.boot_len (pa_cons (pv 1) pa_nil)) pa_nil)) (pg_name (i := 3) sc_is_in_itself.nd rfl (Or.inl rfl)) (pss_cons (ps_if (pt_cmpR opIsN (pv 2) pe_non (nomark _)) (pss_one (ps_ret pe_bl)) pss_nil)
    (pss_cons (ps_if (pt_cmpR (opEq hr.units) (pv 2) (pv 0) (nomark _)) (pss_one (ps_ret pe_bl)) pss_nil)
    (pss_one (ps_set (i := 2) sc_is_in_itself.nd rfl (Or.inl rfl) (pe_ix ix_seq (pe_dget (hu_of hr) (pv 1) (pv 2) (fun _ _ => rfl)) (pe_glob rfl g_AROUND ⟨_, rfl⟩) (fun _ _ => rfl)))))))
    (pss_one (ps_ret pe_bl))))
theorem ok_check_rings {f : Addr} {fd : FuncData} (F : Fun K "check_rings" "check_rings" s_check_rings f fd) (T : Bl mg)  (f_is_in_itself : Cal P w K mg base CX0 1 "is_in_itself" P_is_in_itself [] (sp_is_in_itself K C)) : FnOk P w K mg base CX0 2 f fd P_check_rings (sp_check_rings K C) := by
  obtain ⟨t_AROUND, g_AROUND⟩ := T.g_AROUND
  obtain ⟨t_GUIDE, g_GUIDE⟩ := T.g_GUIDE
  obtain ⟨t_HOUSE, g_HOUSE⟩ := T.g_HOUSE
  obtain ⟨t_KIND, g_KIND⟩ := T.g_KIND
  obtain ⟨t_LONGEST_NAME, g_LONGEST_NAME⟩ := T.g_LONGEST_NAME
  obtain ⟨t_MOST, g_MOST⟩ := T.g_MOST
  obtain ⟨t_MOST_BY, g_MOST_BY⟩ := T.g_MOST_BY
  obtain ⟨t_MOST_GROUPS, g_MOST_GROUPS⟩ := T.g_MOST_GROUPS
  obtain ⟨t_MOST_LEAVES, g_MOST_LEAVES⟩ := T.g_MOST_LEAVES
  obtain ⟨t_MOST_STREAMS, g_MOST_STREAMS⟩ := T.g_MOST_STREAMS
  obtain ⟨t_PIPE, g_PIPE⟩ := T.g_PIPE
  refine F.ok sc_check_rings (fun vs H Q E h => ln_check_rings h) (fun cdv A outer s H vs Q E hr h => ⟨t_check_rings K C, ?_, rd_check_rings  h⟩)
  exact (pss_cons (ps_lockN (ps_setLc (i := 2) (own := [("name", 3)]) (g := (gName 3)) (tt := (tB (tCall (sp_is_in_itself K C) [] E0 (tCons (tVar 3) (tCons (tVar 0) tNil))))) rfl sc_check_rings.nd rfl rfl (sw_true rfl rfl rfl (by decide +kernel)) (pi_keys (pv 0)) (blkOk_by (N := N_check_rings) (own := [("name", 3)]) (sc := defScope s_check_rings) (by decide +kernel)) (fun _ _ _ _ _ => (pg_name (i := 3) sc_check_rings.nd rfl (Or.inl rfl))) (fun _ _ _ _ _ => (pts_one (pt_val (pe_cal f_is_in_itself hr pass0 (pa_cons (pv 3) (pa_cons (pv 0) pa_nil)))))) (fun _ _ _ _ _ => (pv 3))))
    (pss_cons (ps_set (i := 2) sc_check_rings.nd rfl (Or.inl rfl) (pe_op opAdd (pv 2) (pe_lock (pe_lc (own := [("name", 3)]) (g := (gName 3)) (tt := (tB (tCall (sp_is_in_itself K C) [] E0 (tCons (tVar 3) (tCons (tVar 1) tNil))))) rfl sc_check_rings.nd (pi_keys (pv 1)) (blkOk_by (N := N_check_rings) (own := [("name", 3)]) (sc := defScope s_check_rings) (by decide +kernel)) (fun _ _ _ _ _ => (pg_name (i := 3) sc_check_rings.nd rfl (Or.inl rfl))) (fun _ _ _ _ _ => (pts_one (pt_val (pe_cal f_is_in_itself hr pass0 (pa_cons (pv 3) (pa_cons (pv 1) pa_nil)))))) (fun _ _ _ _ _ => (pv 3))))))
    (pss_one (ps_if (pt_cmpR opGt (pe_callB callLen rfl T.b_len Pk.boot_len (pa_cons (pv 2) pa_nil)) pe_int (nomark _)) (pss_one ps_never) pss_nil))))
theorem ok_check_parts {f : Addr} {fd : FuncData} (F : Fun K "check_parts" "check_parts" s_check_parts f fd) (T : Bl mg)  (f_check_credits : Cal P w K mg base CX0 12 "check_credits" P_check_credits [] (sp_check_credits K C)) (f_check_guides : Cal P w K mg base CX0 2 "check_guides" P_check_guides [] (sp_check_guides K C)) (f_check_rings : Cal P w K mg base CX0 2 "check_rings" P_check_rings [] (sp_check_rings K C)) (f_check_names : Cal P w K mg base CX0 2 "check_names" P_check_names [] (sp_check_names K C)) (f_check_kinds : Cal P w K mg base CX0 6 "check_kinds" P_check_kinds [] (sp_check_kinds K C)) : FnOk P w K mg base CX0 13 f fd P_check_parts (sp_check_parts K C) := by
  obtain ⟨t_AROUND, g_AROUND⟩ := T.g_AROUND
  obtain ⟨t_GUIDE, g_GUIDE⟩ := T.g_GUIDE
  obtain ⟨t_HOUSE, g_HOUSE⟩ := T.g_HOUSE
  obtain ⟨t_KIND, g_KIND⟩ := T.g_KIND
  obtain ⟨t_LONGEST_NAME, g_LONGEST_NAME⟩ := T.g_LONGEST_NAME
  obtain ⟨t_MOST, g_MOST⟩ := T.g_MOST
  obtain ⟨t_MOST_BY, g_MOST_BY⟩ := T.g_MOST_BY
  obtain ⟨t_MOST_GROUPS, g_MOST_GROUPS⟩ := T.g_MOST_GROUPS
  obtain ⟨t_MOST_LEAVES, g_MOST_LEAVES⟩ := T.g_MOST_LEAVES
  obtain ⟨t_MOST_STREAMS, g_MOST_STREAMS⟩ := T.g_MOST_STREAMS
  obtain ⟨t_PIPE, g_PIPE⟩ := T.g_PIPE
  refine F.ok sc_check_parts (fun vs H Q E h => ln_check_parts h) (fun cdv A outer s H vs Q E hr h => ⟨t_check_parts K C, ?_, rd_check_parts  h⟩)
  exact (pss_cons (ps_expr (pe_cal f_check_kinds hr pass0 (pa_cons (pv 0) (pa_cons (pv 1) (pa_cons (pv 2) (pa_cons (pv 3) pa_nil))))))
    (pss_cons (ps_expr (pe_cal f_check_names hr pass0 (pa_cons (pv 1) (pa_cons (pv 2) (pa_cons (pv 3) pa_nil)))))
    (pss_cons (ps_expr (pe_cal f_check_rings hr pass0 (pa_cons (pv 1) (pa_cons (pv 2) pa_nil))))
    (pss_cons (ps_expr (pe_cal f_check_guides hr pass0 (pa_cons (pv 3) pa_nil)))
    (pss_one (ps_expr (pe_cal f_check_credits hr pass0 (pa_cons (pv 0) (pa_cons (pv 1) (pa_cons (pv 2) (pa_cons (pv 3) pa_nil)))))))))))
theorem ok_ordered {f : Addr} {fd : FuncData} (F : Fun K "ordered" "ordered" s_ordered f fd) (T : Bl mg)   : FnOk P w K mg base CX0 1 f fd P_ordered (sp_ordered K C) := by
  obtain ⟨t_AROUND, g_AROUND⟩ := T.g_AROUND
  obtain ⟨t_GUIDE, g_GUIDE⟩ := T.g_GUIDE
  obtain ⟨t_HOUSE, g_HOUSE⟩ := T.g_HOUSE
  obtain ⟨t_KIND, g_KIND⟩ := T.g_KIND
  obtain ⟨t_LONGEST_NAME, g_LONGEST_NAME⟩ := T.g_LONGEST_NAME
  obtain ⟨t_MOST, g_MOST⟩ := T.g_MOST
  obtain ⟨t_MOST_BY, g_MOST_BY⟩ := T.g_MOST_BY
  obtain ⟨t_MOST_GROUPS, g_MOST_GROUPS⟩ := T.g_MOST_GROUPS
  obtain ⟨t_MOST_LEAVES, g_MOST_LEAVES⟩ := T.g_MOST_LEAVES
  obtain ⟨t_MOST_STREAMS, g_MOST_STREAMS⟩ := T.g_MOST_STREAMS
  obtain ⟨t_PIPE, g_PIPE⟩ := T.g_PIPE
  refine F.ok sc_ordered (fun vs H Q E h => ln_ordered h) (fun cdv A outer s H vs Q E hr h => ⟨t_ordered K, ?_, rd_ordered  h⟩)
  exact (pss_one (ps_ret (pe_dc (own := [("name", 1)]) (g := (gName 1)) (tt := tYes) rfl sc_ordered.nd (pi_list (pe_callB (call_keysS rfl) rfl T.b_sorted Pk.boot_sorted (pa_cons (pv 0) pa_nil))) (blkOk_by (N := N_ordered) (own := [("name", 1)]) (sc := defScope s_ordered) (by decide +kernel)) (fun _ _ _ _ _ => (pg_name (i := 1) sc_ordered.nd rfl (Or.inl rfl))) (fun _ _ _ _ _ => pts_nil) (fun _ _ _ _ _ => (pv 1)) (fun _ _ _ _ _ => (pe_callTy call_tuple_of rfl T.b_tuple Pk.boot_t_tuple (pa_cons (pe_dget (hu_of hr) (pv 0) (pv 1) (fun _ _ => rfl)) pa_nil))))))
theorem ok_pools_of {f : Addr} {fd : FuncData} (F : Fun K "pools_of" "pools_of" s_pools_of f fd) (T : Bl mg)  (f_ordered : Cal P w K mg base CX0 1 "ordered" P_ordered [] (sp_ordered K C)) : FnOk P w K mg base CX0 2 f fd P_pools_of (sp_pools_of K C) := by
  obtain ⟨t_AROUND, g_AROUND⟩ := T.g_AROUND
  obtain ⟨t_GUIDE, g_GUIDE⟩ := T.g_GUIDE
  obtain ⟨t_HOUSE, g_HOUSE⟩ := T.g_HOUSE
  obtain ⟨t_KIND, g_KIND⟩ := T.g_KIND
  obtain ⟨t_LONGEST_NAME, g_LONGEST_NAME⟩ := T.g_LONGEST_NAME
  obtain ⟨t_MOST, g_MOST⟩ := T.g_MOST
  obtain ⟨t_MOST_BY, g_MOST_BY⟩ := T.g_MOST_BY
  obtain ⟨t_MOST_GROUPS, g_MOST_GROUPS⟩ := T.g_MOST_GROUPS
  obtain ⟨t_MOST_LEAVES, g_MOST_LEAVES⟩ := T.g_MOST_LEAVES
  obtain ⟨t_MOST_STREAMS, g_MOST_STREAMS⟩ := T.g_MOST_STREAMS
  obtain ⟨t_PIPE, g_PIPE⟩ := T.g_PIPE
  refine F.ok sc_pools_of (fun vs H Q E h => ln_pools_of h) (fun cdv A outer s H vs Q E hr h => ⟨t_pools_of K C, ?_, rd_pools_of  h⟩)
  exact (pss_cons (ps_set (i := 4) sc_pools_of.nd rfl (Or.inl rfl) (pe_disp (pps_cons (pe_glob rfl g_PIPE ⟨_, rfl⟩) (pv 0) pps_nil) rfl rfl nofun (by decide)))
    (pss_cons (ps_for PassesOwn.never rfl (pi_tup (pe_tup (pa_cons (pv 1) (pa_cons (pv 2) pa_nil)))) (pg_name (i := 5) sc_pools_of.nd rfl (Or.inl rfl)) (pss_one (ps_lock (ps_for PassesOwn.never rfl (pi_items (pv 5)) (pg_tup rfl (pgs_cons (pg_name (i := 6) sc_pools_of.nd rfl (Or.inl rfl)) (pgs_cons (pg_name (i := 7) sc_pools_of.nd rfl (Or.inl rfl)) pgs_nil))) (pss_one (ps_asg (pe_slice slU (pv 7) po_none (po_some (pe_glob rfl g_AROUND ⟨_, rfl⟩))) (pg_sub (pv 4) (pv 6) (set_dict (hu_of hr)))))))))
    (pss_cons (ps_lock (ps_for PassesOwn.never rfl (pi_items (pv 3)) (pg_tup rfl (pgs_cons (pg_name (i := 6) sc_pools_of.nd rfl (Or.inl rfl)) (pgs_cons (pg_name (i := 7) sc_pools_of.nd rfl (Or.inl rfl)) pgs_nil))) (pss_one (ps_asg (pe_op opAdd (pe_slice slU (pv 7) po_none (po_some (pe_glob rfl g_MOST ⟨_, rfl⟩))) (pe_tup (pa_cons pe_str pa_nil))) (pg_sub (pv 4) (pv 6) (set_dict (hu_of hr)))))))
    (pss_one (ps_ret (pe_cal f_ordered hr pass0 (pa_cons (pv 4) pa_nil)))))))
theorem ok_Plan___init__ {f : Addr} {fd : FuncData} (F : Fun K "__init__" "Plan.__init__" s_Plan___init__ f fd) (T : Bl mg)  (f_pools_of : Cal P w K mg base CX0 2 "pools_of" P_pools_of [] (sp_pools_of K C)) (f_ordered : Cal P w K mg base CX0 1 "ordered" P_ordered [] (sp_ordered K C)) (f_check_parts : Cal P w K mg base CX0 13 "check_parts" P_check_parts [] (sp_check_parts K C)) : FnOk P w K mg base CX0 14 f fd P_Plan___init__ (sp_Plan___init__ K C) := by
  obtain ⟨t_AROUND, g_AROUND⟩ := T.g_AROUND
  obtain ⟨t_GUIDE, g_GUIDE⟩ := T.g_GUIDE
  obtain ⟨t_HOUSE, g_HOUSE⟩ := T.g_HOUSE
  obtain ⟨t_KIND, g_KIND⟩ := T.g_KIND
  obtain ⟨t_LONGEST_NAME, g_LONGEST_NAME⟩ := T.g_LONGEST_NAME
  obtain ⟨t_MOST, g_MOST⟩ := T.g_MOST
  obtain ⟨t_MOST_BY, g_MOST_BY⟩ := T.g_MOST_BY
  obtain ⟨t_MOST_GROUPS, g_MOST_GROUPS⟩ := T.g_MOST_GROUPS
  obtain ⟨t_MOST_LEAVES, g_MOST_LEAVES⟩ := T.g_MOST_LEAVES
  obtain ⟨t_MOST_STREAMS, g_MOST_STREAMS⟩ := T.g_MOST_STREAMS
  obtain ⟨t_PIPE, g_PIPE⟩ := T.g_PIPE
  refine F.ok sc_Plan___init__ (fun vs H Q E h => ln_Plan___init__ h) (fun cdv A outer s H vs Q E hr h => ⟨t_Plan___init__ K C, ?_, rd_Plan___init__  h⟩)
  exact (pss_cons (ps_expr (pe_cal f_check_parts hr pass0 (pa_cons (pv 1) (pa_cons (pv 2) (pa_cons (pv 3) (pa_cons (pv 4) pa_nil))))))
    (pss_cons (ps_fld (pv 0) (pe_callTy call_tuple_of rfl T.b_tuple Pk.boot_t_tuple (pa_cons (pv 1) pa_nil)) rfl)
    (pss_cons (ps_fld (pv 0) (pe_cal f_ordered hr pass0 (pa_cons (pv 2) pa_nil)) rfl)
    (pss_cons (ps_fld (pv 0) (pe_cal f_ordered hr pass0 (pa_cons (pv 3) pa_nil)) rfl)
    (pss_cons (ps_fld (pv 0) (pe_cal f_ordered hr pass0 (pa_cons (pv 4) pa_nil)) rfl)
    (pss_one (ps_fld (pv 0) (pe_cal f_pools_of hr pass0 (pa_cons (pe_fld (pv 0) rfl) (pa_cons (pe_fld (pv 0) rfl) (pa_cons (pe_fld (pv 0) rfl) (pa_cons (pe_fld (pv 0) rfl) pa_nil))))) rfl)))))))
theorem ok_has_word {f : Addr} {fd : FuncData} (F : Fun K "has_word" "has_word" s_has_word f fd) (T : Bl mg)   : FnOk P w K mg base CX0 1 f fd P_has_word (sp_has_word K) := by
  obtain ⟨t_AROUND, g_AROUND⟩ := T.g_AROUND
  obtain ⟨t_GUIDE, g_GUIDE⟩ := T.g_GUIDE
  obtain ⟨t_HOUSE, g_HOUSE⟩ := T.g_HOUSE
  obtain ⟨t_KIND, g_KIND⟩ := T.g_KIND
  obtain ⟨t_LONGEST_NAME, g_LONGEST_NAME⟩ := T.g_LONGEST_NAME
  obtain ⟨t_MOST, g_MOST⟩ := T.g_MOST
  obtain ⟨t_MOST_BY, g_MOST_BY⟩ := T.g_MOST_BY
  obtain ⟨t_MOST_GROUPS, g_MOST_GROUPS⟩ := T.g_MOST_GROUPS
  obtain ⟨t_MOST_LEAVES, g_MOST_LEAVES⟩ := T.g_MOST_LEAVES
  obtain ⟨t_MOST_STREAMS, g_MOST_STREAMS⟩ := T.g_MOST_STREAMS
  obtain ⟨t_PIPE, g_PIPE⟩ := T.g_PIPE
  refine F.ok sc_has_word (fun vs H Q E h => ln_has_word h) (fun cdv A outer s H vs Q E hr h => ⟨t_has_word K, ?_, rd_has_word  h⟩)
  exact (pss_cons (ps_if (PW.pt (pw_or (pt_not (pt_val (pe_callB call_isi rfl T.b_isinstance Pk.boot_isinstance (pa_cons (pv 0) (pa_cons (pe_bltn (v := .ty "tuple") rfl T.b_tuple Pk.boot_t_tuple rfl) pa_nil))))) (pw_or1 (pt_cmpR (opNe hr.units) (pe_callB callLen rfl T.b_len Pk.boot_len (pa_cons (pv 0) pa_nil)) pe_int (nomark _))))) (pss_one (ps_ret pe_bl)) pss_nil)
    (pss_one (ps_ret (pe_and (pe_callB call_isi rfl T.b_isinstance Pk.boot_isinstance (pa_cons (pe_ix ix_seq (pv 0) pe_int (fun _ _ => rfl)) (pa_cons (pe_bltn (v := .ty "str") rfl T.b_str Pk.boot_t_str rfl) pa_nil))) (pe_one (pe_cmpR opIn (pe_ix ix_seq (pv 0) pe_int (fun _ _ => rfl)) (pv 1) rfl))))))
theorem ok_is_by {f : Addr} {fd : FuncData} (F : Fun K "is_by" "is_by" s_is_by f fd) (T : Bl mg)  (f_is_number : Cal P w K mg base CX0 2 "is_number" P_is_number [] (sp_is_number K)) : FnOk P w K mg base CX0 3 f fd P_is_by (sp_is_by K) := by
  obtain ⟨t_AROUND, g_AROUND⟩ := T.g_AROUND
  obtain ⟨t_GUIDE, g_GUIDE⟩ := T.g_GUIDE
  obtain ⟨t_HOUSE, g_HOUSE⟩ := T.g_HOUSE
  obtain ⟨t_KIND, g_KIND⟩ := T.g_KIND
  obtain ⟨t_LONGEST_NAME, g_LONGEST_NAME⟩ := T.g_LONGEST_NAME
  obtain ⟨t_MOST, g_MOST⟩ := T.g_MOST
  obtain ⟨t_MOST_BY, g_MOST_BY⟩ := T.g_MOST_BY
  obtain ⟨t_MOST_GROUPS, g_MOST_GROUPS⟩ := T.g_MOST_GROUPS
  obtain ⟨t_MOST_LEAVES, g_MOST_LEAVES⟩ := T.g_MOST_LEAVES
  obtain ⟨t_MOST_STREAMS, g_MOST_STREAMS⟩ := T.g_MOST_STREAMS
  obtain ⟨t_PIPE, g_PIPE⟩ := T.g_PIPE
  refine F.ok sc_is_by (fun vs H Q E h => ln_is_by h) (fun cdv A outer s H vs Q E hr h => ⟨t_is_by K, ?_, rd_is_by  h⟩)
  exact (pss_one (ps_ret (pe_and (pe_cal f_is_number hr pass0 (pa_cons pe_int (pa_cons (pv 0) pa_nil))) (pe_one (pe_cmpR opLe (pv 0) (pe_glob rfl g_MOST_BY ⟨_, rfl⟩) (nomark _))))))
theorem ok_is_leaf {f : Addr} {fd : FuncData} (F : Fun K "is_leaf" "is_leaf" s_is_leaf f fd) (T : Bl mg)  (f_has_word : Cal P w K mg base CX0 1 "has_word" P_has_word [] (sp_has_word K)) (f_is_number : Cal P w K mg base CX0 2 "is_number" P_is_number [] (sp_is_number K)) (f_is_by : Cal P w K mg base CX0 3 "is_by" P_is_by [] (sp_is_by K)) : FnOk P w K mg base CX0 4 f fd P_is_leaf (sp_is_leaf K) := by
  obtain ⟨t_AROUND, g_AROUND⟩ := T.g_AROUND
  obtain ⟨t_GUIDE, g_GUIDE⟩ := T.g_GUIDE
  obtain ⟨t_HOUSE, g_HOUSE⟩ := T.g_HOUSE
  obtain ⟨t_KIND, g_KIND⟩ := T.g_KIND
  obtain ⟨t_LONGEST_NAME, g_LONGEST_NAME⟩ := T.g_LONGEST_NAME
  obtain ⟨t_MOST, g_MOST⟩ := T.g_MOST
  obtain ⟨t_MOST_BY, g_MOST_BY⟩ := T.g_MOST_BY
  obtain ⟨t_MOST_GROUPS, g_MOST_GROUPS⟩ := T.g_MOST_GROUPS
  obtain ⟨t_MOST_LEAVES, g_MOST_LEAVES⟩ := T.g_MOST_LEAVES
  obtain ⟨t_MOST_STREAMS, g_MOST_STREAMS⟩ := T.g_MOST_STREAMS
  obtain ⟨t_PIPE, g_PIPE⟩ := T.g_PIPE
  refine F.ok sc_is_leaf (fun vs H Q E h => ln_is_leaf h) (fun cdv A outer s H vs Q E hr h => ⟨t_is_leaf K, ?_, rd_is_leaf  h⟩)
  exact (pss_one (ps_ret (pe_and (pe_cal f_has_word hr pass0 (pa_cons (pv 0) (pa_cons (pe_tup (pa_cons pe_str pa_nil)) pa_nil))) (pe_and (pe_cal f_is_number hr pass0 (pa_cons pe_int (pa_cons (pe_ix ix_seq (pv 0) pe_int (fun _ _ => rfl)) pa_nil))) (pe_one (pe_cal f_is_by hr pass0 (pa_cons (pe_ix ix_seq (pv 0) pe_int (fun _ _ => rfl)) pa_nil)))))))
theorem ok_is_tree {f : Addr} {fd : FuncData} (F : Fun K "is_tree" "is_tree" s_is_tree f fd) (T : Bl mg)  (f_is_leaf : Cal P w K mg base CX0 4 "is_leaf" P_is_leaf [] (sp_is_leaf K)) (f_has_word : Cal P w K mg base CX0 1 "has_word" P_has_word [] (sp_has_word K)) : FnOk P w K mg base CX0 5 f fd P_is_tree (sp_is_tree K) := by
  obtain ⟨t_AROUND, g_AROUND⟩ := T.g_AROUND
  obtain ⟨t_GUIDE, g_GUIDE⟩ := T.g_GUIDE
  obtain ⟨t_HOUSE, g_HOUSE⟩ := T.g_HOUSE
  obtain ⟨t_KIND, g_KIND⟩ := T.g_KIND
  obtain ⟨t_LONGEST_NAME, g_LONGEST_NAME⟩ := T.g_LONGEST_NAME
  obtain ⟨t_MOST, g_MOST⟩ := T.g_MOST
  obtain ⟨t_MOST_BY, g_MOST_BY⟩ := T.g_MOST_BY
  obtain ⟨t_MOST_GROUPS, g_MOST_GROUPS⟩ := T.g_MOST_GROUPS
  obtain ⟨t_MOST_LEAVES, g_MOST_LEAVES⟩ := T.g_MOST_LEAVES
  obtain ⟨t_MOST_STREAMS, g_MOST_STREAMS⟩ := T.g_MOST_STREAMS
  obtain ⟨t_PIPE, g_PIPE⟩ := T.g_PIPE
  refine F.ok sc_is_tree (fun vs H Q E h => ln_is_tree h) (fun cdv A outer s H vs Q E hr h => ⟨t_is_tree K, ?_, rd_is_tree  h⟩)
  exact (pss_cons (ps_set (i := 1) sc_is_tree.nd rfl (Or.inl rfl) (pe_lst (pa_cons (pv 0) pa_nil)))
    (pss_cons (ps_set (i := 2) sc_is_tree.nd rfl (Or.inl rfl) pe_int)
    (pss_cons (ps_while PassesOwn.never (pt_cmpR opGt (pe_callB callLen rfl T.b_len Pk.boot_len (pa_cons (pv 1) pa_nil)) pe_int (nomark _)) (pss_cons (ps_set (i := 3) sc_is_tree.nd rfl (Or.inl rfl) (pe_bm0 PySem.F.plainAttrs_list PySem.F.slot_list_pop PySem.F.type_list_pop mt_pop (pv 1)))
    (Evl.pss_cut (ps_if (pt_val (pe_cal f_is_leaf hr pass0 (pa_cons (pv 3) pa_nil))) (pss_one (ps_set (i := 2) sc_is_tree.nd rfl (Or.inl rfl) (pe_op opAdd (pv 2) pe_int))) (pss_one (ps_if (pt_val (pe_cal f_has_word hr pass0 (pa_cons (pv 3) (pa_cons (pe_tup (pa_cons pe_str (pa_cons pe_str pa_nil))) pa_nil)))) (pss_cons (ps_expr (pe_bm PySem.F.plainAttrs_list PySem.F.slot_list_append PySem.F.type_list_append mt_append (pv 1) (pa_cons (pe_ix ix_seq (pv 3) pe_int (fun _ _ => rfl)) pa_nil)))
    (pss_one (ps_expr (pe_bm PySem.F.plainAttrs_list PySem.F.slot_list_append PySem.F.type_list_append mt_append (pv 1) (pa_cons (pe_ix ix_seq (pv 3) pe_int (fun _ _ => rfl)) pa_nil))))) (pss_one (ps_ret pe_bl)))))
    (pss_one (ps_if (pt_cmpR opGt (pe_op opAdd (pv 2) (pe_callB callLen rfl T.b_len Pk.boot_len (pa_cons (pv 1) pa_nil))) (pe_glob rfl g_MOST_LEAVES ⟨_, rfl⟩) (nomark _)) (pss_one (ps_ret pe_bl)) pss_nil)))))
    (pss_one (ps_ret pe_bl)))))
theorem ok_Rule___init__ {f : Addr} {fd : FuncData} (F : Fun K "__init__" "Rule.__init__" s_Rule___init__ f fd) (T : Bl mg)  (f_is_tree : Cal P w K mg base CX0 5 "is_tree" P_is_tree [] (sp_is_tree K)) : FnOk P w K mg base CX0 6 f fd P_Rule___init__ (sp_Rule___init__ K C) := by
  obtain ⟨t_AROUND, g_AROUND⟩ := T.g_AROUND
  obtain ⟨t_GUIDE, g_GUIDE⟩ := T.g_GUIDE
  obtain ⟨t_HOUSE, g_HOUSE⟩ := T.g_HOUSE
  obtain ⟨t_KIND, g_KIND⟩ := T.g_KIND
  obtain ⟨t_LONGEST_NAME, g_LONGEST_NAME⟩ := T.g_LONGEST_NAME
  obtain ⟨t_MOST, g_MOST⟩ := T.g_MOST
  obtain ⟨t_MOST_BY, g_MOST_BY⟩ := T.g_MOST_BY
  obtain ⟨t_MOST_GROUPS, g_MOST_GROUPS⟩ := T.g_MOST_GROUPS
  obtain ⟨t_MOST_LEAVES, g_MOST_LEAVES⟩ := T.g_MOST_LEAVES
  obtain ⟨t_MOST_STREAMS, g_MOST_STREAMS⟩ := T.g_MOST_STREAMS
  obtain ⟨t_PIPE, g_PIPE⟩ := T.g_PIPE
  refine F.ok sc_Rule___init__ (fun vs H Q E h => ln_Rule___init__ h) (fun cdv A outer s H vs Q E hr h => ⟨t_Rule___init__ K, ?_, rd_Rule___init__  h⟩)
  exact (pss_cons (ps_if (pt_not (pt_val (pe_cal f_is_tree hr pass0 (pa_cons (pv 1) pa_nil)))) (pss_one ps_never) pss_nil)
    (pss_one (ps_fld (pv 0) (pv 1) rfl)))
theorem ok__law_make_plan {f : Addr} {fd : FuncData} (F : Fun K "_law_make_plan" "_law_make_plan" s__law_make_plan f fd) (T : Bl mg)  (o_Rule___init__ : Own P w K mg base CX0 6 C.Rule "__init__" P_Rule___init__ (sp_Rule___init__ K C)) (K_Rule : Kls K mg "Rule" C.Rule) (o_Plan___init__ : Own P w K mg base CX0 14 C.Plan "__init__" P_Plan___init__ (sp_Plan___init__ K C)) (K_Plan : Kls K mg "Plan" C.Plan) (f__law_mixed : Cal P w K mg base CX0 2 "_law_mixed" P__law_mixed [] (sp_law_mixed K)) : FnOk P w K mg base CX0 16 f fd P__law_make_plan (sp_law_make_plan K C) := by
  obtain ⟨t_AROUND, g_AROUND⟩ := T.g_AROUND
  obtain ⟨t_GUIDE, g_GUIDE⟩ := T.g_GUIDE
  obtain ⟨t_HOUSE, g_HOUSE⟩ := T.g_HOUSE
  obtain ⟨t_KIND, g_KIND⟩ := T.g_KIND
  obtain ⟨t_LONGEST_NAME, g_LONGEST_NAME⟩ := T.g_LONGEST_NAME
  obtain ⟨t_MOST, g_MOST⟩ := T.g_MOST
  obtain ⟨t_MOST_BY, g_MOST_BY⟩ := T.g_MOST_BY
  obtain ⟨t_MOST_GROUPS, g_MOST_GROUPS⟩ := T.g_MOST_GROUPS
  obtain ⟨t_MOST_LEAVES, g_MOST_LEAVES⟩ := T.g_MOST_LEAVES
  obtain ⟨t_MOST_STREAMS, g_MOST_STREAMS⟩ := T.g_MOST_STREAMS
  obtain ⟨t_PIPE, g_PIPE⟩ := T.g_PIPE
  refine F.ok sc__law_make_plan (fun vs H Q E h => ln_law_make_plan h) (fun cdv A outer s H vs Q E hr h => ⟨t_law_make_plan K C, ?_, rd_law_make_plan  h⟩)
  exact (pss_cons (ps_set (i := 2) sc__law_make_plan.nd rfl (Or.inl rfl) (pe_lst pa_nil))
    (pss_cons (ps_for PassesOwn.never rfl (pi_tup (pe_tup (pa_cons pe_str (pa_cons pe_str (pa_cons pe_str pa_nil))))) (pg_name (i := 3) sc__law_make_plan.nd rfl (Or.inl rfl)) (pss_cons (ps_par (i := 4) (j := 5) (by rfl) sc__law_make_plan.nd rfl rfl (by decide) rfl rfl (pa_cons (pe_dget (hu_of hr) (pv 1) (pv 3) (fun _ _ => rfl)) (pa_cons pe_dnewK pa_nil)) (by rfl))
    (pss_cons (ps_for PassesOwn.never rfl (pi_list (pe_cal f__law_mixed hr pass0 (pa_cons (pv 0) (pa_cons (pe_callTy (call_keysL rfl) rfl T.b_list Pk.boot_t_list (pa_cons (pv 4) pa_nil)) pa_nil)))) (pg_name (i := 6) sc__law_make_plan.nd rfl (Or.inl rfl)) (pss_one (ps_asg (pe_op opAdd (pe_op opAdd (pe_slice slU (pe_dget (hu_of hr) (pv 4) (pv 6) (fun _ _ => rfl)) po_none (po_some pe_int)) (pe_tup (pa_cons (pe_mk K_Rule o_Rule___init__ hr pass0 (pa_cons (pe_ix ix_seq (pe_dget (hu_of hr) (pv 4) (pv 6) (fun _ _ => rfl)) pe_int (fun _ _ => rfl)) pa_nil)) pa_nil))) (pe_slice slU (pe_dget (hu_of hr) (pv 4) (pv 6) (fun _ _ => rfl)) (po_some pe_int) po_none)) (pg_sub (pv 5) (pv 6) (set_dict (hu_of hr))))))
    (pss_one (ps_expr (pe_bm PySem.F.plainAttrs_list PySem.F.slot_list_append PySem.F.type_list_append mt_append (pv 2) (pa_cons (pv 5) pa_nil)))))))
    (pss_cons (ps_asg (pe_dget (hu_of hr) (pv 1) pe_str (fun _ _ => rfl)) (pg_tup rfl (pgs_cons (pg_name (i := 7) sc__law_make_plan.nd rfl (Or.inl rfl)) (pgs_cons (pg_name (i := 8) sc__law_make_plan.nd rfl (Or.inl rfl)) (pgs_cons (pg_name (i := 9) sc__law_make_plan.nd rfl (Or.inl rfl)) pgs_nil)))))
    (pss_one (ps_ret (pe_mk K_Plan o_Plan___init__ hr pass0 (pa_cons (pe_tup (pa_cons (pv 7) (pa_cons (pe_mk K_Rule o_Rule___init__ hr pass0 (pa_cons (pv 8) pa_nil)) (pa_cons (pv 9) pa_nil)))) (pa_cons (pe_ix ix_seq (pv 2) pe_int (fun _ _ => rfl)) (pa_cons (pe_ix ix_seq (pv 2) pe_int (fun _ _ => rfl)) (pa_cons (pe_ix ix_seq (pv 2) pe_int (fun _ _ => rfl)) pa_nil))))))))))
theorem ok__law_around {f : Addr} {fd : FuncData} (F : Fun K "_law_around" "_law_around" s__law_around f fd) (T : Bl mg)   : FnOk P w K mg base CX0 1 f fd P__law_around (sp_law_around K C) := by
  obtain ⟨t_AROUND, g_AROUND⟩ := T.g_AROUND
  obtain ⟨t_GUIDE, g_GUIDE⟩ := T.g_GUIDE
  obtain ⟨t_HOUSE, g_HOUSE⟩ := T.g_HOUSE
  obtain ⟨t_KIND, g_KIND⟩ := T.g_KIND
  obtain ⟨t_LONGEST_NAME, g_LONGEST_NAME⟩ := T.g_LONGEST_NAME
  obtain ⟨t_MOST, g_MOST⟩ := T.g_MOST
  obtain ⟨t_MOST_BY, g_MOST_BY⟩ := T.g_MOST_BY
  obtain ⟨t_MOST_GROUPS, g_MOST_GROUPS⟩ := T.g_MOST_GROUPS
  obtain ⟨t_MOST_LEAVES, g_MOST_LEAVES⟩ := T.g_MOST_LEAVES
  obtain ⟨t_MOST_STREAMS, g_MOST_STREAMS⟩ := T.g_MOST_STREAMS
  obtain ⟨t_PIPE, g_PIPE⟩ := T.g_PIPE
  refine F.ok sc__law_around (fun vs H Q E h => ln_law_around h) (fun cdv A outer s H vs Q E hr h => ⟨t_law_around K, ?_, rd_law_around  h⟩)
  exact (pss_cons (ps_set (i := 2) sc__law_around.nd rfl (Or.inl rfl) (pe_lst pa_nil))
    (pss_cons (ps_while PassesOwn.never (pt_cmpR opNotN (pv 1) pe_non (nomark _)) (pss_cons (ps_expr (pe_bm PySem.F.plainAttrs_list PySem.F.slot_list_append PySem.F.type_list_append mt_append (pv 2) (pa_cons (pv 1) pa_nil)))
    (pss_one (ps_set (i := 1) sc__law_around.nd rfl (Or.inl rfl) (pe_ix ix_seq (pe_dget (hu_of hr) (pv 0) (pv 1) (fun _ _ => rfl)) pe_int (fun _ _ => rfl))))))
    (pss_one (ps_ret (pv 2)))))
theorem ok__law_over {f : Addr} {fd : FuncData} (F : Fun K "_law_over" "_law_over" s__law_over f fd) (T : Bl mg)  (f__law_around : Cal P w K mg base CX0 1 "_law_around" P__law_around [] (sp_law_around K C)) : FnOk P w K mg base CX0 2 f fd P__law_over (sp_law_over K C) := by
  obtain ⟨t_AROUND, g_AROUND⟩ := T.g_AROUND
  obtain ⟨t_GUIDE, g_GUIDE⟩ := T.g_GUIDE
  obtain ⟨t_HOUSE, g_HOUSE⟩ := T.g_HOUSE
  obtain ⟨t_KIND, g_KIND⟩ := T.g_KIND
  obtain ⟨t_LONGEST_NAME, g_LONGEST_NAME⟩ := T.g_LONGEST_NAME
  obtain ⟨t_MOST, g_MOST⟩ := T.g_MOST
  obtain ⟨t_MOST_BY, g_MOST_BY⟩ := T.g_MOST_BY
  obtain ⟨t_MOST_GROUPS, g_MOST_GROUPS⟩ := T.g_MOST_GROUPS
  obtain ⟨t_MOST_LEAVES, g_MOST_LEAVES⟩ := T.g_MOST_LEAVES
  obtain ⟨t_MOST_STREAMS, g_MOST_STREAMS⟩ := T.g_MOST_STREAMS
  obtain ⟨t_PIPE, g_PIPE⟩ := T.g_PIPE
  refine F.ok sc__law_over (fun vs H Q E h => ln_law_over h) (fun cdv A outer s H vs Q E hr h => ⟨t_law_over K C, ?_, rd_law_over  h⟩)
  exact (pss_cons (ps_asg (pe_slice slU (pe_dget (hu_of hr) (pe_dget (hu_of hr) (pv 0) pe_str (fun _ _ => rfl)) (pv 1) (fun _ _ => rfl)) (po_some pe_int) (po_some pe_int)) (pg_tup rfl (pgs_cons (pg_name (i := 2) sc__law_over.nd rfl (Or.inl rfl)) (pgs_cons (pg_name (i := 3) sc__law_over.nd rfl (Or.inl rfl)) pgs_nil))))
    (pss_cons (ps_set (i := 4) sc__law_over.nd rfl (Or.inl rfl) (pe_op opAdd (pe_lst (pa_cons (pv 1) pa_nil)) (pe_cal f__law_around hr pass0 (pa_cons (pe_dget (hu_of hr) (pv 0) pe_str (fun _ _ => rfl)) (pa_cons (pv 2) pa_nil)))))
    (pss_one (ps_ret (pe_op opAdd (pe_op opAdd (pv 4) (pe_cal f__law_around hr pass0 (pa_cons (pe_dget (hu_of hr) (pv 0) pe_str (fun _ _ => rfl)) (pa_cons (pv 3) pa_nil)))) (pe_lst (pa_cons pe_str pa_nil)))))))
theorem ok_Unknown___init__ {f : Addr} {fd : FuncData} (F : Fun K "__init__" "Unknown.__init__" s_Unknown___init__ f fd) (T : Bl mg)   : FnOk P w K mg base CX0 1 f fd P_Unknown___init__ (rOneI K C.Unknown "name") := by
  obtain ⟨t_AROUND, g_AROUND⟩ := T.g_AROUND
  obtain ⟨t_GUIDE, g_GUIDE⟩ := T.g_GUIDE
  obtain ⟨t_HOUSE, g_HOUSE⟩ := T.g_HOUSE
  obtain ⟨t_KIND, g_KIND⟩ := T.g_KIND
  obtain ⟨t_LONGEST_NAME, g_LONGEST_NAME⟩ := T.g_LONGEST_NAME
  obtain ⟨t_MOST, g_MOST⟩ := T.g_MOST
  obtain ⟨t_MOST_BY, g_MOST_BY⟩ := T.g_MOST_BY
  obtain ⟨t_MOST_GROUPS, g_MOST_GROUPS⟩ := T.g_MOST_GROUPS
  obtain ⟨t_MOST_LEAVES, g_MOST_LEAVES⟩ := T.g_MOST_LEAVES
  obtain ⟨t_MOST_STREAMS, g_MOST_STREAMS⟩ := T.g_MOST_STREAMS
  obtain ⟨t_PIPE, g_PIPE⟩ := T.g_PIPE
  refine F.ok sc_Unknown___init__ (fun vs H Q E h => ln_Unknown___init__ h) (fun cdv A outer s H vs Q E hr h => ⟨t_Unknown___init__ K, ?_, rd_Unknown___init__  h⟩)
  exact (pss_one (ps_ost (pv 0) (pv 1)))
theorem ok_Plan___getitem__ {f : Addr} {fd : FuncData} (F : Fun K "__getitem__" "Plan.__getitem__" s_Plan___getitem__ f fd) (T : Bl mg)  (o_Plan___contains__ : Own P w K mg base CX0 2 C.Plan "__contains__" P_Plan___contains__ (sp_Plan___contains__ K C)) (E_Unknown : ErrK K mg "Unknown" C.Unknown) (i_Unknown : ErrI P w K mg base 1 C.Unknown P_Unknown___init__ (rOneI K C.Unknown "name")) : FnOk P w K mg base (L2.CX P w) 3 f fd P_Plan___getitem__ (sp_Plan___getitem__X K C) := by
  obtain ⟨t_AROUND, g_AROUND⟩ := T.g_AROUND
  obtain ⟨t_GUIDE, g_GUIDE⟩ := T.g_GUIDE
  obtain ⟨t_HOUSE, g_HOUSE⟩ := T.g_HOUSE
  obtain ⟨t_KIND, g_KIND⟩ := T.g_KIND
  obtain ⟨t_LONGEST_NAME, g_LONGEST_NAME⟩ := T.g_LONGEST_NAME
  obtain ⟨t_MOST, g_MOST⟩ := T.g_MOST
  obtain ⟨t_MOST_BY, g_MOST_BY⟩ := T.g_MOST_BY
  obtain ⟨t_MOST_GROUPS, g_MOST_GROUPS⟩ := T.g_MOST_GROUPS
  obtain ⟨t_MOST_LEAVES, g_MOST_LEAVES⟩ := T.g_MOST_LEAVES
  obtain ⟨t_MOST_STREAMS, g_MOST_STREAMS⟩ := T.g_MOST_STREAMS
  obtain ⟨t_PIPE, g_PIPE⟩ := T.g_PIPE
  refine F.okX sc_Plan___getitem__ (fun vs H Q E h => ln_Plan___getitem__X h) (fun cdv A outer s H vs Q E hr h => ⟨t_Plan___getitem__X K C E, ?_, rd_Plan___getitem__X  h⟩)
  exact (pss_cons (ps_if (pt_cmpR (op_notInOwn o_Plan___contains__ hr pass0) (pv 1) (pv 0) rfl) (pss_one (ps_raise rfl (takes_of rfl rfl rfl rfl) (pmk_err E_Unknown i_Unknown hr (pa_cons (pv 1) pa_nil)))) pss_nil)
    (pss_one (ps_ret (pe_dget (hu_of hr) (pe_fld (pv 0) rfl) (pv 1) (fun _ _ => rfl)))))
theorem ok_Rule_tree {f : Addr} {fd : FuncData} (F : Fun K "tree" "Rule.tree" s_Rule_tree f fd) (T : Bl mg)   : FnOk P w K mg base CX0 1 f fd P_Rule_tree (sp_Rule_tree K C) := by
  obtain ⟨t_AROUND, g_AROUND⟩ := T.g_AROUND
  obtain ⟨t_GUIDE, g_GUIDE⟩ := T.g_GUIDE
  obtain ⟨t_HOUSE, g_HOUSE⟩ := T.g_HOUSE
  obtain ⟨t_KIND, g_KIND⟩ := T.g_KIND
  obtain ⟨t_LONGEST_NAME, g_LONGEST_NAME⟩ := T.g_LONGEST_NAME
  obtain ⟨t_MOST, g_MOST⟩ := T.g_MOST
  obtain ⟨t_MOST_BY, g_MOST_BY⟩ := T.g_MOST_BY
  obtain ⟨t_MOST_GROUPS, g_MOST_GROUPS⟩ := T.g_MOST_GROUPS
  obtain ⟨t_MOST_LEAVES, g_MOST_LEAVES⟩ := T.g_MOST_LEAVES
  obtain ⟨t_MOST_STREAMS, g_MOST_STREAMS⟩ := T.g_MOST_STREAMS
  obtain ⟨t_PIPE, g_PIPE⟩ := T.g_PIPE
  refine F.ok sc_Rule_tree (fun vs H Q E h => ln_Rule_tree h) (fun cdv A outer s H vs Q E hr h => ⟨t_Rule_tree K, ?_, rd_Rule_tree  h⟩)
  exact (pss_one (ps_ret (pe_fld (pv 0) rfl)))
theorem ok__law_pool {f : Addr} {fd : FuncData} (F : Fun K "_law_pool" "_law_pool" s__law_pool f fd) (T : Bl mg)   : FnOk P w K mg base CX0 1 f fd P__law_pool (sp_law_pool K C) := by
  obtain ⟨t_AROUND, g_AROUND⟩ := T.g_AROUND
  obtain ⟨t_GUIDE, g_GUIDE⟩ := T.g_GUIDE
  obtain ⟨t_HOUSE, g_HOUSE⟩ := T.g_HOUSE
  obtain ⟨t_KIND, g_KIND⟩ := T.g_KIND
  obtain ⟨t_LONGEST_NAME, g_LONGEST_NAME⟩ := T.g_LONGEST_NAME
  obtain ⟨t_MOST, g_MOST⟩ := T.g_MOST
  obtain ⟨t_MOST_BY, g_MOST_BY⟩ := T.g_MOST_BY
  obtain ⟨t_MOST_GROUPS, g_MOST_GROUPS⟩ := T.g_MOST_GROUPS
  obtain ⟨t_MOST_LEAVES, g_MOST_LEAVES⟩ := T.g_MOST_LEAVES
  obtain ⟨t_MOST_STREAMS, g_MOST_STREAMS⟩ := T.g_MOST_STREAMS
  obtain ⟨t_PIPE, g_PIPE⟩ := T.g_PIPE
  refine F.ok sc__law_pool (fun vs H Q E h => ln_law_pool h) (fun cdv A outer s H vs Q E hr h => ⟨t_law_pool K, ?_, rd_law_pool  h⟩)
  exact (pss_cons (ps_if (pt_cmpR (opEq hr.units) (pv 1) pe_str (nomark _)) (pss_one (ps_ret (pe_dget (hu_of hr) (pv 0) pe_str (fun _ _ => rfl)))) pss_nil)
    (pss_cons (ps_if (pt_cmp (pc_din (hu_of hr) (pv 1) (pe_dget (hu_of hr) (pv 0) pe_str (fun _ _ => rfl)))) (pss_one (ps_ret (pe_op opAdd (pe_slice slU (pe_dget (hu_of hr) (pe_dget (hu_of hr) (pv 0) pe_str (fun _ _ => rfl)) (pv 1) (fun _ _ => rfl)) po_none (po_some pe_int)) (pe_tup (pa_cons pe_str pa_nil))))) pss_nil)
    (pss_cons (ps_set (i := 2) sc__law_pool.nd rfl (Or.inl rfl) (pe_ifExp (pt_cmp (pc_din (hu_of hr) (pv 1) (pe_dget (hu_of hr) (pv 0) pe_str (fun _ _ => rfl)))) pe_str pe_str))
    (pss_one (ps_ret (pe_slice slU (pe_dget (hu_of hr) (pe_dget (hu_of hr) (pv 0) (pv 2) (fun _ _ => rfl)) (pv 1) (fun _ _ => rfl)) po_none (po_some pe_int)))))))
theorem ok__law_pool_right {f : Addr} {fd : FuncData} (F : Fun K "_law_pool_right" "_law_pool_right" s__law_pool_right f fd) (T : Bl mg)  (o_Rule_tree : Own P w K mg base CX0 1 C.Rule "tree" P_Rule_tree (sp_Rule_tree K C)) (K_Rule : Kls K mg "Rule" C.Rule) (f__law_alike : CalG P w K mg base CX0 1 "_law_alike" P__law_alike (sp_law_alike K)) (o_Plan___contains__ : Own P w K mg base CX0 2 C.Plan "__contains__" P_Plan___contains__ (sp_Plan___contains__ K C)) (on_Plan___getitem__ : Own P w K mg base (L2.CX P w) 3 C.Plan "__getitem__" P_Plan___getitem__ (sp_Plan___getitem__ K C)) (f__law_pool : Cal P w K mg base CX0 1 "_law_pool" P__law_pool [] (sp_law_pool K C)) : FnG P w K mg base CX0 5 f fd P__law_pool_right (sp_law_pool_right K C) := by
  obtain ⟨t_AROUND, g_AROUND⟩ := T.g_AROUND
  obtain ⟨t_GUIDE, g_GUIDE⟩ := T.g_GUIDE
  obtain ⟨t_HOUSE, g_HOUSE⟩ := T.g_HOUSE
  obtain ⟨t_KIND, g_KIND⟩ := T.g_KIND
  obtain ⟨t_LONGEST_NAME, g_LONGEST_NAME⟩ := T.g_LONGEST_NAME
  obtain ⟨t_MOST, g_MOST⟩ := T.g_MOST
  obtain ⟨t_MOST_BY, g_MOST_BY⟩ := T.g_MOST_BY
  obtain ⟨t_MOST_GROUPS, g_MOST_GROUPS⟩ := T.g_MOST_GROUPS
  obtain ⟨t_MOST_LEAVES, g_MOST_LEAVES⟩ := T.g_MOST_LEAVES
  obtain ⟨t_MOST_STREAMS, g_MOST_STREAMS⟩ := T.g_MOST_STREAMS
  obtain ⟨t_PIPE, g_PIPE⟩ := T.g_PIPE
  refine okG F sc__law_pool_right (fun vs H Q E h => ln_law_pool_right h) (fun cdv A outer s H vs Q E gd hr h => ⟨t_law_pool_right K C, ?_, rd_law_pool_right  h⟩)
  exact (pss_cons (ps_asg (pe_cal f__law_pool hr pass0 (pa_cons (pv 1) (pa_cons (pv 2) pa_nil))) (pg_tup rfl (pgs_cons (pg_name (i := 3) sc__law_pool_right.nd rfl (Or.inl rfl)) (pgs_cons (pg_name (i := 4) sc__law_pool_right.nd rfl (Or.inl rfl)) (pgs_cons (pg_name (i := 5) sc__law_pool_right.nd rfl (Or.inl rfl)) pgs_nil)))))
    (pss_cons (ps_set (i := 6) sc__law_pool_right.nd rfl (Or.inl rfl) (pe_ixO on_Plan___getitem__ hr passLA (pv 0) (pv 2)))
    (pss_cons (ps_if (PW.pt (pw_or (pt_not (pt_val (pe_callB call_isi rfl T.b_isinstance Pk.boot_isinstance (pa_cons (pv 6) (pa_cons (pe_bltn (v := .ty "tuple") rfl T.b_tuple Pk.boot_t_tuple rfl) pa_nil))))) (pw_or (pt_cmpR (opNe hr.units) (pe_callB callLen rfl T.b_len Pk.boot_len (pa_cons (pv 6) pa_nil)) pe_int (nomark _)) (pw_or1 (pt_not (pt_val (pe_callB call_isi rfl T.b_isinstance Pk.boot_isinstance (pa_cons (pe_ix ix_seq (pv 6) pe_int (fun _ _ => rfl)) (pa_cons (pe_glob rfl K_Rule.at_ rfl) pa_nil))))))))) (pss_one (ps_ret pe_bl)) pss_nil)
    (pss_one (ps_ret (pe_and (pe_calg f__law_alike gd hr pass0 (pa_cons (pe_lst (pa_cons (pe_ix ix_seq (pv 6) pe_int (fun _ _ => rfl)) (pa_cons (pe_mt0 K_Rule o_Rule_tree (pe_ix ix_seq (pv 6) pe_int (fun _ _ => rfl)) hr pass0) (pa_cons (pe_ix ix_seq (pv 6) pe_int (fun _ _ => rfl)) pa_nil)))) (pa_cons (pe_lst (pa_cons (pv 3) (pa_cons (pv 4) (pa_cons (pv 5) pa_nil)))) pa_nil))) (pe_one (pe_cmpR (op_inOwn o_Plan___contains__ hr pass0) (pv 2) (pv 0) rfl))))))))
theorem ok__law_shared {f : Addr} {fd : FuncData} (F : Fun K "_law_shared" "_law_shared" s__law_shared f fd) (T : Bl mg)   : FnOk P w K mg base CX0 1 f fd P__law_shared (sp_law_shared K C) := by
  obtain ⟨t_AROUND, g_AROUND⟩ := T.g_AROUND
  obtain ⟨t_GUIDE, g_GUIDE⟩ := T.g_GUIDE
  obtain ⟨t_HOUSE, g_HOUSE⟩ := T.g_HOUSE
  obtain ⟨t_KIND, g_KIND⟩ := T.g_KIND
  obtain ⟨t_LONGEST_NAME, g_LONGEST_NAME⟩ := T.g_LONGEST_NAME
  obtain ⟨t_MOST, g_MOST⟩ := T.g_MOST
  obtain ⟨t_MOST_BY, g_MOST_BY⟩ := T.g_MOST_BY
  obtain ⟨t_MOST_GROUPS, g_MOST_GROUPS⟩ := T.g_MOST_GROUPS
  obtain ⟨t_MOST_LEAVES, g_MOST_LEAVES⟩ := T.g_MOST_LEAVES
  obtain ⟨t_MOST_STREAMS, g_MOST_STREAMS⟩ := T.g_MOST_STREAMS
  obtain ⟨t_PIPE, g_PIPE⟩ := T.g_PIPE
  refine F.ok sc__law_shared (fun vs H Q E h => ln_law_shared h) (fun cdv A outer s H vs Q E hr h => ⟨t_law_shared K, ?_, rd_law_shared  h⟩)
  exact (pss_one (ps_ret (pe_callB cr_sortedS rfl T.b_sorted Pk.boot_sorted (pa_cons (pe_op opAdd (pe_op opAdd (pe_callTy (call_keysL rfl) rfl T.b_list Pk.boot_t_list (pa_cons (pe_dget (hu_of hr) (pv 0) pe_str (fun _ _ => rfl)) pa_nil)) (pe_callTy (call_keysL rfl) rfl T.b_list Pk.boot_t_list (pa_cons (pe_dget (hu_of hr) (pv 0) pe_str (fun _ _ => rfl)) pa_nil))) (pe_lst (pa_cons pe_str pa_nil))) pa_nil))))
theorem ok_Plan__row {f : Addr} {fd : FuncData} (F : Fun K "_row" "Plan._row" s_Plan__row f fd) (T : Bl mg)  (f_is_name : Cal P w K mg base CX0 1 "is_name" P_is_name [] (sp_is_name K)) (E_Unknown : ErrK K mg "Unknown" C.Unknown) (i_Unknown : ErrI P w K mg base 1 C.Unknown P_Unknown___init__ (rOneI K C.Unknown "name")) : FnOk P w K mg base (L2.CX P w) 3 f fd P_Plan__row (sp_Plan__rowX K C) := by
  obtain ⟨t_AROUND, g_AROUND⟩ := T.g_AROUND
  obtain ⟨t_GUIDE, g_GUIDE⟩ := T.g_GUIDE
  obtain ⟨t_HOUSE, g_HOUSE⟩ := T.g_HOUSE
  obtain ⟨t_KIND, g_KIND⟩ := T.g_KIND
  obtain ⟨t_LONGEST_NAME, g_LONGEST_NAME⟩ := T.g_LONGEST_NAME
  obtain ⟨t_MOST, g_MOST⟩ := T.g_MOST
  obtain ⟨t_MOST_BY, g_MOST_BY⟩ := T.g_MOST_BY
  obtain ⟨t_MOST_GROUPS, g_MOST_GROUPS⟩ := T.g_MOST_GROUPS
  obtain ⟨t_MOST_LEAVES, g_MOST_LEAVES⟩ := T.g_MOST_LEAVES
  obtain ⟨t_MOST_STREAMS, g_MOST_STREAMS⟩ := T.g_MOST_STREAMS
  obtain ⟨t_PIPE, g_PIPE⟩ := T.g_PIPE
  refine F.okX sc_Plan__row (fun vs H Q E h => ln_Plan__rowX h) (fun cdv A outer s H vs Q E hr h => ⟨t_Plan__rowX K C E, ?_, rd_Plan__rowX  h⟩)
  exact (pss_cons (ps_if (PW.pt (pw_or (pt_not (pt_val (pe_cal f_is_name hr pass0 (pa_cons (pv 1) pa_nil)))) (pw_or1 (pt_cmp (pc_dnotin (hu_of hr) (pv 1) (pe_fld (pv 0) rfl)))))) (pss_one (ps_raise rfl (takes_of rfl rfl rfl rfl) (pmk_err E_Unknown i_Unknown hr (pa_cons (pv 1) pa_nil)))) pss_nil)
    (pss_one (ps_ret (pe_dget (hu_of hr) (pe_fld (pv 0) rfl) (pv 1) (fun _ _ => rfl)))))
theorem ok_Plan_guide {f : Addr} {fd : FuncData} (F : Fun K "guide" "Plan.guide" s_Plan_guide f fd) (T : Bl mg)  (o_Plan__row : Own P w K mg base (L2.CX P w) 3 C.Plan "_row" P_Plan__row (sp_Plan__rowX K C)) (K_Plan : Kls K mg "Plan" C.Plan) : FnOk P w K mg base (L2.CX P w) 4 f fd P_Plan_guide (sp_Plan_guideX K C) := by
  obtain ⟨t_AROUND, g_AROUND⟩ := T.g_AROUND
  obtain ⟨t_GUIDE, g_GUIDE⟩ := T.g_GUIDE
  obtain ⟨t_HOUSE, g_HOUSE⟩ := T.g_HOUSE
  obtain ⟨t_KIND, g_KIND⟩ := T.g_KIND
  obtain ⟨t_LONGEST_NAME, g_LONGEST_NAME⟩ := T.g_LONGEST_NAME
  obtain ⟨t_MOST, g_MOST⟩ := T.g_MOST
  obtain ⟨t_MOST_BY, g_MOST_BY⟩ := T.g_MOST_BY
  obtain ⟨t_MOST_GROUPS, g_MOST_GROUPS⟩ := T.g_MOST_GROUPS
  obtain ⟨t_MOST_LEAVES, g_MOST_LEAVES⟩ := T.g_MOST_LEAVES
  obtain ⟨t_MOST_STREAMS, g_MOST_STREAMS⟩ := T.g_MOST_STREAMS
  obtain ⟨t_PIPE, g_PIPE⟩ := T.g_PIPE
  refine F.okX sc_Plan_guide (fun vs H Q E h => ln_Plan_guideX h) (fun cdv A outer s H vs Q E hr h => ⟨t_Plan_guideX K C E, ?_, rd_Plan_guideX  h⟩)
  exact (pss_one (ps_ret (pe_ix ix_seq (pe_mt K_Plan o_Plan__row (pv 0) hr (passes_call (takes_of rfl rfl rfl rfl) fun _ _ _ _ z => z) (pa_cons (pv 1) pa_nil)) (pe_glob rfl g_GUIDE ⟨_, rfl⟩) (fun _ _ => rfl))))
theorem ok_Plan_most {f : Addr} {fd : FuncData} (F : Fun K "most" "Plan.most" s_Plan_most f fd) (T : Bl mg)  (o_Plan__row : Own P w K mg base (L2.CX P w) 3 C.Plan "_row" P_Plan__row (sp_Plan__rowX K C)) (K_Plan : Kls K mg "Plan" C.Plan) : FnOk P w K mg base (L2.CX P w) 4 f fd P_Plan_most (sp_Plan_mostX K C) := by
  obtain ⟨t_AROUND, g_AROUND⟩ := T.g_AROUND
  obtain ⟨t_GUIDE, g_GUIDE⟩ := T.g_GUIDE
  obtain ⟨t_HOUSE, g_HOUSE⟩ := T.g_HOUSE
  obtain ⟨t_KIND, g_KIND⟩ := T.g_KIND
  obtain ⟨t_LONGEST_NAME, g_LONGEST_NAME⟩ := T.g_LONGEST_NAME
  obtain ⟨t_MOST, g_MOST⟩ := T.g_MOST
  obtain ⟨t_MOST_BY, g_MOST_BY⟩ := T.g_MOST_BY
  obtain ⟨t_MOST_GROUPS, g_MOST_GROUPS⟩ := T.g_MOST_GROUPS
  obtain ⟨t_MOST_LEAVES, g_MOST_LEAVES⟩ := T.g_MOST_LEAVES
  obtain ⟨t_MOST_STREAMS, g_MOST_STREAMS⟩ := T.g_MOST_STREAMS
  obtain ⟨t_PIPE, g_PIPE⟩ := T.g_PIPE
  refine F.okX sc_Plan_most (fun vs H Q E h => ln_Plan_mostX h) (fun cdv A outer s H vs Q E hr h => ⟨t_Plan_mostX K C E, ?_, rd_Plan_mostX  h⟩)
  exact (pss_one (ps_ret (pe_ix ix_seq (pe_mt K_Plan o_Plan__row (pv 0) hr (passes_call (takes_of rfl rfl rfl rfl) fun _ _ _ _ z => z) (pa_cons (pv 1) pa_nil)) (pe_glob rfl g_MOST ⟨_, rfl⟩) (fun _ _ => rfl))))
theorem ok_outward {f : Addr} {fd : FuncData} (F : Fun K "outward" "outward" s_outward f fd) (T : Bl mg)   : FnOk P w K mg base CX0 1 f fd P_outward (sp_outward K C) := by
  obtain ⟨t_AROUND, g_AROUND⟩ := T.g_AROUND
  obtain ⟨t_GUIDE, g_GUIDE⟩ := T.g_GUIDE
  obtain ⟨t_HOUSE, g_HOUSE⟩ := T.g_HOUSE
  obtain ⟨t_KIND, g_KIND⟩ := T.g_KIND
  obtain ⟨t_LONGEST_NAME, g_LONGEST_NAME⟩ := T.g_LONGEST_NAME
  obtain ⟨t_MOST, g_MOST⟩ := T.g_MOST
  obtain ⟨t_MOST_BY, g_MOST_BY⟩ := T.g_MOST_BY
  obtain ⟨t_MOST_GROUPS, g_MOST_GROUPS⟩ := T.g_MOST_GROUPS
  obtain ⟨t_MOST_LEAVES, g_MOST_LEAVES⟩ := T.g_MOST_LEAVES
  obtain ⟨t_MOST_STREAMS, g_MOST_STREAMS⟩ := T.g_MOST_STREAMS
  obtain ⟨t_PIPE, g_PIPE⟩ := T.g_PIPE
  refine F.ok sc_outward (fun vs H Q E h => ln_outward h) (fun cdv A outer s H vs Q E hr h => ⟨t_outward K, ?_, rd_outward  h⟩)
  exact (pss_cons (ps_set (i := 2) sc_outward.nd rfl (Or.inl rfl) (pe_lst pa_nil))
    (pss_cons (ps_while PassesOwn.never (pt_cmpR opNotN (pv 0) pe_non (nomark _)) (pss_cons (ps_expr (pe_bm PySem.F.plainAttrs_list PySem.F.slot_list_append PySem.F.type_list_append mt_append (pv 2) (pa_cons (pv 0) pa_nil)))
    (pss_one (ps_set (i := 0) sc_outward.nd rfl (Or.inl rfl) (pe_ix ix_seq (pe_dget (hu_of hr) (pv 1) (pv 0) (fun _ _ => rfl)) (pe_glob rfl g_AROUND ⟨_, rfl⟩) (fun _ _ => rfl))))))
    (pss_one (ps_ret (pv 2)))))
theorem ok_Plan_over {f : Addr} {fd : FuncData} (F : Fun K "over" "Plan.over" s_Plan_over f fd) (T : Bl mg)  (f_outward : Cal P w K mg base CX0 1 "outward" P_outward [] (sp_outward K C)) (o_Plan__row : Own P w K mg base (L2.CX P w) 3 C.Plan "_row" P_Plan__row (sp_Plan__rowX K C)) (K_Plan : Kls K mg "Plan" C.Plan) : FnOk P w K mg base (L2.CX P w) 4 f fd P_Plan_over (sp_Plan_overX K C) := by
  obtain ⟨t_AROUND, g_AROUND⟩ := T.g_AROUND
  obtain ⟨t_GUIDE, g_GUIDE⟩ := T.g_GUIDE
  obtain ⟨t_HOUSE, g_HOUSE⟩ := T.g_HOUSE
  obtain ⟨t_KIND, g_KIND⟩ := T.g_KIND
  obtain ⟨t_LONGEST_NAME, g_LONGEST_NAME⟩ := T.g_LONGEST_NAME
  obtain ⟨t_MOST, g_MOST⟩ := T.g_MOST
  obtain ⟨t_MOST_BY, g_MOST_BY⟩ := T.g_MOST_BY
  obtain ⟨t_MOST_GROUPS, g_MOST_GROUPS⟩ := T.g_MOST_GROUPS
  obtain ⟨t_MOST_LEAVES, g_MOST_LEAVES⟩ := T.g_MOST_LEAVES
  obtain ⟨t_MOST_STREAMS, g_MOST_STREAMS⟩ := T.g_MOST_STREAMS
  obtain ⟨t_PIPE, g_PIPE⟩ := T.g_PIPE
  refine F.okX sc_Plan_over (fun vs H Q E h => ln_Plan_overX h) (fun cdv A outer s H vs Q E hr h => ⟨t_Plan_overX K C E, ?_, rd_Plan_overX  h⟩)
  exact (pss_cons (ps_set (i := 2) sc_Plan_over.nd rfl (Or.inl rfl) (pe_mt K_Plan o_Plan__row (pv 0) hr (passes_call (takes_of rfl rfl rfl rfl) fun _ _ _ _ z => z) (pa_cons (pv 1) pa_nil)))
    (pss_one (ps_ret (pe_op opAdd (pe_op opAdd (pe_op opAdd (pe_lst (pa_cons (pv 1) pa_nil)) (pe_cal f_outward hr pass0 (pa_cons (pe_ix ix_seq (pv 2) (pe_glob rfl g_HOUSE ⟨_, rfl⟩) (fun _ _ => rfl)) (pa_cons (pe_fld (pv 0) rfl) pa_nil)))) (pe_cal f_outward hr pass0 (pa_cons (pe_ix ix_seq (pv 2) (pe_glob rfl g_KIND ⟨_, rfl⟩) (fun _ _ => rfl)) (pa_cons (pe_fld (pv 0) rfl) pa_nil)))) (pe_lst (pa_cons (pe_glob rfl g_PIPE ⟨_, rfl⟩) pa_nil))))))
theorem ok_Plan_under {f : Addr} {fd : FuncData} (F : Fun K "under" "Plan.under" s_Plan_under f fd) (T : Bl mg)  (on_Plan_over : Own P w K mg base (L2.CX P w) 4 C.Plan "over" P_Plan_over (sp_Plan_over K C)) (K_Plan : Kls K mg "Plan" C.Plan) (o_Plan___contains__ : Own P w K mg base CX0 2 C.Plan "__contains__" P_Plan___contains__ (sp_Plan___contains__ K C)) (E_Unknown : ErrK K mg "Unknown" C.Unknown) (i_Unknown : ErrI P w K mg base 1 C.Unknown P_Unknown___init__ (rOneI K C.Unknown "name")) : FnOk P w K mg base (L2.CX P w) 5 f fd P_Plan_under (sp_Plan_underX K C) := by
  obtain ⟨t_AROUND, g_AROUND⟩ := T.g_AROUND
  obtain ⟨t_GUIDE, g_GUIDE⟩ := T.g_GUIDE
  obtain ⟨t_HOUSE, g_HOUSE⟩ := T.g_HOUSE
  obtain ⟨t_KIND, g_KIND⟩ := T.g_KIND
  obtain ⟨t_LONGEST_NAME, g_LONGEST_NAME⟩ := T.g_LONGEST_NAME
  obtain ⟨t_MOST, g_MOST⟩ := T.g_MOST
  obtain ⟨t_MOST_BY, g_MOST_BY⟩ := T.g_MOST_BY
  obtain ⟨t_MOST_GROUPS, g_MOST_GROUPS⟩ := T.g_MOST_GROUPS
  obtain ⟨t_MOST_LEAVES, g_MOST_LEAVES⟩ := T.g_MOST_LEAVES
  obtain ⟨t_MOST_STREAMS, g_MOST_STREAMS⟩ := T.g_MOST_STREAMS
  obtain ⟨t_PIPE, g_PIPE⟩ := T.g_PIPE
  refine F.okX sc_Plan_under (fun vs H Q E h => ln_Plan_underX h) (fun cdv A outer s H vs Q E hr h => ⟨t_Plan_underX K C E, ?_, rd_Plan_underX  h⟩)
  exact (pss_cons (ps_if (pt_cmpR (op_notInOwn o_Plan___contains__ hr pass0) (pv 1) (pv 0) rfl) (pss_one (ps_raise rfl (takes_of rfl rfl rfl rfl) (pmk_err E_Unknown i_Unknown hr (pa_cons (pv 1) pa_nil)))) pss_nil)
    (pss_one (ps_ret (pe_lock (pe_lc (own := [("stream", 2)]) (g := (gName 2)) (tt := (tTest (tOp (rInU K) (tVar 1) (tMeth C.Plan "over" (sp_Plan_over K C) [] E0 (tVar 0) (tCons (tVar 2) tNil))))) rfl sc_Plan_under.nd (pi_keys (pe_fld (pv 0) rfl)) (blkOk_by (N := N_Plan_under) (own := [("stream", 2)]) (sc := defScope s_Plan_under) (by decide +kernel)) (fun _ _ _ _ _ => (pg_name (i := 2) sc_Plan_under.nd rfl (Or.inl rfl))) (fun _ _ _ _ _ => (pts_one (pt_cmpR opIn (pv 1) (pe_mt K_Plan on_Plan_over (pv 0) hr passL (pa_cons (pv 2) pa_nil)) rfl))) (fun _ _ _ _ _ => (pv 2)))))))
theorem ok__law_told {f : Addr} {fd : FuncData} (F : Fun K "_law_told" "_law_told" s__law_told f fd) (T : Bl mg)  (E_PipeError : ErrK K mg "PipeError" C.PipeError) (o_Plan___getitem__ : Own P w K mg base (L2.CX P w) 3 C.Plan "__getitem__" P_Plan___getitem__ (sp_Plan___getitem__X K C)) (o_Plan_guide : Own P w K mg base (L2.CX P w) 4 C.Plan "guide" P_Plan_guide (sp_Plan_guideX K C)) (K_Plan : Kls K mg "Plan" C.Plan) (o_Plan_most : Own P w K mg base (L2.CX P w) 4 C.Plan "most" P_Plan_most (sp_Plan_mostX K C)) (o_Plan_under : Own P w K mg base (L2.CX P w) 5 C.Plan "under" P_Plan_under (sp_Plan_underX K C)) (o_Plan_over : Own P w K mg base (L2.CX P w) 4 C.Plan "over" P_Plan_over (sp_Plan_overX K C)) (E_Unknown : ErrK K mg "Unknown" C.Unknown) (nf_Unknown : PySem.W.findIn K (.ref C.Unknown) "name" = some none) : FnOk P w K mg base CX0 6 f fd P__law_told (sp_law_told K C) := by
  obtain ⟨t_AROUND, g_AROUND⟩ := T.g_AROUND
  obtain ⟨t_GUIDE, g_GUIDE⟩ := T.g_GUIDE
  obtain ⟨t_HOUSE, g_HOUSE⟩ := T.g_HOUSE
  obtain ⟨t_KIND, g_KIND⟩ := T.g_KIND
  obtain ⟨t_LONGEST_NAME, g_LONGEST_NAME⟩ := T.g_LONGEST_NAME
  obtain ⟨t_MOST, g_MOST⟩ := T.g_MOST
  obtain ⟨t_MOST_BY, g_MOST_BY⟩ := T.g_MOST_BY
  obtain ⟨t_MOST_GROUPS, g_MOST_GROUPS⟩ := T.g_MOST_GROUPS
  obtain ⟨t_MOST_LEAVES, g_MOST_LEAVES⟩ := T.g_MOST_LEAVES
  obtain ⟨t_MOST_STREAMS, g_MOST_STREAMS⟩ := T.g_MOST_STREAMS
  obtain ⟨t_PIPE, g_PIPE⟩ := T.g_PIPE
  refine F.ok sc__law_told (fun vs H Q E h => ln_law_told h) (fun cdv A outer s H vs Q E hr h => ⟨t_law_told K C, ?_, rd_law_told  h⟩)
  exact (pss_one (ps_try_as (i := 3) (tb := (fun W => (tSeq (tIfS (tTest (tOp (rEqU K) (tVar 1) (tC (.int 0)))) (tRet (tMethO C.Plan "over" (sp_Plan_overX K C) (WE W) (tVar 0) (tCons (tVar 2) tNil))) tNext)
    (tSeq (tIfS (tTest (tOp (rEqU K) (tVar 1) (tC (.int 1)))) (tRet (tMethO C.Plan "under" (sp_Plan_underX K C) (WE W) (tVar 0) (tCons (tVar 2) tNil))) tNext)
    (tSeq (tIfS (tTest (tOp (rEqU K) (tVar 1) (tC (.int 2)))) (tRet (tMethO C.Plan "most" (sp_Plan_mostX K C) (WE W) (tVar 0) (tCons (tVar 2) tNil))) tNext)
    (tSeq (tIfS (tTest (tOp (rEqU K) (tVar 1) (tC (.int 3)))) (tRet (tMethO C.Plan "guide" (sp_Plan_guideX K C) (WE W) (tVar 0) (tCons (tVar 2) tNil))) tNext)
    (tRet (tIxO C.Plan (sp_Plan___getitem__X K C) (WE W) (tVar 0) (tVar 2))))))))) (ts := (fun a cls d => (tRet (tIf (tB (tCB (rIsD K C.Unknown a cls d) (tCons (tVar 3) (tCons (tC (.ref C.Unknown)) tNil)))) (tTup (tCons (tC (.str "unknown")) (tCons (tXf a cls d C.Unknown "name" (tVar 3)) tNil))) (tTup (tCons (tC (.str "other")) (tCons (tC .non) tNil))))))) (Wout := fun _ _ _ _ => False) rfl rfl sc__law_told.nd rfl rfl ⟨rfl, by decide, Or.inl E_PipeError.at_⟩ takes0
      (fun W pn xe tk _ => (pss_cons (ps_if (pt_cmpR (opEq hr.units) (pv 1) pe_int (nomark _)) (pss_one (ps_ret (pe_mtO K_Plan o_Plan_over (pv 0) hr (fun σ => passAt tk σ) (pa_cons (pv 2) pa_nil)))) pss_nil)
    (pss_cons (ps_if (pt_cmpR (opEq hr.units) (pv 1) pe_int (nomark _)) (pss_one (ps_ret (pe_mtO K_Plan o_Plan_under (pv 0) hr (fun σ => passAt tk σ) (pa_cons (pv 2) pa_nil)))) pss_nil)
    (pss_cons (ps_if (pt_cmpR (opEq hr.units) (pv 1) pe_int (nomark _)) (pss_one (ps_ret (pe_mtO K_Plan o_Plan_most (pv 0) hr (fun σ => passAt tk σ) (pa_cons (pv 2) pa_nil)))) pss_nil)
    (pss_cons (ps_if (pt_cmpR (opEq hr.units) (pv 1) pe_int (nomark _)) (pss_one (ps_ret (pe_mtO K_Plan o_Plan_guide (pv 0) hr (fun σ => passAt tk σ) (pa_cons (pv 2) pa_nil)))) pss_nil)
    (pss_one (ps_ret (pe_ixO o_Plan___getitem__ hr (fun σ => passAt tk σ) (pv 0) (pv 2)))))))))
      (fun a oe cls d pn hz hf => (pss_one (ps_ret (pe_ifExp (pt_val (pe_callB (call_isD E_Unknown.ex hz hf) rfl T.b_isinstance Pk.boot_isinstance (pa_cons (pv 3) (pa_cons (pe_glob rfl E_Unknown.at_ rfl) pa_nil)))) (pe_tup (pa_cons pe_str (pa_cons (pe_xf E_Unknown.xf nf_Unknown hz hf (pv 3)) pa_nil))) (pe_tup (pa_cons pe_str (pa_cons pe_non pa_nil)))))))))
theorem ok__law_under {f : Addr} {fd : FuncData} (F : Fun K "_law_under" "_law_under" s__law_under f fd) (T : Bl mg)  (f__law_over : Cal P w K mg base CX0 2 "_law_over" P__law_over [] (sp_law_over K C)) : FnOk P w K mg base CX0 3 f fd P__law_under (sp_law_under K C) := by
  obtain ⟨t_AROUND, g_AROUND⟩ := T.g_AROUND
  obtain ⟨t_GUIDE, g_GUIDE⟩ := T.g_GUIDE
  obtain ⟨t_HOUSE, g_HOUSE⟩ := T.g_HOUSE
  obtain ⟨t_KIND, g_KIND⟩ := T.g_KIND
  obtain ⟨t_LONGEST_NAME, g_LONGEST_NAME⟩ := T.g_LONGEST_NAME
  obtain ⟨t_MOST, g_MOST⟩ := T.g_MOST
  obtain ⟨t_MOST_BY, g_MOST_BY⟩ := T.g_MOST_BY
  obtain ⟨t_MOST_GROUPS, g_MOST_GROUPS⟩ := T.g_MOST_GROUPS
  obtain ⟨t_MOST_LEAVES, g_MOST_LEAVES⟩ := T.g_MOST_LEAVES
  obtain ⟨t_MOST_STREAMS, g_MOST_STREAMS⟩ := T.g_MOST_STREAMS
  obtain ⟨t_PIPE, g_PIPE⟩ := T.g_PIPE
  refine F.ok sc__law_under (fun vs H Q E h => ln_law_under h) (fun cdv A outer s H vs Q E hr h => ⟨t_law_under K C, ?_, rd_law_under  h⟩)
  exact (pss_one (ps_ret (pe_lc (own := [("_law_stream", 2)]) (g := (gName 2)) (tt := (tTest (tOp (rInU K) (tVar 1) (tCall (sp_law_over K C) [] E0 (tCons (tVar 0) (tCons (tVar 2) tNil)))))) rfl sc__law_under.nd (pi_list (pe_callB (call_keysS rfl) rfl T.b_sorted Pk.boot_sorted (pa_cons (pe_dget (hu_of hr) (pv 0) pe_str (fun _ _ => rfl)) pa_nil))) (blkOk_by (N := N__law_under) (own := [("_law_stream", 2)]) (sc := defScope s__law_under) (by decide +kernel)) (fun _ _ _ _ _ => (pg_name (i := 2) sc__law_under.nd rfl (Or.inl rfl))) (fun _ _ _ _ _ => (pts_one (pt_cmpR opIn (pv 1) (pe_cal f__law_over hr pass0 (pa_cons (pv 0) (pa_cons (pv 2) pa_nil))) rfl))) (fun _ _ _ _ _ => (pv 2)))))
theorem ok_law {f : Addr} {fd : FuncData} (F : Fun K "law" "law" s_law f fd) (T : Bl mg) (fx_FxRule : FxRule K C) (fx_FxPlan : FxPlan K C) (fx_FxUn : FxUn K C) (f__law_told : Cal P w K mg base CX0 6 "_law_told" P__law_told [] (sp_law_told K C)) (o_Plan___contains__ : Own P w K mg base CX0 2 C.Plan "__contains__" P_Plan___contains__ (sp_Plan___contains__ K C)) (f__law_shared : Cal P w K mg base CX0 1 "_law_shared" P__law_shared [] (sp_law_shared K C)) (f__law_over : Cal P w K mg base CX0 2 "_law_over" P__law_over [] (sp_law_over K C)) (f__law_alike : CalG P w K mg base CX0 1 "_law_alike" P__law_alike (sp_law_alike K)) (f__law_pool_right : CalG P w K mg base CX0 5 "_law_pool_right" P__law_pool_right (sp_law_pool_right K C)) (f__law_under : Cal P w K mg base CX0 3 "_law_under" P__law_under [] (sp_law_under K C)) (f__law_make_plan : Cal P w K mg base CX0 16 "_law_make_plan" P__law_make_plan [] (sp_law_make_plan K C)) (f__law_take : Cal P w K mg base CX0 1 "_law_take" P__law_take [] (sp_law_take K)) (f__law_deep_parts : Cal P w K mg base CX0 9 "_law_deep_parts" P__law_deep_parts [] (sp_law_deep_parts K C)) (f__law_draw_parts : Cal P w K mg base CX0 10 "_law_draw_parts" P__law_draw_parts [] (sp_law_draw_parts K C)) (f__law_bag : Cal P w K mg base CX0 1 "_law_bag" P__law_bag [] (sp_law_bag K)) : FnG P w K mg base CX0 17 f fd P_law (sp_law K) := by
  obtain ⟨t_AROUND, g_AROUND⟩ := T.g_AROUND
  obtain ⟨t_GUIDE, g_GUIDE⟩ := T.g_GUIDE
  obtain ⟨t_HOUSE, g_HOUSE⟩ := T.g_HOUSE
  obtain ⟨t_KIND, g_KIND⟩ := T.g_KIND
  obtain ⟨t_LONGEST_NAME, g_LONGEST_NAME⟩ := T.g_LONGEST_NAME
  obtain ⟨t_MOST, g_MOST⟩ := T.g_MOST
  obtain ⟨t_MOST_BY, g_MOST_BY⟩ := T.g_MOST_BY
  obtain ⟨t_MOST_GROUPS, g_MOST_GROUPS⟩ := T.g_MOST_GROUPS
  obtain ⟨t_MOST_LEAVES, g_MOST_LEAVES⟩ := T.g_MOST_LEAVES
  obtain ⟨t_MOST_STREAMS, g_MOST_STREAMS⟩ := T.g_MOST_STREAMS
  obtain ⟨t_PIPE, g_PIPE⟩ := T.g_PIPE
  refine okG F sc_law (fun vs H Q E h => ln_law h) (fun cdv A outer s H vs Q E gd hr h => ⟨t_law K C, ?_, rd_law fx_FxRule fx_FxPlan fx_FxUn h⟩)
  exact (pss_cons (ps_set (i := 1) sc_law.nd rfl (Or.inl rfl) (pe_cal f__law_bag hr pass0 (pa_cons (pv 0) pa_nil)))
    (pss_cons (ps_for PassesOwn.never rfl (pi_range1 rfl T.b_range (pa_cons pe_int pa_nil)) (pg_name (i := 2) sc_law.nd rfl (Or.inl rfl)) (pss_cons (ps_set (i := 3) sc_law.nd rfl (Or.inl rfl) (pe_cal f__law_draw_parts hr pass0 (pa_cons (pv 1) (pa_cons pe_int (pa_cons pe_int (pa_cons pe_int pa_nil))))))
    (Evl.pss_cut (ps_if (pt_cmpR (opEq hr.units) (pe_cal f__law_take hr pass0 (pa_cons (pv 1) (pa_cons pe_int pa_nil))) pe_int (nomark _)) (pss_one (ps_set (i := 3) sc_law.nd rfl (Or.inl rfl) (pe_cal f__law_deep_parts hr pass0 (pa_cons (pv 1) (pa_cons (pv 3) pa_nil))))) pss_nil)
    (pss_cons (ps_asg (pe_tup (pa_cons (pe_cal f__law_make_plan hr pass0 (pa_cons (pv 1) (pa_cons (pv 3) pa_nil))) (pa_cons (pe_callTy (call_keysL rfl) rfl T.b_list Pk.boot_t_list (pa_cons (pe_dget (hu_of hr) (pv 3) pe_str (fun _ _ => rfl)) pa_nil)) pa_nil))) (pg_tup rfl (pgs_cons (pg_name (i := 4) sc_law.nd rfl (Or.inr rfl)) (pgs_cons (pg_name (i := 5) sc_law.nd rfl (Or.inl rfl)) pgs_nil))))
    (pss_cons (ps_for PassesOwn.never rfl (pi_range1 rfl T.b_range (pa_cons pe_int pa_nil)) (pg_name (i := 6) sc_law.nd rfl (Or.inl rfl)) (pss_cons (ps_for PassesOwn.never rfl (pi_list (pe_op opAdd (pv 5) (pe_cal f__law_shared hr pass0 (pa_cons (pv 3) pa_nil)))) (pg_name (i := 7) sc_law.nd rfl (Or.inr rfl)) (pss_cons (ps_par (i := 8) (j := 9) (by rfl) sc_law.nd rfl rfl (by decide) rfl rfl (pa_cons (pe_cal f__law_told hr pass0 (pa_cons (pv 4) (pa_cons pe_int (pa_cons (pv 7) pa_nil)))) (pa_cons (pe_cal f__law_under hr pass0 (pa_cons (pv 3) (pa_cons (pv 7) pa_nil))) pa_nil)) (by rfl))
    (pss_cons (ps_if (PW.pt (pw_or (pt_not (pt_val (pe_calg f__law_alike gd hr pass0 (pa_cons (pv 8) (pa_cons (pv 9) pa_nil))))) (pw_or1 (pt_not (pt_val (pe_calg f__law_pool_right gd hr pass0 (pa_cons (pv 4) (pa_cons (pv 3) (pa_cons (pv 7) pa_nil))))))))) (pss_one (ps_ret pe_bl)) pss_nil)
    (pss_one (ps_expr (pe_bm PySem.F.plainAttrs_list PySem.F.slot_list_append PySem.F.type_list_append mt_append (pv 8) (pa_cons pe_str pa_nil)))))))
    (pss_cons (ps_for PassesOwn.never rfl (pi_list (pv 5)) (pg_name (i := 7) sc_law.nd rfl (Or.inr rfl)) (pss_cons (ps_set (i := 8) sc_law.nd rfl (Or.inl rfl) (pe_cal f__law_told hr pass0 (pa_cons (pv 4) (pa_cons pe_int (pa_cons (pv 7) pa_nil)))))
    (pss_cons (ps_if (pt_not (pt_val (pe_calg f__law_alike gd hr pass0 (pa_cons (pv 8) (pa_cons (pe_cal f__law_over hr pass0 (pa_cons (pv 3) (pa_cons (pv 7) pa_nil))) pa_nil))))) (pss_one (ps_ret pe_bl)) pss_nil)
    (pss_one (ps_expr (pe_bm0 PySem.F.plainAttrs_list PySem.F.slot_list_reverse PySem.F.type_list_reverse mt_reverse (pv 8)))))))
    (pss_one (ps_for PassesOwn.never rfl (pi_list (pe_cal f__law_shared hr pass0 (pa_cons (pv 3) pa_nil))) (pg_name (i := 7) sc_law.nd rfl (Or.inr rfl)) (pss_cons (ps_set (i := 9) sc_law.nd rfl (Or.inl rfl) (pe_tup (pa_cons pe_str (pa_cons (pv 7) pa_nil))))
    (pss_one (ps_if (pt_cmpR (opNe hr.units) (pe_lc (own := [("_law_way", 13)]) (g := (gName 13)) (tt := tYes) rfl sc_law.nd (pi_tup (pe_tup (pa_cons pe_int (pa_cons pe_int (pa_cons pe_int pa_nil))))) (blkOk_by (N := N_law) (own := [("_law_way", 13)]) (sc := defScope s_law) (by decide +kernel)) (fun _ _ _ _ _ => (pg_name (i := 13) sc_law.nd rfl (Or.inl rfl))) (fun _ _ _ _ _ => pts_nil) (fun _ _ _ _ _ => (pe_cal f__law_told hr pass0 (pa_cons (pv 4) (pa_cons (pv 13) (pa_cons (pv 7) pa_nil)))))) (pe_lst (pa_cons (pv 9) (pa_cons (pv 9) (pa_cons (pv 9) pa_nil)))) (nomark _)) (pss_one (ps_ret pe_bl)) pss_nil))))))))
    (pss_cons (ps_set (i := 10) sc_law.nd rfl (Or.inr rfl) (pe_op opAdd (pv 5) (pe_cal f__law_shared hr pass0 (pa_cons (pv 3) pa_nil))))
    (pss_cons (ps_setLc (i := 11) (own := [("_law_name", 7)]) (g := (gName 7)) (tt := (tTest (tOp (rNotInU K) (tVar 7) (tVar 10)))) rfl sc_law.nd rfl rfl (sw_true rfl rfl rfl (by decide +kernel)) (pi_tup (pe_tup (pa_cons pe_str (pa_cons pe_str (pa_cons pe_str (pa_cons pe_str pa_nil)))))) (blkOk_by (N := N_law) (own := [("_law_name", 7)]) (sc := defScope s_law) (by decide +kernel)) (fun _ _ _ _ _ => (pg_name (i := 7) sc_law.nd rfl (Or.inl rfl))) (fun _ _ _ _ _ => (pts_one (pt_cmpR opNotIn (pv 7) (pv 10) rfl))) (fun _ _ _ _ _ => (pv 7)))
    (pss_cons (ps_for PassesOwn.never rfl (pi_list (pv 11)) (pg_name (i := 7) sc_law.nd rfl (Or.inr rfl)) (pss_one (ps_if (PW.pt (pw_or (pt_cmpR (opNe hr.units) (pe_lc (own := [("_law_way", 13)]) (g := (gName 13)) (tt := tYes) rfl sc_law.nd (pi_range1 rfl T.b_range (pa_cons pe_int pa_nil)) (blkOk_by (N := N_law) (own := [("_law_way", 13)]) (sc := defScope s_law) (by decide +kernel)) (fun _ _ _ _ _ => (pg_name (i := 13) sc_law.nd rfl (Or.inl rfl))) (fun _ _ _ _ _ => pts_nil) (fun _ _ _ _ _ => (pe_cal f__law_told hr pass0 (pa_cons (pv 4) (pa_cons (pv 13) (pa_cons (pv 7) pa_nil)))))) (pe_op opMul (pe_lst (pa_cons (pe_tup (pa_cons pe_str (pa_cons (pv 7) pa_nil))) pa_nil)) pe_int) (nomark _)) (pw_or1 (pt_cmpR (op_inOwn o_Plan___contains__ hr pass0) (pv 7) (pv 4) rfl)))) (pss_one (ps_ret pe_bl)) pss_nil)))
    (pss_one (ps_for PassesOwn.never rfl (pi_tup (pe_tup (pa_cons pe_non (pa_cons pe_int (pa_cons pe_str (pa_cons pe_str (pa_cons (pe_lst (pa_cons pe_str pa_nil)) (pa_cons (pe_tup (pa_cons pe_str pa_nil)) (pa_cons pe_bl (pa_cons pe_dnewK (pa_cons (pe_tup (pa_cons (pe_lst (pa_cons pe_str pa_nil)) pa_nil)) pa_nil))))))))))) (pg_name (i := 12) sc_law.nd rfl (Or.inl rfl)) (pss_one (ps_if (PW.pt (pw_or (pt_cmpR (or2 (opNe hr.units) (op_ne0 hr.units)) (pe_cal f__law_told hr pass0 (pa_cons (pv 4) (pa_cons pe_int (pa_cons (pv 12) pa_nil)))) (pe_tup (pa_cons pe_str (pa_cons (pv 12) pa_nil))) (nomark _)) (pw_or1 (pt_cmpR (op_inOwn o_Plan___contains__ hr pass0) (pv 12) (pv 4) rfl)))) (pss_one (ps_ret pe_bl)) pss_nil))))))))))))
    (pss_one (ps_ret pe_bl))))
end
theorem all_mk {l : PySem.W.OpenLaw} {w : World} {K : PySem.W.Frag} {h : Heap} {mg : Str → Option Value} {fa : Addr} (X : K.In h) (G : h.Ns mainGlobals mg) (hfa : mg "law" = some (.ref fa))
    {c_PipeError : Addr} {nmPipeError qnPipeError : Str} {NPipeError : Addr} {bsPipeError : List Value} {snPipeError : List Str} {sbPipeError : List Value} {abPipeError : Bool} {coPipeError : Option Bool} {ddPipeError : Option Addr} {m0PipeError m1PipeError m2PipeError m3PipeError m5PipeError : Option Value}
    {c_Unknown : Addr} {nmUnknown qnUnknown : Str} {NUnknown : Addr} {bsUnknown : List Value} {snUnknown : List Str} {sbUnknown : List Value} {abUnknown : Bool} {coUnknown : Option Bool} {ddUnknown : Option Addr} {m0Unknown m1Unknown m2Unknown m3Unknown m5Unknown : Option Value}
    {c_Plan : Addr}
    {c_Rule : Addr}
    {f0 : Addr} {od0 an0 : Option Addr} {oc0 kV0 dc0 pm0 cd0 ct0 : Value} {sl0 : Array (Option Value)}
    {f1 : Addr} {od1 an1 : Option Addr} {oc1 kV1 dc1 pm1 cd1 ct1 : Value} {sl1 : Array (Option Value)}
    {f2 : Addr} {od2 an2 : Option Addr} {oc2 kV2 dc2 pm2 cd2 ct2 : Value} {sl2 : Array (Option Value)}
    {f3 : Addr} {od3 an3 : Option Addr} {oc3 kV3 dc3 pm3 cd3 ct3 : Value} {sl3 : Array (Option Value)}
    {f4 : Addr} {od4 an4 : Option Addr} {oc4 kV4 dc4 pm4 cd4 ct4 : Value} {sl4 : Array (Option Value)}
    {f5 : Addr} {od5 an5 : Option Addr} {oc5 kV5 dc5 pm5 cd5 ct5 : Value} {sl5 : Array (Option Value)}
    {f6 : Addr} {od6 an6 : Option Addr} {oc6 kV6 dc6 pm6 cd6 ct6 : Value} {sl6 : Array (Option Value)}
    {f7 : Addr} {od7 an7 : Option Addr} {oc7 kV7 dc7 pm7 cd7 ct7 : Value} {sl7 : Array (Option Value)}
    {f8 : Addr} {od8 an8 : Option Addr} {oc8 kV8 dc8 pm8 cd8 ct8 : Value} {sl8 : Array (Option Value)}
    {f9 : Addr} {od9 an9 : Option Addr} {oc9 kV9 dc9 pm9 cd9 ct9 : Value} {sl9 : Array (Option Value)}
    {f10 : Addr} {od10 an10 : Option Addr} {oc10 kV10 dc10 pm10 cd10 ct10 : Value} {sl10 : Array (Option Value)}
    {f11 : Addr} {od11 an11 : Option Addr} {oc11 kV11 dc11 pm11 cd11 ct11 : Value} {sl11 : Array (Option Value)}
    {f12 : Addr} {od12 an12 : Option Addr} {oc12 kV12 dc12 pm12 cd12 ct12 : Value} {sl12 : Array (Option Value)}
    {f13 : Addr} {od13 an13 : Option Addr} {oc13 kV13 dc13 pm13 cd13 ct13 : Value} {sl13 : Array (Option Value)}
    {f14 : Addr} {od14 an14 : Option Addr} {oc14 kV14 dc14 pm14 cd14 ct14 : Value} {sl14 : Array (Option Value)}
    {f15 : Addr} {od15 an15 : Option Addr} {oc15 kV15 dc15 pm15 cd15 ct15 : Value} {sl15 : Array (Option Value)}
    {f16 : Addr} {od16 an16 : Option Addr} {oc16 kV16 dc16 pm16 cd16 ct16 : Value} {sl16 : Array (Option Value)}
    {p16 : Addr} {rp16 : List Value}
    {f17 : Addr} {od17 an17 : Option Addr} {oc17 kV17 dc17 pm17 cd17 ct17 : Value} {sl17 : Array (Option Value)}
    {f18 : Addr} {od18 an18 : Option Addr} {oc18 kV18 dc18 pm18 cd18 ct18 : Value} {sl18 : Array (Option Value)}
    {f19 : Addr} {od19 an19 : Option Addr} {oc19 kV19 dc19 pm19 cd19 ct19 : Value} {sl19 : Array (Option Value)}
    {f20 : Addr} {od20 an20 : Option Addr} {oc20 kV20 dc20 pm20 cd20 ct20 : Value} {sl20 : Array (Option Value)}
    {f21 : Addr} {od21 an21 : Option Addr} {oc21 kV21 dc21 pm21 cd21 ct21 : Value} {sl21 : Array (Option Value)}
    {f22 : Addr} {od22 an22 : Option Addr} {oc22 kV22 dc22 pm22 cd22 ct22 : Value} {sl22 : Array (Option Value)}
    {f23 : Addr} {od23 an23 : Option Addr} {oc23 kV23 dc23 pm23 cd23 ct23 : Value} {sl23 : Array (Option Value)}
    {f24 : Addr} {od24 an24 : Option Addr} {oc24 kV24 dc24 pm24 cd24 ct24 : Value} {sl24 : Array (Option Value)}
    {f25 : Addr} {od25 an25 : Option Addr} {oc25 kV25 dc25 pm25 cd25 ct25 : Value} {sl25 : Array (Option Value)}
    {f26 : Addr} {od26 an26 : Option Addr} {oc26 kV26 dc26 pm26 cd26 ct26 : Value} {sl26 : Array (Option Value)}
    {f27 : Addr} {od27 an27 : Option Addr} {oc27 kV27 dc27 pm27 cd27 ct27 : Value} {sl27 : Array (Option Value)}
    {f28 : Addr} {od28 an28 : Option Addr} {oc28 kV28 dc28 pm28 cd28 ct28 : Value} {sl28 : Array (Option Value)}
    {f29 : Addr} {od29 an29 : Option Addr} {oc29 kV29 dc29 pm29 cd29 ct29 : Value} {sl29 : Array (Option Value)}
    {f30 : Addr} {od30 an30 : Option Addr} {oc30 kV30 dc30 pm30 cd30 ct30 : Value} {sl30 : Array (Option Value)}
    {f31 : Addr} {od31 an31 : Option Addr} {oc31 kV31 dc31 pm31 cd31 ct31 : Value} {sl31 : Array (Option Value)}
    {f32 : Addr} {od32 an32 : Option Addr} {oc32 kV32 dc32 pm32 cd32 ct32 : Value} {sl32 : Array (Option Value)}
    {f33 : Addr} {od33 an33 : Option Addr} {oc33 kV33 dc33 pm33 cd33 ct33 : Value} {sl33 : Array (Option Value)}
    {f34 : Addr} {od34 an34 : Option Addr} {oc34 kV34 dc34 pm34 cd34 ct34 : Value} {sl34 : Array (Option Value)}
    {f35 : Addr} {od35 an35 : Option Addr} {oc35 kV35 dc35 pm35 cd35 ct35 : Value} {sl35 : Array (Option Value)}
    {f36 : Addr} {od36 an36 : Option Addr} {oc36 kV36 dc36 pm36 cd36 ct36 : Value} {sl36 : Array (Option Value)}
    {f37 : Addr} {od37 an37 : Option Addr} {oc37 kV37 dc37 pm37 cd37 ct37 : Value} {sl37 : Array (Option Value)}
    {f38 : Addr} {od38 an38 : Option Addr} {oc38 kV38 dc38 pm38 cd38 ct38 : Value} {sl38 : Array (Option Value)}
    {f39 : Addr} {od39 an39 : Option Addr} {oc39 kV39 dc39 pm39 cd39 ct39 : Value} {sl39 : Array (Option Value)}
    {f40 : Addr} {od40 an40 : Option Addr} {oc40 kV40 dc40 pm40 cd40 ct40 : Value} {sl40 : Array (Option Value)}
    {f41 : Addr} {od41 an41 : Option Addr} {oc41 kV41 dc41 pm41 cd41 ct41 : Value} {sl41 : Array (Option Value)}
    {f42 : Addr} {od42 an42 : Option Addr} {oc42 kV42 dc42 pm42 cd42 ct42 : Value} {sl42 : Array (Option Value)}
    {f43 : Addr} {od43 an43 : Option Addr} {oc43 kV43 dc43 pm43 cd43 ct43 : Value} {sl43 : Array (Option Value)}
    {f44 : Addr} {od44 an44 : Option Addr} {oc44 kV44 dc44 pm44 cd44 ct44 : Value} {sl44 : Array (Option Value)}
    {f45 : Addr} {od45 an45 : Option Addr} {oc45 kV45 dc45 pm45 cd45 ct45 : Value} {sl45 : Array (Option Value)}
    {f46 : Addr} {od46 an46 : Option Addr} {oc46 kV46 dc46 pm46 cd46 ct46 : Value} {sl46 : Array (Option Value)}
    {f47 : Addr} {od47 an47 : Option Addr} {oc47 kV47 dc47 pm47 cd47 ct47 : Value} {sl47 : Array (Option Value)}
    {f48 : Addr} {od48 an48 : Option Addr} {oc48 kV48 dc48 pm48 cd48 ct48 : Value} {sl48 : Array (Option Value)}
    {f49 : Addr} {od49 an49 : Option Addr} {oc49 kV49 dc49 pm49 cd49 ct49 : Value} {sl49 : Array (Option Value)}
    {f50 : Addr} {od50 an50 : Option Addr} {oc50 kV50 dc50 pm50 cd50 ct50 : Value} {sl50 : Array (Option Value)}
    {f51 : Addr} {od51 an51 : Option Addr} {oc51 kV51 dc51 pm51 cd51 ct51 : Value} {sl51 : Array (Option Value)}
    {f52 : Addr} {od52 an52 : Option Addr} {oc52 kV52 dc52 pm52 cd52 ct52 : Value} {sl52 : Array (Option Value)}
    {f53 : Addr} {od53 an53 : Option Addr} {oc53 kV53 dc53 pm53 cd53 ct53 : Value} {sl53 : Array (Option Value)}
    {f54 : Addr} {od54 an54 : Option Addr} {oc54 kV54 dc54 pm54 cd54 ct54 : Value} {sl54 : Array (Option Value)}
    {f55 : Addr} {od55 an55 : Option Addr} {oc55 kV55 dc55 pm55 cd55 ct55 : Value} {sl55 : Array (Option Value)}
    {f56 : Addr} {od56 an56 : Option Addr} {oc56 kV56 dc56 pm56 cd56 ct56 : Value} {sl56 : Array (Option Value)}
    {f57 : Addr} {od57 an57 : Option Addr} {oc57 kV57 dc57 pm57 cd57 ct57 : Value} {sl57 : Array (Option Value)}
    {f58 : Addr} {od58 an58 : Option Addr} {oc58 kV58 dc58 pm58 cd58 ct58 : Value} {sl58 : Array (Option Value)}
    {f59 : Addr} {od59 an59 : Option Addr} {oc59 kV59 dc59 pm59 cd59 ct59 : Value} {sl59 : Array (Option Value)}
    {f60 : Addr} {od60 an60 : Option Addr} {oc60 kV60 dc60 pm60 cd60 ct60 : Value} {sl60 : Array (Option Value)}
    {f61 : Addr} {od61 an61 : Option Addr} {oc61 kV61 dc61 pm61 cd61 ct61 : Value} {sl61 : Array (Option Value)}
    {f62 : Addr} {od62 an62 : Option Addr} {oc62 kV62 dc62 pm62 cd62 ct62 : Value} {sl62 : Array (Option Value)}
    {f63 : Addr} {od63 an63 : Option Addr} {oc63 kV63 dc63 pm63 cd63 ct63 : Value} {sl63 : Array (Option Value)}
    {tk_AROUND : Tok}
    {tk_GUIDE : Tok}
    {tk_HOUSE : Tok}
    {tk_KIND : Tok}
    {tk_LONGEST_NAME : Tok}
    {tk_MOST : Tok}
    {tk_MOST_BY : Tok}
    {tk_MOST_GROUPS : Tok}
    {tk_MOST_LEAVES : Tok}
    {tk_MOST_STREAMS : Tok}
    {tk_PIPE : Tok}
    (aC_PipeError : PySem.W.nsIn K mainGlobals "PipeError" = some (some (.ref c_PipeError)))
    (kl_PipeError : K.lookup c_PipeError = some (excClassObj nmPipeError qnPipeError c_PipeError NPipeError bsPipeError [.type "ValueError", .type "Exception", .type "BaseException", .type "object"] true snPipeError sbPipeError abPipeError coPipeError ddPipeError m0PipeError m1PipeError m2PipeError m3PipeError m5PipeError "ValueError.__new__"))
    (sa_PipeError : PySem.W.findIn K (.ref c_PipeError) "__setattr__" = some (some (.builtin "object.__setattr__")))
    (ex_PipeError : PySem.W.subIn K (.ref c_PipeError) (.type "BaseException") = some true)
    (ty_PipeError : PySem.W.typeIn K (.ref c_PipeError) = some (.type "type"))
    (kc_PipeError : PySem.W.keepIn K (.ref c_PipeError) = true)
    (hd_PipeError : PySem.W.hasDictIn K c_PipeError = true)
    (ga_PipeError : PySem.W.findIn K (.ref c_PipeError) "__getattribute__" = some (some (.builtin "BaseException.__getattribute__")))
    (gg_PipeError : PySem.W.findIn K (.ref c_PipeError) "__getattr__" = some none)
    (ha_PipeError : PySem.W.findIn K (.ref c_PipeError) "__class__" = some (some (.builtin "object.__class__")))
    (hn_PipeError : PySem.W.specialIn K (.builtin "object.__class__") "__get__" = some (some (.builtin "getset_descriptor.__get__")))
    (ht_PipeError : PySem.W.takesIn K (.builtin "object.__class__") = some true)
    (hm_PipeError : PySem.W.mroIn K c_PipeError (.type "object") = some true)
    (aC_Unknown : PySem.W.nsIn K mainGlobals "Unknown" = some (some (.ref c_Unknown)))
    (kl_Unknown : K.lookup c_Unknown = some (excClassObj nmUnknown qnUnknown c_Unknown NUnknown bsUnknown [.ref c_PipeError, .type "ValueError", .type "Exception", .type "BaseException", .type "object"] true snUnknown sbUnknown abUnknown coUnknown ddUnknown m0Unknown m1Unknown m2Unknown m3Unknown m5Unknown "ValueError.__new__"))
    (sa_Unknown : PySem.W.findIn K (.ref c_Unknown) "__setattr__" = some (some (.builtin "object.__setattr__")))
    (ex_Unknown : PySem.W.subIn K (.ref c_Unknown) (.type "BaseException") = some true)
    (ty_Unknown : PySem.W.typeIn K (.ref c_Unknown) = some (.type "type"))
    (kc_Unknown : PySem.W.keepIn K (.ref c_Unknown) = true)
    (hd_Unknown : PySem.W.hasDictIn K c_Unknown = true)
    (ga_Unknown : PySem.W.findIn K (.ref c_Unknown) "__getattribute__" = some (some (.builtin "BaseException.__getattribute__")))
    (gg_Unknown : PySem.W.findIn K (.ref c_Unknown) "__getattr__" = some none)
    (ha_Unknown : PySem.W.findIn K (.ref c_Unknown) "__class__" = some (some (.builtin "object.__class__")))
    (hn_Unknown : PySem.W.specialIn K (.builtin "object.__class__") "__get__" = some (some (.builtin "getset_descriptor.__get__")))
    (ht_Unknown : PySem.W.takesIn K (.builtin "object.__class__") = some true)
    (hm_Unknown : PySem.W.mroIn K c_Unknown (.type "object") = some true)
    (nf_Unknown : PySem.W.findIn K (.ref c_Unknown) "name" = some none)
    (su_Unknown : PySem.W.subIn K (.ref c_Unknown) (.ref c_PipeError) = some true)
    (aC_Plan : PySem.W.nsIn K mainGlobals "Plan" = some (some (.ref c_Plan)))
    (pg_Plan : PySem.W.plainGet K c_Plan Str.empty = true)
    (hd_Plan : PySem.W.hasDictIn K c_Plan = true)
    (po_Plan : PySem.W.plainOver K c_Plan = true)
    (sa_Plan : PySem.W.findIn K (.ref c_Plan) "__setattr__" = some (some (.builtin "object.__setattr__")))
    (mk_Plan : PySem.W.makesIn K c_Plan = true)
    (kc_Plan : PySem.W.keepIn K (.ref c_Plan) = true)
    (sf_Plan : PySem.W.selfFirst K c_Plan = true)
    (ha_Plan : PySem.W.findIn K (.ref c_Plan) "__class__" = some (some (.builtin "object.__class__")))
    (hn_Plan : PySem.W.specialIn K (.builtin "object.__class__") "__get__" = some (some (.builtin "getset_descriptor.__get__")))
    (ht_Plan : PySem.W.takesIn K (.builtin "object.__class__") = some true)
    (hm_Plan : PySem.W.mroIn K c_Plan (.type "object") = some true)
    (ne_Plan : PySem.W.findIn K (.ref c_Plan) "__ne__" = some (some (.builtin "object.__ne__")))
    (na_Plan__pipe : PySem.W.findIn K (.ref c_Plan) "_pipe" = some none)
    (na_Plan__houses : PySem.W.findIn K (.ref c_Plan) "_houses" = some none)
    (na_Plan__kinds : PySem.W.findIn K (.ref c_Plan) "_kinds" = some none)
    (na_Plan__streams : PySem.W.findIn K (.ref c_Plan) "_streams" = some none)
    (na_Plan__pools : PySem.W.findIn K (.ref c_Plan) "_pools" = some none)
    (aC_Rule : PySem.W.nsIn K mainGlobals "Rule" = some (some (.ref c_Rule)))
    (pg_Rule : PySem.W.plainGet K c_Rule Str.empty = true)
    (hd_Rule : PySem.W.hasDictIn K c_Rule = true)
    (po_Rule : PySem.W.plainOver K c_Rule = true)
    (sa_Rule : PySem.W.findIn K (.ref c_Rule) "__setattr__" = some (some (.builtin "object.__setattr__")))
    (mk_Rule : PySem.W.makesIn K c_Rule = true)
    (kc_Rule : PySem.W.keepIn K (.ref c_Rule) = true)
    (sf_Rule : PySem.W.selfFirst K c_Rule = true)
    (ha_Rule : PySem.W.findIn K (.ref c_Rule) "__class__" = some (some (.builtin "object.__class__")))
    (hn_Rule : PySem.W.specialIn K (.builtin "object.__class__") "__get__" = some (some (.builtin "getset_descriptor.__get__")))
    (ht_Rule : PySem.W.takesIn K (.builtin "object.__class__") = some true)
    (hm_Rule : PySem.W.mroIn K c_Rule (.type "object") = some true)
    (ne_Rule : PySem.W.findIn K (.ref c_Rule) "__ne__" = some (some (.builtin "object.__ne__")))
    (na_Rule__tree : PySem.W.findIn K (.ref c_Rule) "_tree" = some none)
    (a0 : PySem.W.nsIn K mainGlobals "is_name" = some (some (.ref f0)))
    (l0 : K.lookup f0 = some ⟨oc0, od0, .func (PySem.W.fnOf "is_name" "is_name" (defArgs s_is_name) (defBody s_is_name) (defScope s_is_name) .none kV0 dc0 pm0 an0 cd0 ct0), sl0⟩)
    (c0 : PySem.W.codeIn K cd0 "is_name" = true)
    (k0 : PySem.W.keepIn K (.ref f0) = true)
    (a1 : PySem.W.findIn K (.ref c_Plan) "__contains__" = some (some (.ref f1)))
    (i1 : PySem.W.isFn K (.ref f1) = true)
    (h1 : PySem.W.fnIn K f1 = true)
    (l1 : K.lookup f1 = some ⟨oc1, od1, .func (PySem.W.fnOf "__contains__" "Plan.__contains__" (defArgs s_Plan___contains__) (defBody s_Plan___contains__) (defScope s_Plan___contains__) .none kV1 dc1 pm1 an1 cd1 ct1), sl1⟩)
    (c1 : PySem.W.codeIn K cd1 "Plan.__contains__" = true)
    (k1 : PySem.W.keepIn K (.ref f1) = true)
    (a2 : PySem.W.nsIn K mainGlobals "_law_alike" = some (some (.ref f2)))
    (l2 : K.lookup f2 = some ⟨oc2, od2, .func (PySem.W.fnOf "_law_alike" "_law_alike" (defArgs s__law_alike) (defBody s__law_alike) (defScope s__law_alike) .none kV2 dc2 pm2 an2 cd2 ct2), sl2⟩)
    (c2 : PySem.W.codeIn K cd2 "_law_alike" = true)
    (k2 : PySem.W.keepIn K (.ref f2) = true)
    (a3 : PySem.W.nsIn K mainGlobals "_law_bag" = some (some (.ref f3)))
    (l3 : K.lookup f3 = some ⟨oc3, od3, .func (PySem.W.fnOf "_law_bag" "_law_bag" (defArgs s__law_bag) (defBody s__law_bag) (defScope s__law_bag) .none kV3 dc3 pm3 an3 cd3 ct3), sl3⟩)
    (c3 : PySem.W.codeIn K cd3 "_law_bag" = true)
    (k3 : PySem.W.keepIn K (.ref f3) = true)
    (a4 : PySem.W.nsIn K mainGlobals "_law_take" = some (some (.ref f4)))
    (l4 : K.lookup f4 = some ⟨oc4, od4, .func (PySem.W.fnOf "_law_take" "_law_take" (defArgs s__law_take) (defBody s__law_take) (defScope s__law_take) .none kV4 dc4 pm4 an4 cd4 ct4), sl4⟩)
    (c4 : PySem.W.codeIn K cd4 "_law_take" = true)
    (k4 : PySem.W.keepIn K (.ref f4) = true)
    (a5 : PySem.W.nsIn K mainGlobals "_law_draw_size" = some (some (.ref f5)))
    (l5 : K.lookup f5 = some ⟨oc5, od5, .func (PySem.W.fnOf "_law_draw_size" "_law_draw_size" (defArgs s__law_draw_size) (defBody s__law_draw_size) (defScope s__law_draw_size) .none kV5 dc5 pm5 an5 cd5 ct5), sl5⟩)
    (c5 : PySem.W.codeIn K cd5 "_law_draw_size" = true)
    (k5 : PySem.W.keepIn K (.ref f5) = true)
    (a6 : PySem.W.nsIn K mainGlobals "_law_draw_tree" = some (some (.ref f6)))
    (l6 : K.lookup f6 = some ⟨oc6, od6, .func (PySem.W.fnOf "_law_draw_tree" "_law_draw_tree" (defArgs s__law_draw_tree) (defBody s__law_draw_tree) (defScope s__law_draw_tree) .none kV6 dc6 pm6 an6 cd6 ct6), sl6⟩)
    (c6 : PySem.W.codeIn K cd6 "_law_draw_tree" = true)
    (k6 : PySem.W.keepIn K (.ref f6) = true)
    (a7 : PySem.W.nsIn K mainGlobals "_law_threshold" = some (some (.ref f7)))
    (l7 : K.lookup f7 = some ⟨oc7, od7, .func (PySem.W.fnOf "_law_threshold" "_law_threshold" (defArgs s__law_threshold) (defBody s__law_threshold) (defScope s__law_threshold) .none kV7 dc7 pm7 an7 cd7 ct7), sl7⟩)
    (c7 : PySem.W.codeIn K cd7 "_law_threshold" = true)
    (k7 : PySem.W.keepIn K (.ref f7) = true)
    (a8 : PySem.W.nsIn K mainGlobals "_law_draw_pool" = some (some (.ref f8)))
    (l8 : K.lookup f8 = some ⟨oc8, od8, .func (PySem.W.fnOf "_law_draw_pool" "_law_draw_pool" (defArgs s__law_draw_pool) (defBody s__law_draw_pool) (defScope s__law_draw_pool) .none kV8 dc8 pm8 an8 cd8 ct8), sl8⟩)
    (c8 : PySem.W.codeIn K cd8 "_law_draw_pool" = true)
    (k8 : PySem.W.keepIn K (.ref f8) = true)
    (a9 : PySem.W.nsIn K mainGlobals "_law_deep_parts" = some (some (.ref f9)))
    (l9 : K.lookup f9 = some ⟨oc9, od9, .func (PySem.W.fnOf "_law_deep_parts" "_law_deep_parts" (defArgs s__law_deep_parts) (defBody s__law_deep_parts) (defScope s__law_deep_parts) .none kV9 dc9 pm9 an9 cd9 ct9), sl9⟩)
    (c9 : PySem.W.codeIn K cd9 "_law_deep_parts" = true)
    (k9 : PySem.W.keepIn K (.ref f9) = true)
    (a10 : PySem.W.nsIn K mainGlobals "_law_draw_groups" = some (some (.ref f10)))
    (l10 : K.lookup f10 = some ⟨oc10, od10, .func (PySem.W.fnOf "_law_draw_groups" "_law_draw_groups" (defArgs s__law_draw_groups) (defBody s__law_draw_groups) (defScope s__law_draw_groups) .none kV10 dc10 pm10 an10 cd10 ct10), sl10⟩)
    (c10 : PySem.W.codeIn K cd10 "_law_draw_groups" = true)
    (k10 : PySem.W.keepIn K (.ref f10) = true)
    (a11 : PySem.W.nsIn K mainGlobals "_law_draw_names" = some (some (.ref f11)))
    (l11 : K.lookup f11 = some ⟨oc11, od11, .func (PySem.W.fnOf "_law_draw_names" "_law_draw_names" (defArgs s__law_draw_names) (defBody s__law_draw_names) (defScope s__law_draw_names) .none kV11 dc11 pm11 an11 cd11 ct11), sl11⟩)
    (c11 : PySem.W.codeIn K cd11 "_law_draw_names" = true)
    (k11 : PySem.W.keepIn K (.ref f11) = true)
    (a12 : PySem.W.nsIn K mainGlobals "_law_draw_stream" = some (some (.ref f12)))
    (l12 : K.lookup f12 = some ⟨oc12, od12, .func (PySem.W.fnOf "_law_draw_stream" "_law_draw_stream" (defArgs s__law_draw_stream) (defBody s__law_draw_stream) (defScope s__law_draw_stream) .none kV12 dc12 pm12 an12 cd12 ct12), sl12⟩)
    (c12 : PySem.W.codeIn K cd12 "_law_draw_stream" = true)
    (k12 : PySem.W.keepIn K (.ref f12) = true)
    (a13 : PySem.W.nsIn K mainGlobals "_law_mixed" = some (some (.ref f13)))
    (l13 : K.lookup f13 = some ⟨oc13, od13, .func (PySem.W.fnOf "_law_mixed" "_law_mixed" (defArgs s__law_mixed) (defBody s__law_mixed) (defScope s__law_mixed) .none kV13 dc13 pm13 an13 cd13 ct13), sl13⟩)
    (c13 : PySem.W.codeIn K cd13 "_law_mixed" = true)
    (k13 : PySem.W.keepIn K (.ref f13) = true)
    (a14 : PySem.W.nsIn K mainGlobals "_law_draw_parts" = some (some (.ref f14)))
    (l14 : K.lookup f14 = some ⟨oc14, od14, .func (PySem.W.fnOf "_law_draw_parts" "_law_draw_parts" (defArgs s__law_draw_parts) (defBody s__law_draw_parts) (defScope s__law_draw_parts) .none kV14 dc14 pm14 an14 cd14 ct14), sl14⟩)
    (c14 : PySem.W.codeIn K cd14 "_law_draw_parts" = true)
    (k14 : PySem.W.keepIn K (.ref f14) = true)
    (a15 : PySem.W.nsIn K mainGlobals "threshold_of" = some (some (.ref f15)))
    (l15 : K.lookup f15 = some ⟨oc15, od15, .func (PySem.W.fnOf "threshold_of" "threshold_of" (defArgs s_threshold_of) (defBody s_threshold_of) (defScope s_threshold_of) .none kV15 dc15 pm15 an15 cd15 ct15), sl15⟩)
    (c15 : PySem.W.codeIn K cd15 "threshold_of" = true)
    (k15 : PySem.W.keepIn K (.ref f15) = true)
    (a16 : PySem.W.findIn K (.ref c_Rule) "threshold" = some (some (.ref p16)))
    (pg16 : PySem.W.specialIn K (.ref p16) "__get__" = some (some (.builtin "property.__get__")))
    (pt16 : PySem.W.takesIn K (.ref p16) = some true)
    (pr16 : PySem.W.recIn K p16 "property" = some (.ref f16 :: rp16))
    (l16 : K.lookup f16 = some ⟨oc16, od16, .func (PySem.W.fnOf "threshold" "Rule.threshold" (defArgs s_Rule_threshold) (defBody s_Rule_threshold) (defScope s_Rule_threshold) .none kV16 dc16 pm16 an16 cd16 ct16), sl16⟩)
    (c16 : PySem.W.codeIn K cd16 "Rule.threshold" = true)
    (k16 : PySem.W.keepIn K (.ref f16) = true)
    (a17 : PySem.W.nsIn K mainGlobals "is_narrow" = some (some (.ref f17)))
    (l17 : K.lookup f17 = some ⟨oc17, od17, .func (PySem.W.fnOf "is_narrow" "is_narrow" (defArgs s_is_narrow) (defBody s_is_narrow) (defScope s_is_narrow) .none kV17 dc17 pm17 an17 cd17 ct17), sl17⟩)
    (c17 : PySem.W.codeIn K cd17 "is_narrow" = true)
    (k17 : PySem.W.keepIn K (.ref f17) = true)
    (a18 : PySem.W.nsIn K mainGlobals "least_own" = some (some (.ref f18)))
    (l18 : K.lookup f18 = some ⟨oc18, od18, .func (PySem.W.fnOf "least_own" "least_own" (defArgs s_least_own) (defBody s_least_own) (defScope s_least_own) .none kV18 dc18 pm18 an18 cd18 ct18), sl18⟩)
    (c18 : PySem.W.codeIn K cd18 "least_own" = true)
    (k18 : PySem.W.keepIn K (.ref f18) = true)
    (a19 : PySem.W.nsIn K mainGlobals "is_narrow_stream" = some (some (.ref f19)))
    (l19 : K.lookup f19 = some ⟨oc19, od19, .func (PySem.W.fnOf "is_narrow_stream" "is_narrow_stream" (defArgs s_is_narrow_stream) (defBody s_is_narrow_stream) (defScope s_is_narrow_stream) .none kV19 dc19 pm19 an19 cd19 ct19), sl19⟩)
    (c19 : PySem.W.codeIn K cd19 "is_narrow_stream" = true)
    (k19 : PySem.W.keepIn K (.ref f19) = true)
    (a20 : PySem.W.nsIn K mainGlobals "check_credits" = some (some (.ref f20)))
    (l20 : K.lookup f20 = some ⟨oc20, od20, .func (PySem.W.fnOf "check_credits" "check_credits" (defArgs s_check_credits) (defBody s_check_credits) (defScope s_check_credits) .none kV20 dc20 pm20 an20 cd20 ct20), sl20⟩)
    (c20 : PySem.W.codeIn K cd20 "check_credits" = true)
    (k20 : PySem.W.keepIn K (.ref f20) = true)
    (a21 : PySem.W.nsIn K mainGlobals "has_bad_guide" = some (some (.ref f21)))
    (l21 : K.lookup f21 = some ⟨oc21, od21, .func (PySem.W.fnOf "has_bad_guide" "has_bad_guide" (defArgs s_has_bad_guide) (defBody s_has_bad_guide) (defScope s_has_bad_guide) .none kV21 dc21 pm21 an21 cd21 ct21), sl21⟩)
    (c21 : PySem.W.codeIn K cd21 "has_bad_guide" = true)
    (k21 : PySem.W.keepIn K (.ref f21) = true)
    (a22 : PySem.W.nsIn K mainGlobals "check_guides" = some (some (.ref f22)))
    (l22 : K.lookup f22 = some ⟨oc22, od22, .func (PySem.W.fnOf "check_guides" "check_guides" (defArgs s_check_guides) (defBody s_check_guides) (defScope s_check_guides) .none kV22 dc22 pm22 an22 cd22 ct22), sl22⟩)
    (c22 : PySem.W.codeIn K cd22 "check_guides" = true)
    (k22 : PySem.W.keepIn K (.ref f22) = true)
    (a23 : PySem.W.nsIn K mainGlobals "is_name_or_none" = some (some (.ref f23)))
    (l23 : K.lookup f23 = some ⟨oc23, od23, .func (PySem.W.fnOf "is_name_or_none" "is_name_or_none" (defArgs s_is_name_or_none) (defBody s_is_name_or_none) (defScope s_is_name_or_none) .none kV23 dc23 pm23 an23 cd23 ct23), sl23⟩)
    (c23 : PySem.W.codeIn K cd23 "is_name_or_none" = true)
    (k23 : PySem.W.keepIn K (.ref f23) = true)
    (a24 : PySem.W.nsIn K mainGlobals "is_moment" = some (some (.ref f24)))
    (l24 : K.lookup f24 = some ⟨oc24, od24, .func (PySem.W.fnOf "is_moment" "is_moment" (defArgs s_is_moment) (defBody s_is_moment) (defScope s_is_moment) .none kV24 dc24 pm24 an24 cd24 ct24), sl24⟩)
    (c24 : PySem.W.codeIn K cd24 "is_moment" = true)
    (k24 : PySem.W.keepIn K (.ref f24) = true)
    (a25 : PySem.W.nsIn K mainGlobals "is_integer" = some (some (.ref f25)))
    (l25 : K.lookup f25 = some ⟨oc25, od25, .func (PySem.W.fnOf "is_integer" "is_integer" (defArgs s_is_integer) (defBody s_is_integer) (defScope s_is_integer) .none kV25 dc25 pm25 an25 cd25 ct25), sl25⟩)
    (c25 : PySem.W.codeIn K cd25 "is_integer" = true)
    (k25 : PySem.W.keepIn K (.ref f25) = true)
    (a26 : PySem.W.nsIn K mainGlobals "is_number" = some (some (.ref f26)))
    (l26 : K.lookup f26 = some ⟨oc26, od26, .func (PySem.W.fnOf "is_number" "is_number" (defArgs s_is_number) (defBody s_is_number) (defScope s_is_number) .none kV26 dc26 pm26 an26 cd26 ct26), sl26⟩)
    (c26 : PySem.W.codeIn K cd26 "is_number" = true)
    (k26 : PySem.W.keepIn K (.ref f26) = true)
    (a27 : PySem.W.nsIn K mainGlobals "is_pool" = some (some (.ref f27)))
    (l27 : K.lookup f27 = some ⟨oc27, od27, .func (PySem.W.fnOf "is_pool" "is_pool" (defArgs s_is_pool) (defBody s_is_pool) (defScope s_is_pool) .none kV27 dc27 pm27 an27 cd27 ct27), sl27⟩)
    (c27 : PySem.W.codeIn K cd27 "is_pool" = true)
    (k27 : PySem.W.keepIn K (.ref f27) = true)
    (a28 : PySem.W.nsIn K mainGlobals "is_group" = some (some (.ref f28)))
    (l28 : K.lookup f28 = some ⟨oc28, od28, .func (PySem.W.fnOf "is_group" "is_group" (defArgs s_is_group) (defBody s_is_group) (defScope s_is_group) .none kV28 dc28 pm28 an28 cd28 ct28), sl28⟩)
    (c28 : PySem.W.codeIn K cd28 "is_group" = true)
    (k28 : PySem.W.keepIn K (.ref f28) = true)
    (a29 : PySem.W.nsIn K mainGlobals "are_groups" = some (some (.ref f29)))
    (l29 : K.lookup f29 = some ⟨oc29, od29, .func (PySem.W.fnOf "are_groups" "are_groups" (defArgs s_are_groups) (defBody s_are_groups) (defScope s_are_groups) .none kV29 dc29 pm29 an29 cd29 ct29), sl29⟩)
    (c29 : PySem.W.codeIn K cd29 "are_groups" = true)
    (k29 : PySem.W.keepIn K (.ref f29) = true)
    (a30 : PySem.W.nsIn K mainGlobals "is_stream" = some (some (.ref f30)))
    (l30 : K.lookup f30 = some ⟨oc30, od30, .func (PySem.W.fnOf "is_stream" "is_stream" (defArgs s_is_stream) (defBody s_is_stream) (defScope s_is_stream) .none kV30 dc30 pm30 an30 cd30 ct30), sl30⟩)
    (c30 : PySem.W.codeIn K cd30 "is_stream" = true)
    (k30 : PySem.W.keepIn K (.ref f30) = true)
    (a31 : PySem.W.nsIn K mainGlobals "are_streams" = some (some (.ref f31)))
    (l31 : K.lookup f31 = some ⟨oc31, od31, .func (PySem.W.fnOf "are_streams" "are_streams" (defArgs s_are_streams) (defBody s_are_streams) (defScope s_are_streams) .none kV31 dc31 pm31 an31 cd31 ct31), sl31⟩)
    (c31 : PySem.W.codeIn K cd31 "are_streams" = true)
    (k31 : PySem.W.keepIn K (.ref f31) = true)
    (a32 : PySem.W.nsIn K mainGlobals "check_kinds" = some (some (.ref f32)))
    (l32 : K.lookup f32 = some ⟨oc32, od32, .func (PySem.W.fnOf "check_kinds" "check_kinds" (defArgs s_check_kinds) (defBody s_check_kinds) (defScope s_check_kinds) .none kV32 dc32 pm32 an32 cd32 ct32), sl32⟩)
    (c32 : PySem.W.codeIn K cd32 "check_kinds" = true)
    (k32 : PySem.W.keepIn K (.ref f32) = true)
    (a33 : PySem.W.nsIn K mainGlobals "missing_names" = some (some (.ref f33)))
    (l33 : K.lookup f33 = some ⟨oc33, od33, .func (PySem.W.fnOf "missing_names" "missing_names" (defArgs s_missing_names) (defBody s_missing_names) (defScope s_missing_names) .none kV33 dc33 pm33 an33 cd33 ct33), sl33⟩)
    (c33 : PySem.W.codeIn K cd33 "missing_names" = true)
    (k33 : PySem.W.keepIn K (.ref f33) = true)
    (a34 : PySem.W.nsIn K mainGlobals "check_names" = some (some (.ref f34)))
    (l34 : K.lookup f34 = some ⟨oc34, od34, .func (PySem.W.fnOf "check_names" "check_names" (defArgs s_check_names) (defBody s_check_names) (defScope s_check_names) .none kV34 dc34 pm34 an34 cd34 ct34), sl34⟩)
    (c34 : PySem.W.codeIn K cd34 "check_names" = true)
    (k34 : PySem.W.keepIn K (.ref f34) = true)
    (a35 : PySem.W.nsIn K mainGlobals "is_in_itself" = some (some (.ref f35)))
    (l35 : K.lookup f35 = some ⟨oc35, od35, .func (PySem.W.fnOf "is_in_itself" "is_in_itself" (defArgs s_is_in_itself) (defBody s_is_in_itself) (defScope s_is_in_itself) .none kV35 dc35 pm35 an35 cd35 ct35), sl35⟩)
    (c35 : PySem.W.codeIn K cd35 "is_in_itself" = true)
    (k35 : PySem.W.keepIn K (.ref f35) = true)
    (a36 : PySem.W.nsIn K mainGlobals "check_rings" = some (some (.ref f36)))
    (l36 : K.lookup f36 = some ⟨oc36, od36, .func (PySem.W.fnOf "check_rings" "check_rings" (defArgs s_check_rings) (defBody s_check_rings) (defScope s_check_rings) .none kV36 dc36 pm36 an36 cd36 ct36), sl36⟩)
    (c36 : PySem.W.codeIn K cd36 "check_rings" = true)
    (k36 : PySem.W.keepIn K (.ref f36) = true)
    (a37 : PySem.W.nsIn K mainGlobals "check_parts" = some (some (.ref f37)))
    (l37 : K.lookup f37 = some ⟨oc37, od37, .func (PySem.W.fnOf "check_parts" "check_parts" (defArgs s_check_parts) (defBody s_check_parts) (defScope s_check_parts) .none kV37 dc37 pm37 an37 cd37 ct37), sl37⟩)
    (c37 : PySem.W.codeIn K cd37 "check_parts" = true)
    (k37 : PySem.W.keepIn K (.ref f37) = true)
    (a38 : PySem.W.nsIn K mainGlobals "ordered" = some (some (.ref f38)))
    (l38 : K.lookup f38 = some ⟨oc38, od38, .func (PySem.W.fnOf "ordered" "ordered" (defArgs s_ordered) (defBody s_ordered) (defScope s_ordered) .none kV38 dc38 pm38 an38 cd38 ct38), sl38⟩)
    (c38 : PySem.W.codeIn K cd38 "ordered" = true)
    (k38 : PySem.W.keepIn K (.ref f38) = true)
    (a39 : PySem.W.nsIn K mainGlobals "pools_of" = some (some (.ref f39)))
    (l39 : K.lookup f39 = some ⟨oc39, od39, .func (PySem.W.fnOf "pools_of" "pools_of" (defArgs s_pools_of) (defBody s_pools_of) (defScope s_pools_of) .none kV39 dc39 pm39 an39 cd39 ct39), sl39⟩)
    (c39 : PySem.W.codeIn K cd39 "pools_of" = true)
    (k39 : PySem.W.keepIn K (.ref f39) = true)
    (a40 : PySem.W.findIn K (.ref c_Plan) "__init__" = some (some (.ref f40)))
    (i40 : PySem.W.isFn K (.ref f40) = true)
    (h40 : PySem.W.fnIn K f40 = true)
    (l40 : K.lookup f40 = some ⟨oc40, od40, .func (PySem.W.fnOf "__init__" "Plan.__init__" (defArgs s_Plan___init__) (defBody s_Plan___init__) (defScope s_Plan___init__) .none kV40 dc40 pm40 an40 cd40 ct40), sl40⟩)
    (c40 : PySem.W.codeIn K cd40 "Plan.__init__" = true)
    (k40 : PySem.W.keepIn K (.ref f40) = true)
    (a41 : PySem.W.nsIn K mainGlobals "has_word" = some (some (.ref f41)))
    (l41 : K.lookup f41 = some ⟨oc41, od41, .func (PySem.W.fnOf "has_word" "has_word" (defArgs s_has_word) (defBody s_has_word) (defScope s_has_word) .none kV41 dc41 pm41 an41 cd41 ct41), sl41⟩)
    (c41 : PySem.W.codeIn K cd41 "has_word" = true)
    (k41 : PySem.W.keepIn K (.ref f41) = true)
    (a42 : PySem.W.nsIn K mainGlobals "is_by" = some (some (.ref f42)))
    (l42 : K.lookup f42 = some ⟨oc42, od42, .func (PySem.W.fnOf "is_by" "is_by" (defArgs s_is_by) (defBody s_is_by) (defScope s_is_by) .none kV42 dc42 pm42 an42 cd42 ct42), sl42⟩)
    (c42 : PySem.W.codeIn K cd42 "is_by" = true)
    (k42 : PySem.W.keepIn K (.ref f42) = true)
    (a43 : PySem.W.nsIn K mainGlobals "is_leaf" = some (some (.ref f43)))
    (l43 : K.lookup f43 = some ⟨oc43, od43, .func (PySem.W.fnOf "is_leaf" "is_leaf" (defArgs s_is_leaf) (defBody s_is_leaf) (defScope s_is_leaf) .none kV43 dc43 pm43 an43 cd43 ct43), sl43⟩)
    (c43 : PySem.W.codeIn K cd43 "is_leaf" = true)
    (k43 : PySem.W.keepIn K (.ref f43) = true)
    (a44 : PySem.W.nsIn K mainGlobals "is_tree" = some (some (.ref f44)))
    (l44 : K.lookup f44 = some ⟨oc44, od44, .func (PySem.W.fnOf "is_tree" "is_tree" (defArgs s_is_tree) (defBody s_is_tree) (defScope s_is_tree) .none kV44 dc44 pm44 an44 cd44 ct44), sl44⟩)
    (c44 : PySem.W.codeIn K cd44 "is_tree" = true)
    (k44 : PySem.W.keepIn K (.ref f44) = true)
    (a45 : PySem.W.findIn K (.ref c_Rule) "__init__" = some (some (.ref f45)))
    (i45 : PySem.W.isFn K (.ref f45) = true)
    (h45 : PySem.W.fnIn K f45 = true)
    (l45 : K.lookup f45 = some ⟨oc45, od45, .func (PySem.W.fnOf "__init__" "Rule.__init__" (defArgs s_Rule___init__) (defBody s_Rule___init__) (defScope s_Rule___init__) .none kV45 dc45 pm45 an45 cd45 ct45), sl45⟩)
    (c45 : PySem.W.codeIn K cd45 "Rule.__init__" = true)
    (k45 : PySem.W.keepIn K (.ref f45) = true)
    (a46 : PySem.W.nsIn K mainGlobals "_law_make_plan" = some (some (.ref f46)))
    (l46 : K.lookup f46 = some ⟨oc46, od46, .func (PySem.W.fnOf "_law_make_plan" "_law_make_plan" (defArgs s__law_make_plan) (defBody s__law_make_plan) (defScope s__law_make_plan) .none kV46 dc46 pm46 an46 cd46 ct46), sl46⟩)
    (c46 : PySem.W.codeIn K cd46 "_law_make_plan" = true)
    (k46 : PySem.W.keepIn K (.ref f46) = true)
    (a47 : PySem.W.nsIn K mainGlobals "_law_around" = some (some (.ref f47)))
    (l47 : K.lookup f47 = some ⟨oc47, od47, .func (PySem.W.fnOf "_law_around" "_law_around" (defArgs s__law_around) (defBody s__law_around) (defScope s__law_around) .none kV47 dc47 pm47 an47 cd47 ct47), sl47⟩)
    (c47 : PySem.W.codeIn K cd47 "_law_around" = true)
    (k47 : PySem.W.keepIn K (.ref f47) = true)
    (a48 : PySem.W.nsIn K mainGlobals "_law_over" = some (some (.ref f48)))
    (l48 : K.lookup f48 = some ⟨oc48, od48, .func (PySem.W.fnOf "_law_over" "_law_over" (defArgs s__law_over) (defBody s__law_over) (defScope s__law_over) .none kV48 dc48 pm48 an48 cd48 ct48), sl48⟩)
    (c48 : PySem.W.codeIn K cd48 "_law_over" = true)
    (k48 : PySem.W.keepIn K (.ref f48) = true)
    (a49 : PySem.W.findIn K (.ref c_Unknown) "__init__" = some (some (.ref f49)))
    (i49 : PySem.W.typeIn K (.ref f49) = some (.type "function"))
    (l49 : K.lookup f49 = some ⟨oc49, od49, .func (PySem.W.fnOf "__init__" "Unknown.__init__" (defArgs s_Unknown___init__) (defBody s_Unknown___init__) (defScope s_Unknown___init__) .none kV49 dc49 pm49 an49 cd49 ct49), sl49⟩)
    (c49 : PySem.W.codeIn K cd49 "Unknown.__init__" = true)
    (k49 : PySem.W.keepIn K (.ref f49) = true)
    (a50 : PySem.W.findIn K (.ref c_Plan) "__getitem__" = some (some (.ref f50)))
    (i50 : PySem.W.isFn K (.ref f50) = true)
    (h50 : PySem.W.fnIn K f50 = true)
    (l50 : K.lookup f50 = some ⟨oc50, od50, .func (PySem.W.fnOf "__getitem__" "Plan.__getitem__" (defArgs s_Plan___getitem__) (defBody s_Plan___getitem__) (defScope s_Plan___getitem__) .none kV50 dc50 pm50 an50 cd50 ct50), sl50⟩)
    (c50 : PySem.W.codeIn K cd50 "Plan.__getitem__" = true)
    (k50 : PySem.W.keepIn K (.ref f50) = true)
    (a51 : PySem.W.findIn K (.ref c_Rule) "tree" = some (some (.ref f51)))
    (i51 : PySem.W.isFn K (.ref f51) = true)
    (h51 : PySem.W.fnIn K f51 = true)
    (l51 : K.lookup f51 = some ⟨oc51, od51, .func (PySem.W.fnOf "tree" "Rule.tree" (defArgs s_Rule_tree) (defBody s_Rule_tree) (defScope s_Rule_tree) .none kV51 dc51 pm51 an51 cd51 ct51), sl51⟩)
    (c51 : PySem.W.codeIn K cd51 "Rule.tree" = true)
    (k51 : PySem.W.keepIn K (.ref f51) = true)
    (a52 : PySem.W.nsIn K mainGlobals "_law_pool" = some (some (.ref f52)))
    (l52 : K.lookup f52 = some ⟨oc52, od52, .func (PySem.W.fnOf "_law_pool" "_law_pool" (defArgs s__law_pool) (defBody s__law_pool) (defScope s__law_pool) .none kV52 dc52 pm52 an52 cd52 ct52), sl52⟩)
    (c52 : PySem.W.codeIn K cd52 "_law_pool" = true)
    (k52 : PySem.W.keepIn K (.ref f52) = true)
    (a53 : PySem.W.nsIn K mainGlobals "_law_pool_right" = some (some (.ref f53)))
    (l53 : K.lookup f53 = some ⟨oc53, od53, .func (PySem.W.fnOf "_law_pool_right" "_law_pool_right" (defArgs s__law_pool_right) (defBody s__law_pool_right) (defScope s__law_pool_right) .none kV53 dc53 pm53 an53 cd53 ct53), sl53⟩)
    (c53 : PySem.W.codeIn K cd53 "_law_pool_right" = true)
    (k53 : PySem.W.keepIn K (.ref f53) = true)
    (a54 : PySem.W.nsIn K mainGlobals "_law_shared" = some (some (.ref f54)))
    (l54 : K.lookup f54 = some ⟨oc54, od54, .func (PySem.W.fnOf "_law_shared" "_law_shared" (defArgs s__law_shared) (defBody s__law_shared) (defScope s__law_shared) .none kV54 dc54 pm54 an54 cd54 ct54), sl54⟩)
    (c54 : PySem.W.codeIn K cd54 "_law_shared" = true)
    (k54 : PySem.W.keepIn K (.ref f54) = true)
    (a55 : PySem.W.findIn K (.ref c_Plan) "_row" = some (some (.ref f55)))
    (i55 : PySem.W.isFn K (.ref f55) = true)
    (h55 : PySem.W.fnIn K f55 = true)
    (l55 : K.lookup f55 = some ⟨oc55, od55, .func (PySem.W.fnOf "_row" "Plan._row" (defArgs s_Plan__row) (defBody s_Plan__row) (defScope s_Plan__row) .none kV55 dc55 pm55 an55 cd55 ct55), sl55⟩)
    (c55 : PySem.W.codeIn K cd55 "Plan._row" = true)
    (k55 : PySem.W.keepIn K (.ref f55) = true)
    (a56 : PySem.W.findIn K (.ref c_Plan) "guide" = some (some (.ref f56)))
    (i56 : PySem.W.isFn K (.ref f56) = true)
    (h56 : PySem.W.fnIn K f56 = true)
    (l56 : K.lookup f56 = some ⟨oc56, od56, .func (PySem.W.fnOf "guide" "Plan.guide" (defArgs s_Plan_guide) (defBody s_Plan_guide) (defScope s_Plan_guide) .none kV56 dc56 pm56 an56 cd56 ct56), sl56⟩)
    (c56 : PySem.W.codeIn K cd56 "Plan.guide" = true)
    (k56 : PySem.W.keepIn K (.ref f56) = true)
    (a57 : PySem.W.findIn K (.ref c_Plan) "most" = some (some (.ref f57)))
    (i57 : PySem.W.isFn K (.ref f57) = true)
    (h57 : PySem.W.fnIn K f57 = true)
    (l57 : K.lookup f57 = some ⟨oc57, od57, .func (PySem.W.fnOf "most" "Plan.most" (defArgs s_Plan_most) (defBody s_Plan_most) (defScope s_Plan_most) .none kV57 dc57 pm57 an57 cd57 ct57), sl57⟩)
    (c57 : PySem.W.codeIn K cd57 "Plan.most" = true)
    (k57 : PySem.W.keepIn K (.ref f57) = true)
    (a58 : PySem.W.nsIn K mainGlobals "outward" = some (some (.ref f58)))
    (l58 : K.lookup f58 = some ⟨oc58, od58, .func (PySem.W.fnOf "outward" "outward" (defArgs s_outward) (defBody s_outward) (defScope s_outward) .none kV58 dc58 pm58 an58 cd58 ct58), sl58⟩)
    (c58 : PySem.W.codeIn K cd58 "outward" = true)
    (k58 : PySem.W.keepIn K (.ref f58) = true)
    (a59 : PySem.W.findIn K (.ref c_Plan) "over" = some (some (.ref f59)))
    (i59 : PySem.W.isFn K (.ref f59) = true)
    (h59 : PySem.W.fnIn K f59 = true)
    (l59 : K.lookup f59 = some ⟨oc59, od59, .func (PySem.W.fnOf "over" "Plan.over" (defArgs s_Plan_over) (defBody s_Plan_over) (defScope s_Plan_over) .none kV59 dc59 pm59 an59 cd59 ct59), sl59⟩)
    (c59 : PySem.W.codeIn K cd59 "Plan.over" = true)
    (k59 : PySem.W.keepIn K (.ref f59) = true)
    (a60 : PySem.W.findIn K (.ref c_Plan) "under" = some (some (.ref f60)))
    (i60 : PySem.W.isFn K (.ref f60) = true)
    (h60 : PySem.W.fnIn K f60 = true)
    (l60 : K.lookup f60 = some ⟨oc60, od60, .func (PySem.W.fnOf "under" "Plan.under" (defArgs s_Plan_under) (defBody s_Plan_under) (defScope s_Plan_under) .none kV60 dc60 pm60 an60 cd60 ct60), sl60⟩)
    (c60 : PySem.W.codeIn K cd60 "Plan.under" = true)
    (k60 : PySem.W.keepIn K (.ref f60) = true)
    (a61 : PySem.W.nsIn K mainGlobals "_law_told" = some (some (.ref f61)))
    (l61 : K.lookup f61 = some ⟨oc61, od61, .func (PySem.W.fnOf "_law_told" "_law_told" (defArgs s__law_told) (defBody s__law_told) (defScope s__law_told) .none kV61 dc61 pm61 an61 cd61 ct61), sl61⟩)
    (c61 : PySem.W.codeIn K cd61 "_law_told" = true)
    (k61 : PySem.W.keepIn K (.ref f61) = true)
    (a62 : PySem.W.nsIn K mainGlobals "_law_under" = some (some (.ref f62)))
    (l62 : K.lookup f62 = some ⟨oc62, od62, .func (PySem.W.fnOf "_law_under" "_law_under" (defArgs s__law_under) (defBody s__law_under) (defScope s__law_under) .none kV62 dc62 pm62 an62 cd62 ct62), sl62⟩)
    (c62 : PySem.W.codeIn K cd62 "_law_under" = true)
    (k62 : PySem.W.keepIn K (.ref f62) = true)
    (a63 : PySem.W.nsIn K mainGlobals "law" = some (some (.ref f63)))
    (l63 : K.lookup f63 = some ⟨oc63, od63, .func (PySem.W.fnOf "law" "law" (defArgs s_law) (defBody s_law) (defScope s_law) .none kV63 dc63 pm63 an63 cd63 ct63), sl63⟩)
    (c63 : PySem.W.codeIn K cd63 "law" = true)
    (k63 : PySem.W.keepIn K (.ref f63) = true)
    (zb_abs : PySem.W.nsIn K mainGlobals "abs" = some none)
    (zb_all : PySem.W.nsIn K mainGlobals "all" = some none)
    (zb_bool : PySem.W.nsIn K mainGlobals "bool" = some none)
    (zb_dict : PySem.W.nsIn K mainGlobals "dict" = some none)
    (zb_int : PySem.W.nsIn K mainGlobals "int" = some none)
    (zb_isinstance : PySem.W.nsIn K mainGlobals "isinstance" = some none)
    (zb_len : PySem.W.nsIn K mainGlobals "len" = some none)
    (zb_list : PySem.W.nsIn K mainGlobals "list" = some none)
    (zb_max : PySem.W.nsIn K mainGlobals "max" = some none)
    (zb_min : PySem.W.nsIn K mainGlobals "min" = some none)
    (zb_range : PySem.W.nsIn K mainGlobals "range" = some none)
    (zb_repr : PySem.W.nsIn K mainGlobals "repr" = some none)
    (zb_sorted : PySem.W.nsIn K mainGlobals "sorted" = some none)
    (zb_str : PySem.W.nsIn K mainGlobals "str" = some none)
    (zb_tuple : PySem.W.nsIn K mainGlobals "tuple" = some none)
    (zc_AROUND : PySem.W.nsIn K mainGlobals "AROUND" = some (some (.int 3 tk_AROUND)))
    (zc_GUIDE : PySem.W.nsIn K mainGlobals "GUIDE" = some (some (.int 5 tk_GUIDE)))
    (zc_HOUSE : PySem.W.nsIn K mainGlobals "HOUSE" = some (some (.int 3 tk_HOUSE)))
    (zc_KIND : PySem.W.nsIn K mainGlobals "KIND" = some (some (.int 4 tk_KIND)))
    (zc_LONGEST_NAME : PySem.W.nsIn K mainGlobals "LONGEST_NAME" = some (some (.int 8 tk_LONGEST_NAME)))
    (zc_MOST : PySem.W.nsIn K mainGlobals "MOST" = some (some (.int 2 tk_MOST)))
    (zc_MOST_BY : PySem.W.nsIn K mainGlobals "MOST_BY" = some (some (.int 6 tk_MOST_BY)))
    (zc_MOST_GROUPS : PySem.W.nsIn K mainGlobals "MOST_GROUPS" = some (some (.int 6 tk_MOST_GROUPS)))
    (zc_MOST_LEAVES : PySem.W.nsIn K mainGlobals "MOST_LEAVES" = some (some (.int 6 tk_MOST_LEAVES)))
    (zc_MOST_STREAMS : PySem.W.nsIn K mainGlobals "MOST_STREAMS" = some (some (.int 6 tk_MOST_STREAMS)))
    (zc_PIPE : PySem.W.nsIn K mainGlobals "PIPE" = some (some (.str "pipe" tk_PIPE))) :
    ∃ fd : FuncData, (∀ (s : Shared) (v : Value), BindsTo s fd ⟨[v], []⟩ [("_law_script", v)]) ∧ ∀ base : Heap, K.In base → base.Ns mainGlobals mg → FnG l.prog w K mg base CX0 17 fa fd P_law (sp_law K) := by
  have e := hfa.symm.trans (PySem.W.mg_of X G a63)
  cases e
  have T : Bl mg := ⟨trivial, PySem.W.mg_none_of X G zb_abs, PySem.W.mg_none_of X G zb_all, PySem.W.mg_none_of X G zb_bool, PySem.W.mg_none_of X G zb_dict, PySem.W.mg_none_of X G zb_int, PySem.W.mg_none_of X G zb_isinstance, PySem.W.mg_none_of X G zb_len, PySem.W.mg_none_of X G zb_list, PySem.W.mg_none_of X G zb_max, PySem.W.mg_none_of X G zb_min, PySem.W.mg_none_of X G zb_range, PySem.W.mg_none_of X G zb_repr, PySem.W.mg_none_of X G zb_sorted, PySem.W.mg_none_of X G zb_str, PySem.W.mg_none_of X G zb_tuple, ⟨_, PySem.W.mg_of X G zc_AROUND⟩, ⟨_, PySem.W.mg_of X G zc_GUIDE⟩, ⟨_, PySem.W.mg_of X G zc_HOUSE⟩, ⟨_, PySem.W.mg_of X G zc_KIND⟩, ⟨_, PySem.W.mg_of X G zc_LONGEST_NAME⟩, ⟨_, PySem.W.mg_of X G zc_MOST⟩, ⟨_, PySem.W.mg_of X G zc_MOST_BY⟩, ⟨_, PySem.W.mg_of X G zc_MOST_GROUPS⟩, ⟨_, PySem.W.mg_of X G zc_MOST_LEAVES⟩, ⟨_, PySem.W.mg_of X G zc_MOST_STREAMS⟩, ⟨_, PySem.W.mg_of X G zc_PIPE⟩⟩
  have F0 := fun_mk (st := s_is_name) l0 c0 k0
  have b0 := F0.binds (ps := P_is_name) fun _ _ _ _ _ _ us hl => match us, hl with | [_], _ => rfl
  have F1 := fun_mk (st := s_Plan___contains__) l1 c1 k1
  have b1 := F1.binds (ps := P_Plan___contains__) fun _ _ _ _ _ _ us hl => match us, hl with | [_, _], _ => rfl
  have F2 := fun_mk (st := s__law_alike) l2 c2 k2
  have b2 := F2.binds (ps := P__law_alike) fun _ _ _ _ _ _ us hl => match us, hl with | [_, _], _ => rfl
  have F3 := fun_mk (st := s__law_bag) l3 c3 k3
  have b3 := F3.binds (ps := P__law_bag) fun _ _ _ _ _ _ us hl => match us, hl with | [_], _ => rfl
  have F4 := fun_mk (st := s__law_take) l4 c4 k4
  have b4 := F4.binds (ps := P__law_take) fun _ _ _ _ _ _ us hl => match us, hl with | [_, _], _ => rfl
  have F5 := fun_mk (st := s__law_draw_size) l5 c5 k5
  have b5 := F5.binds (ps := P__law_draw_size) fun _ _ _ _ _ _ us hl => match us, hl with | [_, _, _], _ => rfl
  have F6 := fun_mk (st := s__law_draw_tree) l6 c6 k6
  have b6 := F6.binds (ps := P__law_draw_tree) fun _ _ _ _ _ _ us hl => match us, hl with | [_, _, _, _], _ => rfl
  have F7 := fun_mk (st := s__law_threshold) l7 c7 k7
  have b7 := F7.binds (ps := P__law_threshold) fun _ _ _ _ _ _ us hl => match us, hl with | [_], _ => rfl
  have F8 := fun_mk (st := s__law_draw_pool) l8 c8 k8
  have b8 := F8.binds (ps := P__law_draw_pool) fun _ _ _ _ _ _ us hl => match us, hl with | [_, _, _], _ => rfl
  have F9 := fun_mk (st := s__law_deep_parts) l9 c9 k9
  have b9 := F9.binds (ps := P__law_deep_parts) fun _ _ _ _ _ _ us hl => match us, hl with | [_, _], _ => rfl
  have F10 := fun_mk (st := s__law_draw_groups) l10 c10 k10
  have b10 := F10.binds (ps := P__law_draw_groups) fun _ _ _ _ _ _ us hl => match us, hl with | [_, _, _, _], _ => rfl
  have F11 := fun_mk (st := s__law_draw_names) l11 c11 k11
  have b11 := F11.binds (ps := P__law_draw_names) fun _ _ _ _ _ _ us hl => match us, hl with | [_, _], _ => rfl
  have F12 := fun_mk (st := s__law_draw_stream) l12 c12 k12
  have b12 := F12.binds (ps := P__law_draw_stream) fun _ _ _ _ _ _ us hl => match us, hl with | [_, _, _, _], _ => rfl
  have F13 := fun_mk (st := s__law_mixed) l13 c13 k13
  have b13 := F13.binds (ps := P__law_mixed) fun _ _ _ _ _ _ us hl => match us, hl with | [_, _], _ => rfl
  have F14 := fun_mk (st := s__law_draw_parts) l14 c14 k14
  have b14 := F14.binds (ps := P__law_draw_parts) fun _ _ _ _ _ _ us hl => match us, hl with | [_, _, _, _], _ => rfl
  have F15 := fun_mk (st := s_threshold_of) l15 c15 k15
  have b15 := F15.binds (ps := P_threshold_of) fun _ _ _ _ _ _ us hl => match us, hl with | [_], _ => rfl
  have F16 := fun_mk (st := s_Rule_threshold) l16 c16 k16
  have b16 := F16.binds (ps := P_Rule_threshold) fun _ _ _ _ _ _ us hl => match us, hl with | [_], _ => rfl
  have F17 := fun_mk (st := s_is_narrow) l17 c17 k17
  have b17 := F17.binds (ps := P_is_narrow) fun _ _ _ _ _ _ us hl => match us, hl with | [_], _ => rfl
  have F18 := fun_mk (st := s_least_own) l18 c18 k18
  have b18 := F18.binds (ps := P_least_own) fun _ _ _ _ _ _ us hl => match us, hl with | [_, _], _ => rfl
  have F19 := fun_mk (st := s_is_narrow_stream) l19 c19 k19
  have b19 := F19.binds (ps := P_is_narrow_stream) fun _ _ _ _ _ _ us hl => match us, hl with | [_], _ => rfl
  have F20 := fun_mk (st := s_check_credits) l20 c20 k20
  have b20 := F20.binds (ps := P_check_credits) fun _ _ _ _ _ _ us hl => match us, hl with | [_, _, _, _], _ => rfl
  have F21 := fun_mk (st := s_has_bad_guide) l21 c21 k21
  have b21 := F21.binds (ps := P_has_bad_guide) fun _ _ _ _ _ _ us hl => match us, hl with | [_, _], _ => rfl
  have F22 := fun_mk (st := s_check_guides) l22 c22 k22
  have b22 := F22.binds (ps := P_check_guides) fun _ _ _ _ _ _ us hl => match us, hl with | [_], _ => rfl
  have F23 := fun_mk (st := s_is_name_or_none) l23 c23 k23
  have b23 := F23.binds (ps := P_is_name_or_none) fun _ _ _ _ _ _ us hl => match us, hl with | [_], _ => rfl
  have F24 := fun_mk (st := s_is_moment) l24 c24 k24
  have b24 := F24.binds (ps := P_is_moment) fun _ _ _ _ _ _ us hl => match us, hl with | [_], _ => rfl
  have F25 := fun_mk (st := s_is_integer) l25 c25 k25
  have b25 := F25.binds (ps := P_is_integer) fun _ _ _ _ _ _ us hl => match us, hl with | [_], _ => rfl
  have F26 := fun_mk (st := s_is_number) l26 c26 k26
  have b26 := F26.binds (ps := P_is_number) fun _ _ _ _ _ _ us hl => match us, hl with | [_, _], _ => rfl
  have F27 := fun_mk (st := s_is_pool) l27 c27 k27
  have b27 := F27.binds (ps := P_is_pool) fun _ _ _ _ _ _ us hl => match us, hl with | [_], _ => rfl
  have F28 := fun_mk (st := s_is_group) l28 c28 k28
  have b28 := F28.binds (ps := P_is_group) fun _ _ _ _ _ _ us hl => match us, hl with | [_], _ => rfl
  have F29 := fun_mk (st := s_are_groups) l29 c29 k29
  have b29 := F29.binds (ps := P_are_groups) fun _ _ _ _ _ _ us hl => match us, hl with | [_], _ => rfl
  have F30 := fun_mk (st := s_is_stream) l30 c30 k30
  have b30 := F30.binds (ps := P_is_stream) fun _ _ _ _ _ _ us hl => match us, hl with | [_], _ => rfl
  have F31 := fun_mk (st := s_are_streams) l31 c31 k31
  have b31 := F31.binds (ps := P_are_streams) fun _ _ _ _ _ _ us hl => match us, hl with | [_], _ => rfl
  have F32 := fun_mk (st := s_check_kinds) l32 c32 k32
  have b32 := F32.binds (ps := P_check_kinds) fun _ _ _ _ _ _ us hl => match us, hl with | [_, _, _, _], _ => rfl
  have F33 := fun_mk (st := s_missing_names) l33 c33 k33
  have b33 := F33.binds (ps := P_missing_names) fun _ _ _ _ _ _ us hl => match us, hl with | [_, _, _], _ => rfl
  have F34 := fun_mk (st := s_check_names) l34 c34 k34
  have b34 := F34.binds (ps := P_check_names) fun _ _ _ _ _ _ us hl => match us, hl with | [_, _, _], _ => rfl
  have F35 := fun_mk (st := s_is_in_itself) l35 c35 k35
  have b35 := F35.binds (ps := P_is_in_itself) fun _ _ _ _ _ _ us hl => match us, hl with | [_, _], _ => rfl
  have F36 := fun_mk (st := s_check_rings) l36 c36 k36
  have b36 := F36.binds (ps := P_check_rings) fun _ _ _ _ _ _ us hl => match us, hl with | [_, _], _ => rfl
  have F37 := fun_mk (st := s_check_parts) l37 c37 k37
  have b37 := F37.binds (ps := P_check_parts) fun _ _ _ _ _ _ us hl => match us, hl with | [_, _, _, _], _ => rfl
  have F38 := fun_mk (st := s_ordered) l38 c38 k38
  have b38 := F38.binds (ps := P_ordered) fun _ _ _ _ _ _ us hl => match us, hl with | [_], _ => rfl
  have F39 := fun_mk (st := s_pools_of) l39 c39 k39
  have b39 := F39.binds (ps := P_pools_of) fun _ _ _ _ _ _ us hl => match us, hl with | [_, _, _, _], _ => rfl
  have F40 := fun_mk (st := s_Plan___init__) l40 c40 k40
  have b40 := F40.binds (ps := P_Plan___init__) fun _ _ _ _ _ _ us hl => match us, hl with | [_, _, _, _, _], _ => rfl
  have F41 := fun_mk (st := s_has_word) l41 c41 k41
  have b41 := F41.binds (ps := P_has_word) fun _ _ _ _ _ _ us hl => match us, hl with | [_, _], _ => rfl
  have F42 := fun_mk (st := s_is_by) l42 c42 k42
  have b42 := F42.binds (ps := P_is_by) fun _ _ _ _ _ _ us hl => match us, hl with | [_], _ => rfl
  have F43 := fun_mk (st := s_is_leaf) l43 c43 k43
  have b43 := F43.binds (ps := P_is_leaf) fun _ _ _ _ _ _ us hl => match us, hl with | [_], _ => rfl
  have F44 := fun_mk (st := s_is_tree) l44 c44 k44
  have b44 := F44.binds (ps := P_is_tree) fun _ _ _ _ _ _ us hl => match us, hl with | [_], _ => rfl
  have F45 := fun_mk (st := s_Rule___init__) l45 c45 k45
  have b45 := F45.binds (ps := P_Rule___init__) fun _ _ _ _ _ _ us hl => match us, hl with | [_, _], _ => rfl
  have F46 := fun_mk (st := s__law_make_plan) l46 c46 k46
  have b46 := F46.binds (ps := P__law_make_plan) fun _ _ _ _ _ _ us hl => match us, hl with | [_, _], _ => rfl
  have F47 := fun_mk (st := s__law_around) l47 c47 k47
  have b47 := F47.binds (ps := P__law_around) fun _ _ _ _ _ _ us hl => match us, hl with | [_, _], _ => rfl
  have F48 := fun_mk (st := s__law_over) l48 c48 k48
  have b48 := F48.binds (ps := P__law_over) fun _ _ _ _ _ _ us hl => match us, hl with | [_, _], _ => rfl
  have F49 := fun_mk (st := s_Unknown___init__) l49 c49 k49
  have b49 := F49.binds (ps := P_Unknown___init__) fun _ _ _ _ _ _ us hl => match us, hl with | [_, _], _ => rfl
  have F50 := fun_mk (st := s_Plan___getitem__) l50 c50 k50
  have b50 := F50.binds (ps := P_Plan___getitem__) fun _ _ _ _ _ _ us hl => match us, hl with | [_, _], _ => rfl
  have F51 := fun_mk (st := s_Rule_tree) l51 c51 k51
  have b51 := F51.binds (ps := P_Rule_tree) fun _ _ _ _ _ _ us hl => match us, hl with | [_], _ => rfl
  have F52 := fun_mk (st := s__law_pool) l52 c52 k52
  have b52 := F52.binds (ps := P__law_pool) fun _ _ _ _ _ _ us hl => match us, hl with | [_, _], _ => rfl
  have F53 := fun_mk (st := s__law_pool_right) l53 c53 k53
  have b53 := F53.binds (ps := P__law_pool_right) fun _ _ _ _ _ _ us hl => match us, hl with | [_, _, _], _ => rfl
  have F54 := fun_mk (st := s__law_shared) l54 c54 k54
  have b54 := F54.binds (ps := P__law_shared) fun _ _ _ _ _ _ us hl => match us, hl with | [_], _ => rfl
  have F55 := fun_mk (st := s_Plan__row) l55 c55 k55
  have b55 := F55.binds (ps := P_Plan__row) fun _ _ _ _ _ _ us hl => match us, hl with | [_, _], _ => rfl
  have F56 := fun_mk (st := s_Plan_guide) l56 c56 k56
  have b56 := F56.binds (ps := P_Plan_guide) fun _ _ _ _ _ _ us hl => match us, hl with | [_, _], _ => rfl
  have F57 := fun_mk (st := s_Plan_most) l57 c57 k57
  have b57 := F57.binds (ps := P_Plan_most) fun _ _ _ _ _ _ us hl => match us, hl with | [_, _], _ => rfl
  have F58 := fun_mk (st := s_outward) l58 c58 k58
  have b58 := F58.binds (ps := P_outward) fun _ _ _ _ _ _ us hl => match us, hl with | [_, _], _ => rfl
  have F59 := fun_mk (st := s_Plan_over) l59 c59 k59
  have b59 := F59.binds (ps := P_Plan_over) fun _ _ _ _ _ _ us hl => match us, hl with | [_, _], _ => rfl
  have F60 := fun_mk (st := s_Plan_under) l60 c60 k60
  have b60 := F60.binds (ps := P_Plan_under) fun _ _ _ _ _ _ us hl => match us, hl with | [_, _], _ => rfl
  have F61 := fun_mk (st := s__law_told) l61 c61 k61
  have b61 := F61.binds (ps := P__law_told) fun _ _ _ _ _ _ us hl => match us, hl with | [_, _, _], _ => rfl
  have F62 := fun_mk (st := s__law_under) l62 c62 k62
  have b62 := F62.binds (ps := P__law_under) fun _ _ _ _ _ _ us hl => match us, hl with | [_, _], _ => rfl
  have F63 := fun_mk (st := s_law) l63 c63 k63
  have b63 := F63.binds (ps := P_law) fun _ _ _ _ _ _ us hl => match us, hl with | [_], _ => rfl
  refine ⟨PySem.W.fnOf "law" "law" (defArgs s_law) (defBody s_law) (defScope s_law) .none kV63 dc63 pm63 an63 cd63 ct63, fun s v => .of_eq rfl, fun base _ _ => ?_⟩
  have E_PipeError : ErrK K mg "PipeError" c_PipeError := ⟨PySem.W.mg_of X G aC_PipeError, ⟨⟨_, _, _, _, _, _, _, _, _, _, _, _, _, _, _, kl_PipeError, refs0⟩, sa_PipeError, ex_PipeError, ty_PipeError, kc_PipeError⟩, ⟨ga_PipeError, gg_PipeError, ex_PipeError, hd_PipeError⟩, ⟨ga_PipeError, gg_PipeError, ex_PipeError, hd_PipeError, ha_PipeError, hn_PipeError, ht_PipeError, hm_PipeError⟩⟩
  have E_Unknown : ErrK K mg "Unknown" c_Unknown := ⟨PySem.W.mg_of X G aC_Unknown, ⟨⟨_, _, _, _, _, _, _, _, _, _, _, _, _, _, _, kl_Unknown, refs1 _⟩, sa_Unknown, ex_Unknown, ty_Unknown, kc_Unknown⟩, ⟨ga_Unknown, gg_Unknown, ex_Unknown, hd_Unknown⟩, ⟨ga_Unknown, gg_Unknown, ex_Unknown, hd_Unknown, ha_Unknown, hn_Unknown, ht_Unknown, hm_Unknown⟩⟩
  have fx_FxUn : FxUn K ({ PipeError := c_PipeError, Wrong := 0, TooMany := 0, Overdrawn := 0, NotPassed := 0, Rule := c_Rule, Account := 0, Unknown := c_Unknown, Plan := c_Plan } : Cs) := ⟨E_Unknown.oex, nf_Unknown, exm_is E_PipeError.xf ty_PipeError su_Unknown⟩
  have cl_Plan : Cls K c_Plan := ⟨pg_Plan, hd_Plan, po_Plan, sa_Plan⟩
  have ic_Plan : C8.InsC K c_Plan := ⟨cl_Plan, ha_Plan, hn_Plan, ht_Plan, hm_Plan, kit_same⟩
  have K_Plan : Kls K mg "Plan" c_Plan := ⟨PySem.W.mg_of X G aC_Plan, cl_Plan, mk_Plan, kc_Plan, sf_Plan, ic_Plan, ne_Plan⟩
  have fx_FxPlan : FxPlan K ({ PipeError := c_PipeError, Wrong := 0, TooMany := 0, Overdrawn := 0, NotPassed := 0, Rule := c_Rule, Account := 0, Unknown := c_Unknown, Plan := c_Plan } : Cs) := ⟨cl_Plan, na_Plan__pipe, na_Plan__houses, na_Plan__kinds, na_Plan__streams, na_Plan__pools, ic_Plan⟩
  have cl_Rule : Cls K c_Rule := ⟨pg_Rule, hd_Rule, po_Rule, sa_Rule⟩
  have ic_Rule : C8.InsC K c_Rule := ⟨cl_Rule, ha_Rule, hn_Rule, ht_Rule, hm_Rule, kit_same⟩
  have K_Rule : Kls K mg "Rule" c_Rule := ⟨PySem.W.mg_of X G aC_Rule, cl_Rule, mk_Rule, kc_Rule, sf_Rule, ic_Rule, ne_Rule⟩
  have fx_FxRule : FxRule K ({ PipeError := c_PipeError, Wrong := 0, TooMany := 0, Overdrawn := 0, NotPassed := 0, Rule := c_Rule, Account := 0, Unknown := c_Unknown, Plan := c_Plan } : Cs) := ⟨cl_Rule, na_Rule__tree, ic_Rule⟩
  have f_is_name : Cal l.prog w K mg base CX0 1 "is_name" P_is_name [] (sp_is_name K) := ⟨_, _, ok_is_name  (P := l.prog) (w := w) (base := base) F0 T  , PySem.W.mg_of X G a0, k0, b0⟩
  have o_Plan___contains__ : Own l.prog w K mg base CX0 2 c_Plan "__contains__" P_Plan___contains__ (sp_Plan___contains__ K ({ PipeError := c_PipeError, Wrong := 0, TooMany := 0, Overdrawn := 0, NotPassed := 0, Rule := c_Rule, Account := 0, Unknown := c_Unknown, Plan := c_Plan } : Cs)) := ⟨_, _, ok_Plan___contains__ (C := ({ PipeError := c_PipeError, Wrong := 0, TooMany := 0, Overdrawn := 0, NotPassed := 0, Rule := c_Rule, Account := 0, Unknown := c_Unknown, Plan := c_Plan } : Cs)) (P := l.prog) (w := w) (base := base) F1 T  f_is_name, a1, i1, k1, h1, b1⟩
  have f__law_alike : CalG l.prog w K mg base CX0 1 "_law_alike" P__law_alike (sp_law_alike K) := ⟨_, _, ok__law_alike  (P := l.prog) (w := w) (base := base) F2 T  , PySem.W.mg_of X G a2, k2, b2⟩
  have f__law_bag : Cal l.prog w K mg base CX0 1 "_law_bag" P__law_bag [] (sp_law_bag K) := ⟨_, _, ok__law_bag  (P := l.prog) (w := w) (base := base) F3 T  , PySem.W.mg_of X G a3, k3, b3⟩
  have f__law_take : Cal l.prog w K mg base CX0 1 "_law_take" P__law_take [] (sp_law_take K) := ⟨_, _, ok__law_take  (P := l.prog) (w := w) (base := base) F4 T  , PySem.W.mg_of X G a4, k4, b4⟩
  have f__law_draw_size : Cal l.prog w K mg base CX0 2 "_law_draw_size" P__law_draw_size [] (sp_law_draw_size K) := ⟨_, _, ok__law_draw_size  (P := l.prog) (w := w) (base := base) F5 T  f__law_take, PySem.W.mg_of X G a5, k5, b5⟩
  have f__law_draw_tree : Cal l.prog w K mg base CX0 5 "_law_draw_tree" P__law_draw_tree [] (sp_law_draw_tree K 3) := ⟨_, _, all__law_draw_tree  (P := l.prog) (w := w) (base := base) F6 T  f__law_take f__law_draw_size (PySem.W.mg_of X G a6) k6 b6 3, PySem.W.mg_of X G a6, k6, b6⟩
  have f__law_threshold : Cal l.prog w K mg base CX0 7 "_law_threshold" P__law_threshold [] (sp_law_threshold K 7) := ⟨_, _, all__law_threshold  (P := l.prog) (w := w) (base := base) F7 T   (PySem.W.mg_of X G a7) k7 b7 7, PySem.W.mg_of X G a7, k7, b7⟩
  have f__law_draw_pool : Cal l.prog w K mg base CX0 8 "_law_draw_pool" P__law_draw_pool [] (sp_law_draw_pool K ({ PipeError := c_PipeError, Wrong := 0, TooMany := 0, Overdrawn := 0, NotPassed := 0, Rule := c_Rule, Account := 0, Unknown := c_Unknown, Plan := c_Plan } : Cs)) := ⟨_, _, ok__law_draw_pool (C := ({ PipeError := c_PipeError, Wrong := 0, TooMany := 0, Overdrawn := 0, NotPassed := 0, Rule := c_Rule, Account := 0, Unknown := c_Unknown, Plan := c_Plan } : Cs)) (P := l.prog) (w := w) (base := base) F8 T  f__law_threshold f__law_draw_size f__law_take f__law_draw_tree, PySem.W.mg_of X G a8, k8, b8⟩
  have f__law_deep_parts : Cal l.prog w K mg base CX0 9 "_law_deep_parts" P__law_deep_parts [] (sp_law_deep_parts K ({ PipeError := c_PipeError, Wrong := 0, TooMany := 0, Overdrawn := 0, NotPassed := 0, Rule := c_Rule, Account := 0, Unknown := c_Unknown, Plan := c_Plan } : Cs)) := ⟨_, _, ok__law_deep_parts (C := ({ PipeError := c_PipeError, Wrong := 0, TooMany := 0, Overdrawn := 0, NotPassed := 0, Rule := c_Rule, Account := 0, Unknown := c_Unknown, Plan := c_Plan } : Cs)) (P := l.prog) (w := w) (base := base) F9 T  f__law_take f__law_draw_pool, PySem.W.mg_of X G a9, k9, b9⟩
  have f__law_draw_groups : Cal l.prog w K mg base CX0 9 "_law_draw_groups" P__law_draw_groups [] (sp_law_draw_groups K ({ PipeError := c_PipeError, Wrong := 0, TooMany := 0, Overdrawn := 0, NotPassed := 0, Rule := c_Rule, Account := 0, Unknown := c_Unknown, Plan := c_Plan } : Cs)) := ⟨_, _, ok__law_draw_groups (C := ({ PipeError := c_PipeError, Wrong := 0, TooMany := 0, Overdrawn := 0, NotPassed := 0, Rule := c_Rule, Account := 0, Unknown := c_Unknown, Plan := c_Plan } : Cs)) (P := l.prog) (w := w) (base := base) F10 T  f__law_draw_pool f__law_take, PySem.W.mg_of X G a10, k10, b10⟩
  have f__law_draw_names : Cal l.prog w K mg base CX0 2 "_law_draw_names" P__law_draw_names [] (sp_law_draw_names K) := ⟨_, _, ok__law_draw_names  (P := l.prog) (w := w) (base := base) F11 T  f__law_take, PySem.W.mg_of X G a11, k11, b11⟩
  have f__law_draw_stream : Cal l.prog w K mg base CX0 8 "_law_draw_stream" P__law_draw_stream [] (sp_law_draw_stream K ({ PipeError := c_PipeError, Wrong := 0, TooMany := 0, Overdrawn := 0, NotPassed := 0, Rule := c_Rule, Account := 0, Unknown := c_Unknown, Plan := c_Plan } : Cs)) := ⟨_, _, ok__law_draw_stream (C := ({ PipeError := c_PipeError, Wrong := 0, TooMany := 0, Overdrawn := 0, NotPassed := 0, Rule := c_Rule, Account := 0, Unknown := c_Unknown, Plan := c_Plan } : Cs)) (P := l.prog) (w := w) (base := base) F12 T  f__law_threshold f__law_draw_size f__law_take f__law_draw_tree, PySem.W.mg_of X G a12, k12, b12⟩
  have f__law_mixed : Cal l.prog w K mg base CX0 2 "_law_mixed" P__law_mixed [] (sp_law_mixed K) := ⟨_, _, ok__law_mixed  (P := l.prog) (w := w) (base := base) F13 T  f__law_take, PySem.W.mg_of X G a13, k13, b13⟩
  have f__law_draw_parts : Cal l.prog w K mg base CX0 10 "_law_draw_parts" P__law_draw_parts [] (sp_law_draw_parts K ({ PipeError := c_PipeError, Wrong := 0, TooMany := 0, Overdrawn := 0, NotPassed := 0, Rule := c_Rule, Account := 0, Unknown := c_Unknown, Plan := c_Plan } : Cs)) := ⟨_, _, ok__law_draw_parts (C := ({ PipeError := c_PipeError, Wrong := 0, TooMany := 0, Overdrawn := 0, NotPassed := 0, Rule := c_Rule, Account := 0, Unknown := c_Unknown, Plan := c_Plan } : Cs)) (P := l.prog) (w := w) (base := base) F14 T  f__law_draw_stream f__law_draw_groups f__law_draw_pool f__law_take f__law_draw_names f__law_mixed, PySem.W.mg_of X G a14, k14, b14⟩
  have f_threshold_of : Cal l.prog w K mg base CX0 7 "threshold_of" P_threshold_of [] (sp_threshold_of K 7) := ⟨_, _, all_threshold_of  (P := l.prog) (w := w) (base := base) F15 T   (PySem.W.mg_of X G a15) k15 b15 7, PySem.W.mg_of X G a15, k15, b15⟩
  have o_Rule_threshold : Pro l.prog w K mg base CX0 8 c_Rule "threshold" P_Rule_threshold (sp_Rule_threshold K ({ PipeError := c_PipeError, Wrong := 0, TooMany := 0, Overdrawn := 0, NotPassed := 0, Rule := c_Rule, Account := 0, Unknown := c_Unknown, Plan := c_Plan } : Cs)) := ⟨p16, _, _, ok_Rule_threshold (C := ({ PipeError := c_PipeError, Wrong := 0, TooMany := 0, Overdrawn := 0, NotPassed := 0, Rule := c_Rule, Account := 0, Unknown := c_Unknown, Plan := c_Plan } : Cs)) (P := l.prog) (w := w) (base := base) F16 T  f_threshold_of, ⟨a16, pg16, pt16, _, pr16⟩, b16⟩
  have f_is_narrow : Cal l.prog w K mg base CX0 10 "is_narrow" P_is_narrow [] (sp_is_narrow K ({ PipeError := c_PipeError, Wrong := 0, TooMany := 0, Overdrawn := 0, NotPassed := 0, Rule := c_Rule, Account := 0, Unknown := c_Unknown, Plan := c_Plan } : Cs)) := ⟨_, _, ok_is_narrow (C := ({ PipeError := c_PipeError, Wrong := 0, TooMany := 0, Overdrawn := 0, NotPassed := 0, Rule := c_Rule, Account := 0, Unknown := c_Unknown, Plan := c_Plan } : Cs)) (P := l.prog) (w := w) (base := base) F17 T  o_Rule_threshold K_Rule, PySem.W.mg_of X G a17, k17, b17⟩
  have f_least_own : Cal l.prog w K mg base CX0 10 "least_own" P_least_own [] (sp_least_own K ({ PipeError := c_PipeError, Wrong := 0, TooMany := 0, Overdrawn := 0, NotPassed := 0, Rule := c_Rule, Account := 0, Unknown := c_Unknown, Plan := c_Plan } : Cs)) := ⟨_, _, ok_least_own (C := ({ PipeError := c_PipeError, Wrong := 0, TooMany := 0, Overdrawn := 0, NotPassed := 0, Rule := c_Rule, Account := 0, Unknown := c_Unknown, Plan := c_Plan } : Cs)) (P := l.prog) (w := w) (base := base) F18 T  o_Rule_threshold K_Rule, PySem.W.mg_of X G a18, k18, b18⟩
  have f_is_narrow_stream : Cal l.prog w K mg base CX0 11 "is_narrow_stream" P_is_narrow_stream [] (sp_is_narrow_stream K ({ PipeError := c_PipeError, Wrong := 0, TooMany := 0, Overdrawn := 0, NotPassed := 0, Rule := c_Rule, Account := 0, Unknown := c_Unknown, Plan := c_Plan } : Cs)) := ⟨_, _, ok_is_narrow_stream (C := ({ PipeError := c_PipeError, Wrong := 0, TooMany := 0, Overdrawn := 0, NotPassed := 0, Rule := c_Rule, Account := 0, Unknown := c_Unknown, Plan := c_Plan } : Cs)) (P := l.prog) (w := w) (base := base) F19 T  f_least_own, PySem.W.mg_of X G a19, k19, b19⟩
  have f_check_credits : Cal l.prog w K mg base CX0 12 "check_credits" P_check_credits [] (sp_check_credits K ({ PipeError := c_PipeError, Wrong := 0, TooMany := 0, Overdrawn := 0, NotPassed := 0, Rule := c_Rule, Account := 0, Unknown := c_Unknown, Plan := c_Plan } : Cs)) := ⟨_, _, ok_check_credits (C := ({ PipeError := c_PipeError, Wrong := 0, TooMany := 0, Overdrawn := 0, NotPassed := 0, Rule := c_Rule, Account := 0, Unknown := c_Unknown, Plan := c_Plan } : Cs)) (P := l.prog) (w := w) (base := base) F20 T  f_is_narrow_stream f_is_narrow, PySem.W.mg_of X G a20, k20, b20⟩
  have f_has_bad_guide : Cal l.prog w K mg base CX0 1 "has_bad_guide" P_has_bad_guide [] (sp_has_bad_guide K ({ PipeError := c_PipeError, Wrong := 0, TooMany := 0, Overdrawn := 0, NotPassed := 0, Rule := c_Rule, Account := 0, Unknown := c_Unknown, Plan := c_Plan } : Cs)) := ⟨_, _, ok_has_bad_guide (C := ({ PipeError := c_PipeError, Wrong := 0, TooMany := 0, Overdrawn := 0, NotPassed := 0, Rule := c_Rule, Account := 0, Unknown := c_Unknown, Plan := c_Plan } : Cs)) (P := l.prog) (w := w) (base := base) F21 T  , PySem.W.mg_of X G a21, k21, b21⟩
  have f_check_guides : Cal l.prog w K mg base CX0 2 "check_guides" P_check_guides [] (sp_check_guides K ({ PipeError := c_PipeError, Wrong := 0, TooMany := 0, Overdrawn := 0, NotPassed := 0, Rule := c_Rule, Account := 0, Unknown := c_Unknown, Plan := c_Plan } : Cs)) := ⟨_, _, ok_check_guides (C := ({ PipeError := c_PipeError, Wrong := 0, TooMany := 0, Overdrawn := 0, NotPassed := 0, Rule := c_Rule, Account := 0, Unknown := c_Unknown, Plan := c_Plan } : Cs)) (P := l.prog) (w := w) (base := base) F22 T  f_has_bad_guide, PySem.W.mg_of X G a22, k22, b22⟩
  have f_is_name_or_none : Cal l.prog w K mg base CX0 2 "is_name_or_none" P_is_name_or_none [] (sp_is_name_or_none K) := ⟨_, _, ok_is_name_or_none  (P := l.prog) (w := w) (base := base) F23 T  f_is_name, PySem.W.mg_of X G a23, k23, b23⟩
  have f_is_moment : Cal l.prog w K mg base CX0 1 "is_moment" P_is_moment [] (sp_is_moment K) := ⟨_, _, ok_is_moment  (P := l.prog) (w := w) (base := base) F24 T  , PySem.W.mg_of X G a24, k24, b24⟩
  have f_is_integer : Cal l.prog w K mg base CX0 1 "is_integer" P_is_integer [] (sp_is_integer K) := ⟨_, _, ok_is_integer  (P := l.prog) (w := w) (base := base) F25 T  , PySem.W.mg_of X G a25, k25, b25⟩
  have f_is_number : Cal l.prog w K mg base CX0 2 "is_number" P_is_number [] (sp_is_number K) := ⟨_, _, ok_is_number  (P := l.prog) (w := w) (base := base) F26 T  f_is_integer, PySem.W.mg_of X G a26, k26, b26⟩
  have f_is_pool : Cal l.prog w K mg base CX0 3 "is_pool" P_is_pool [] (sp_is_pool K ({ PipeError := c_PipeError, Wrong := 0, TooMany := 0, Overdrawn := 0, NotPassed := 0, Rule := c_Rule, Account := 0, Unknown := c_Unknown, Plan := c_Plan } : Cs)) := ⟨_, _, ok_is_pool (C := ({ PipeError := c_PipeError, Wrong := 0, TooMany := 0, Overdrawn := 0, NotPassed := 0, Rule := c_Rule, Account := 0, Unknown := c_Unknown, Plan := c_Plan } : Cs)) (P := l.prog) (w := w) (base := base) F27 T  f_is_number K_Rule f_is_moment, PySem.W.mg_of X G a27, k27, b27⟩
  have f_is_group : Cal l.prog w K mg base CX0 4 "is_group" P_is_group [] (sp_is_group K ({ PipeError := c_PipeError, Wrong := 0, TooMany := 0, Overdrawn := 0, NotPassed := 0, Rule := c_Rule, Account := 0, Unknown := c_Unknown, Plan := c_Plan } : Cs)) := ⟨_, _, ok_is_group (C := ({ PipeError := c_PipeError, Wrong := 0, TooMany := 0, Overdrawn := 0, NotPassed := 0, Rule := c_Rule, Account := 0, Unknown := c_Unknown, Plan := c_Plan } : Cs)) (P := l.prog) (w := w) (base := base) F28 T  f_is_pool f_is_name_or_none, PySem.W.mg_of X G a28, k28, b28⟩
  have f_are_groups : Cal l.prog w K mg base CX0 5 "are_groups" P_are_groups [] (sp_are_groups K ({ PipeError := c_PipeError, Wrong := 0, TooMany := 0, Overdrawn := 0, NotPassed := 0, Rule := c_Rule, Account := 0, Unknown := c_Unknown, Plan := c_Plan } : Cs)) := ⟨_, _, ok_are_groups (C := ({ PipeError := c_PipeError, Wrong := 0, TooMany := 0, Overdrawn := 0, NotPassed := 0, Rule := c_Rule, Account := 0, Unknown := c_Unknown, Plan := c_Plan } : Cs)) (P := l.prog) (w := w) (base := base) F29 T  f_is_name f_is_group, PySem.W.mg_of X G a29, k29, b29⟩
  have f_is_stream : Cal l.prog w K mg base CX0 3 "is_stream" P_is_stream [] (sp_is_stream K ({ PipeError := c_PipeError, Wrong := 0, TooMany := 0, Overdrawn := 0, NotPassed := 0, Rule := c_Rule, Account := 0, Unknown := c_Unknown, Plan := c_Plan } : Cs)) := ⟨_, _, ok_is_stream (C := ({ PipeError := c_PipeError, Wrong := 0, TooMany := 0, Overdrawn := 0, NotPassed := 0, Rule := c_Rule, Account := 0, Unknown := c_Unknown, Plan := c_Plan } : Cs)) (P := l.prog) (w := w) (base := base) F30 T  f_is_name_or_none f_is_number K_Rule, PySem.W.mg_of X G a30, k30, b30⟩
  have f_are_streams : Cal l.prog w K mg base CX0 4 "are_streams" P_are_streams [] (sp_are_streams K ({ PipeError := c_PipeError, Wrong := 0, TooMany := 0, Overdrawn := 0, NotPassed := 0, Rule := c_Rule, Account := 0, Unknown := c_Unknown, Plan := c_Plan } : Cs)) := ⟨_, _, ok_are_streams (C := ({ PipeError := c_PipeError, Wrong := 0, TooMany := 0, Overdrawn := 0, NotPassed := 0, Rule := c_Rule, Account := 0, Unknown := c_Unknown, Plan := c_Plan } : Cs)) (P := l.prog) (w := w) (base := base) F31 T  f_is_name f_is_stream, PySem.W.mg_of X G a31, k31, b31⟩
  have f_check_kinds : Cal l.prog w K mg base CX0 6 "check_kinds" P_check_kinds [] (sp_check_kinds K ({ PipeError := c_PipeError, Wrong := 0, TooMany := 0, Overdrawn := 0, NotPassed := 0, Rule := c_Rule, Account := 0, Unknown := c_Unknown, Plan := c_Plan } : Cs)) := ⟨_, _, ok_check_kinds (C := ({ PipeError := c_PipeError, Wrong := 0, TooMany := 0, Overdrawn := 0, NotPassed := 0, Rule := c_Rule, Account := 0, Unknown := c_Unknown, Plan := c_Plan } : Cs)) (P := l.prog) (w := w) (base := base) F32 T  f_are_streams f_are_groups f_is_pool, PySem.W.mg_of X G a32, k32, b32⟩
  have f_missing_names : Cal l.prog w K mg base CX0 1 "missing_names" P_missing_names [] (sp_missing_names K ({ PipeError := c_PipeError, Wrong := 0, TooMany := 0, Overdrawn := 0, NotPassed := 0, Rule := c_Rule, Account := 0, Unknown := c_Unknown, Plan := c_Plan } : Cs)) := ⟨_, _, ok_missing_names (C := ({ PipeError := c_PipeError, Wrong := 0, TooMany := 0, Overdrawn := 0, NotPassed := 0, Rule := c_Rule, Account := 0, Unknown := c_Unknown, Plan := c_Plan } : Cs)) (P := l.prog) (w := w) (base := base) F33 T  , PySem.W.mg_of X G a33, k33, b33⟩
  have f_check_names : Cal l.prog w K mg base CX0 2 "check_names" P_check_names [] (sp_check_names K ({ PipeError := c_PipeError, Wrong := 0, TooMany := 0, Overdrawn := 0, NotPassed := 0, Rule := c_Rule, Account := 0, Unknown := c_Unknown, Plan := c_Plan } : Cs)) := ⟨_, _, ok_check_names (C := ({ PipeError := c_PipeError, Wrong := 0, TooMany := 0, Overdrawn := 0, NotPassed := 0, Rule := c_Rule, Account := 0, Unknown := c_Unknown, Plan := c_Plan } : Cs)) (P := l.prog) (w := w) (base := base) F34 T  f_missing_names, PySem.W.mg_of X G a34, k34, b34⟩
  have f_is_in_itself : Cal l.prog w K mg base CX0 1 "is_in_itself" P_is_in_itself [] (sp_is_in_itself K ({ PipeError := c_PipeError, Wrong := 0, TooMany := 0, Overdrawn := 0, NotPassed := 0, Rule := c_Rule, Account := 0, Unknown := c_Unknown, Plan := c_Plan } : Cs)) := ⟨_, _, ok_is_in_itself (C := ({ PipeError := c_PipeError, Wrong := 0, TooMany := 0, Overdrawn := 0, NotPassed := 0, Rule := c_Rule, Account := 0, Unknown := c_Unknown, Plan := c_Plan } : Cs)) (P := l.prog) (w := w) (base := base) F35 T  , PySem.W.mg_of X G a35, k35, b35⟩
  have f_check_rings : Cal l.prog w K mg base CX0 2 "check_rings" P_check_rings [] (sp_check_rings K ({ PipeError := c_PipeError, Wrong := 0, TooMany := 0, Overdrawn := 0, NotPassed := 0, Rule := c_Rule, Account := 0, Unknown := c_Unknown, Plan := c_Plan } : Cs)) := ⟨_, _, ok_check_rings (C := ({ PipeError := c_PipeError, Wrong := 0, TooMany := 0, Overdrawn := 0, NotPassed := 0, Rule := c_Rule, Account := 0, Unknown := c_Unknown, Plan := c_Plan } : Cs)) (P := l.prog) (w := w) (base := base) F36 T  f_is_in_itself, PySem.W.mg_of X G a36, k36, b36⟩
  have f_check_parts : Cal l.prog w K mg base CX0 13 "check_parts" P_check_parts [] (sp_check_parts K ({ PipeError := c_PipeError, Wrong := 0, TooMany := 0, Overdrawn := 0, NotPassed := 0, Rule := c_Rule, Account := 0, Unknown := c_Unknown, Plan := c_Plan } : Cs)) := ⟨_, _, ok_check_parts (C := ({ PipeError := c_PipeError, Wrong := 0, TooMany := 0, Overdrawn := 0, NotPassed := 0, Rule := c_Rule, Account := 0, Unknown := c_Unknown, Plan := c_Plan } : Cs)) (P := l.prog) (w := w) (base := base) F37 T  f_check_credits f_check_guides f_check_rings f_check_names f_check_kinds, PySem.W.mg_of X G a37, k37, b37⟩
  have f_ordered : Cal l.prog w K mg base CX0 1 "ordered" P_ordered [] (sp_ordered K ({ PipeError := c_PipeError, Wrong := 0, TooMany := 0, Overdrawn := 0, NotPassed := 0, Rule := c_Rule, Account := 0, Unknown := c_Unknown, Plan := c_Plan } : Cs)) := ⟨_, _, ok_ordered (C := ({ PipeError := c_PipeError, Wrong := 0, TooMany := 0, Overdrawn := 0, NotPassed := 0, Rule := c_Rule, Account := 0, Unknown := c_Unknown, Plan := c_Plan } : Cs)) (P := l.prog) (w := w) (base := base) F38 T  , PySem.W.mg_of X G a38, k38, b38⟩
  have f_pools_of : Cal l.prog w K mg base CX0 2 "pools_of" P_pools_of [] (sp_pools_of K ({ PipeError := c_PipeError, Wrong := 0, TooMany := 0, Overdrawn := 0, NotPassed := 0, Rule := c_Rule, Account := 0, Unknown := c_Unknown, Plan := c_Plan } : Cs)) := ⟨_, _, ok_pools_of (C := ({ PipeError := c_PipeError, Wrong := 0, TooMany := 0, Overdrawn := 0, NotPassed := 0, Rule := c_Rule, Account := 0, Unknown := c_Unknown, Plan := c_Plan } : Cs)) (P := l.prog) (w := w) (base := base) F39 T  f_ordered, PySem.W.mg_of X G a39, k39, b39⟩
  have o_Plan___init__ : Own l.prog w K mg base CX0 14 c_Plan "__init__" P_Plan___init__ (sp_Plan___init__ K ({ PipeError := c_PipeError, Wrong := 0, TooMany := 0, Overdrawn := 0, NotPassed := 0, Rule := c_Rule, Account := 0, Unknown := c_Unknown, Plan := c_Plan } : Cs)) := ⟨_, _, ok_Plan___init__ (C := ({ PipeError := c_PipeError, Wrong := 0, TooMany := 0, Overdrawn := 0, NotPassed := 0, Rule := c_Rule, Account := 0, Unknown := c_Unknown, Plan := c_Plan } : Cs)) (P := l.prog) (w := w) (base := base) F40 T  f_pools_of f_ordered f_check_parts, a40, i40, k40, h40, b40⟩
  have f_has_word : Cal l.prog w K mg base CX0 1 "has_word" P_has_word [] (sp_has_word K) := ⟨_, _, ok_has_word  (P := l.prog) (w := w) (base := base) F41 T  , PySem.W.mg_of X G a41, k41, b41⟩
  have f_is_by : Cal l.prog w K mg base CX0 3 "is_by" P_is_by [] (sp_is_by K) := ⟨_, _, ok_is_by  (P := l.prog) (w := w) (base := base) F42 T  f_is_number, PySem.W.mg_of X G a42, k42, b42⟩
  have f_is_leaf : Cal l.prog w K mg base CX0 4 "is_leaf" P_is_leaf [] (sp_is_leaf K) := ⟨_, _, ok_is_leaf  (P := l.prog) (w := w) (base := base) F43 T  f_has_word f_is_number f_is_by, PySem.W.mg_of X G a43, k43, b43⟩
  have f_is_tree : Cal l.prog w K mg base CX0 5 "is_tree" P_is_tree [] (sp_is_tree K) := ⟨_, _, ok_is_tree  (P := l.prog) (w := w) (base := base) F44 T  f_is_leaf f_has_word, PySem.W.mg_of X G a44, k44, b44⟩
  have o_Rule___init__ : Own l.prog w K mg base CX0 6 c_Rule "__init__" P_Rule___init__ (sp_Rule___init__ K ({ PipeError := c_PipeError, Wrong := 0, TooMany := 0, Overdrawn := 0, NotPassed := 0, Rule := c_Rule, Account := 0, Unknown := c_Unknown, Plan := c_Plan } : Cs)) := ⟨_, _, ok_Rule___init__ (C := ({ PipeError := c_PipeError, Wrong := 0, TooMany := 0, Overdrawn := 0, NotPassed := 0, Rule := c_Rule, Account := 0, Unknown := c_Unknown, Plan := c_Plan } : Cs)) (P := l.prog) (w := w) (base := base) F45 T  f_is_tree, a45, i45, k45, h45, b45⟩
  have f__law_make_plan : Cal l.prog w K mg base CX0 16 "_law_make_plan" P__law_make_plan [] (sp_law_make_plan K ({ PipeError := c_PipeError, Wrong := 0, TooMany := 0, Overdrawn := 0, NotPassed := 0, Rule := c_Rule, Account := 0, Unknown := c_Unknown, Plan := c_Plan } : Cs)) := ⟨_, _, ok__law_make_plan (C := ({ PipeError := c_PipeError, Wrong := 0, TooMany := 0, Overdrawn := 0, NotPassed := 0, Rule := c_Rule, Account := 0, Unknown := c_Unknown, Plan := c_Plan } : Cs)) (P := l.prog) (w := w) (base := base) F46 T  o_Rule___init__ K_Rule o_Plan___init__ K_Plan f__law_mixed, PySem.W.mg_of X G a46, k46, b46⟩
  have f__law_around : Cal l.prog w K mg base CX0 1 "_law_around" P__law_around [] (sp_law_around K ({ PipeError := c_PipeError, Wrong := 0, TooMany := 0, Overdrawn := 0, NotPassed := 0, Rule := c_Rule, Account := 0, Unknown := c_Unknown, Plan := c_Plan } : Cs)) := ⟨_, _, ok__law_around (C := ({ PipeError := c_PipeError, Wrong := 0, TooMany := 0, Overdrawn := 0, NotPassed := 0, Rule := c_Rule, Account := 0, Unknown := c_Unknown, Plan := c_Plan } : Cs)) (P := l.prog) (w := w) (base := base) F47 T  , PySem.W.mg_of X G a47, k47, b47⟩
  have f__law_over : Cal l.prog w K mg base CX0 2 "_law_over" P__law_over [] (sp_law_over K ({ PipeError := c_PipeError, Wrong := 0, TooMany := 0, Overdrawn := 0, NotPassed := 0, Rule := c_Rule, Account := 0, Unknown := c_Unknown, Plan := c_Plan } : Cs)) := ⟨_, _, ok__law_over (C := ({ PipeError := c_PipeError, Wrong := 0, TooMany := 0, Overdrawn := 0, NotPassed := 0, Rule := c_Rule, Account := 0, Unknown := c_Unknown, Plan := c_Plan } : Cs)) (P := l.prog) (w := w) (base := base) F48 T  f__law_around, PySem.W.mg_of X G a48, k48, b48⟩
  have i_Unknown : ErrI l.prog w K mg base 1 c_Unknown P_Unknown___init__ (rOneI K c_Unknown "name") := ⟨_, _, ok_Unknown___init__ (C := ({ PipeError := c_PipeError, Wrong := 0, TooMany := 0, Overdrawn := 0, NotPassed := 0, Rule := c_Rule, Account := 0, Unknown := c_Unknown, Plan := c_Plan } : Cs)) (P := l.prog) (w := w) (base := base) F49 T  , a49, i49, b49⟩
  have o_Plan___getitem__ : Own l.prog w K mg base (L2.CX l.prog w) 3 c_Plan "__getitem__" P_Plan___getitem__ (sp_Plan___getitem__X K ({ PipeError := c_PipeError, Wrong := 0, TooMany := 0, Overdrawn := 0, NotPassed := 0, Rule := c_Rule, Account := 0, Unknown := c_Unknown, Plan := c_Plan } : Cs)) := ⟨_, _, ok_Plan___getitem__ (C := ({ PipeError := c_PipeError, Wrong := 0, TooMany := 0, Overdrawn := 0, NotPassed := 0, Rule := c_Rule, Account := 0, Unknown := c_Unknown, Plan := c_Plan } : Cs)) (P := l.prog) (w := w) (base := base) F50 T  o_Plan___contains__ E_Unknown i_Unknown, a50, i50, k50, h50, b50⟩
  have on_Plan___getitem__ : Own l.prog w K mg base (L2.CX l.prog w) 3 c_Plan "__getitem__" P_Plan___getitem__ (sp_Plan___getitem__ K ({ PipeError := c_PipeError, Wrong := 0, TooMany := 0, Overdrawn := 0, NotPassed := 0, Rule := c_Rule, Account := 0, Unknown := c_Unknown, Plan := c_Plan } : Cs)) := o_Plan___getitem__.weak fun _ _ _ _ z => weak_Plan___getitem__  z
  have o_Rule_tree : Own l.prog w K mg base CX0 1 c_Rule "tree" P_Rule_tree (sp_Rule_tree K ({ PipeError := c_PipeError, Wrong := 0, TooMany := 0, Overdrawn := 0, NotPassed := 0, Rule := c_Rule, Account := 0, Unknown := c_Unknown, Plan := c_Plan } : Cs)) := ⟨_, _, ok_Rule_tree (C := ({ PipeError := c_PipeError, Wrong := 0, TooMany := 0, Overdrawn := 0, NotPassed := 0, Rule := c_Rule, Account := 0, Unknown := c_Unknown, Plan := c_Plan } : Cs)) (P := l.prog) (w := w) (base := base) F51 T  , a51, i51, k51, h51, b51⟩
  have f__law_pool : Cal l.prog w K mg base CX0 1 "_law_pool" P__law_pool [] (sp_law_pool K ({ PipeError := c_PipeError, Wrong := 0, TooMany := 0, Overdrawn := 0, NotPassed := 0, Rule := c_Rule, Account := 0, Unknown := c_Unknown, Plan := c_Plan } : Cs)) := ⟨_, _, ok__law_pool (C := ({ PipeError := c_PipeError, Wrong := 0, TooMany := 0, Overdrawn := 0, NotPassed := 0, Rule := c_Rule, Account := 0, Unknown := c_Unknown, Plan := c_Plan } : Cs)) (P := l.prog) (w := w) (base := base) F52 T  , PySem.W.mg_of X G a52, k52, b52⟩
  have f__law_pool_right : CalG l.prog w K mg base CX0 5 "_law_pool_right" P__law_pool_right (sp_law_pool_right K ({ PipeError := c_PipeError, Wrong := 0, TooMany := 0, Overdrawn := 0, NotPassed := 0, Rule := c_Rule, Account := 0, Unknown := c_Unknown, Plan := c_Plan } : Cs)) := ⟨_, _, ok__law_pool_right (C := ({ PipeError := c_PipeError, Wrong := 0, TooMany := 0, Overdrawn := 0, NotPassed := 0, Rule := c_Rule, Account := 0, Unknown := c_Unknown, Plan := c_Plan } : Cs)) (P := l.prog) (w := w) (base := base) F53 T  o_Rule_tree K_Rule f__law_alike o_Plan___contains__ on_Plan___getitem__ f__law_pool, PySem.W.mg_of X G a53, k53, b53⟩
  have f__law_shared : Cal l.prog w K mg base CX0 1 "_law_shared" P__law_shared [] (sp_law_shared K ({ PipeError := c_PipeError, Wrong := 0, TooMany := 0, Overdrawn := 0, NotPassed := 0, Rule := c_Rule, Account := 0, Unknown := c_Unknown, Plan := c_Plan } : Cs)) := ⟨_, _, ok__law_shared (C := ({ PipeError := c_PipeError, Wrong := 0, TooMany := 0, Overdrawn := 0, NotPassed := 0, Rule := c_Rule, Account := 0, Unknown := c_Unknown, Plan := c_Plan } : Cs)) (P := l.prog) (w := w) (base := base) F54 T  , PySem.W.mg_of X G a54, k54, b54⟩
  have o_Plan__row : Own l.prog w K mg base (L2.CX l.prog w) 3 c_Plan "_row" P_Plan__row (sp_Plan__rowX K ({ PipeError := c_PipeError, Wrong := 0, TooMany := 0, Overdrawn := 0, NotPassed := 0, Rule := c_Rule, Account := 0, Unknown := c_Unknown, Plan := c_Plan } : Cs)) := ⟨_, _, ok_Plan__row (C := ({ PipeError := c_PipeError, Wrong := 0, TooMany := 0, Overdrawn := 0, NotPassed := 0, Rule := c_Rule, Account := 0, Unknown := c_Unknown, Plan := c_Plan } : Cs)) (P := l.prog) (w := w) (base := base) F55 T  f_is_name E_Unknown i_Unknown, a55, i55, k55, h55, b55⟩
  have o_Plan_guide : Own l.prog w K mg base (L2.CX l.prog w) 4 c_Plan "guide" P_Plan_guide (sp_Plan_guideX K ({ PipeError := c_PipeError, Wrong := 0, TooMany := 0, Overdrawn := 0, NotPassed := 0, Rule := c_Rule, Account := 0, Unknown := c_Unknown, Plan := c_Plan } : Cs)) := ⟨_, _, ok_Plan_guide (C := ({ PipeError := c_PipeError, Wrong := 0, TooMany := 0, Overdrawn := 0, NotPassed := 0, Rule := c_Rule, Account := 0, Unknown := c_Unknown, Plan := c_Plan } : Cs)) (P := l.prog) (w := w) (base := base) F56 T  o_Plan__row K_Plan, a56, i56, k56, h56, b56⟩
  have o_Plan_most : Own l.prog w K mg base (L2.CX l.prog w) 4 c_Plan "most" P_Plan_most (sp_Plan_mostX K ({ PipeError := c_PipeError, Wrong := 0, TooMany := 0, Overdrawn := 0, NotPassed := 0, Rule := c_Rule, Account := 0, Unknown := c_Unknown, Plan := c_Plan } : Cs)) := ⟨_, _, ok_Plan_most (C := ({ PipeError := c_PipeError, Wrong := 0, TooMany := 0, Overdrawn := 0, NotPassed := 0, Rule := c_Rule, Account := 0, Unknown := c_Unknown, Plan := c_Plan } : Cs)) (P := l.prog) (w := w) (base := base) F57 T  o_Plan__row K_Plan, a57, i57, k57, h57, b57⟩
  have f_outward : Cal l.prog w K mg base CX0 1 "outward" P_outward [] (sp_outward K ({ PipeError := c_PipeError, Wrong := 0, TooMany := 0, Overdrawn := 0, NotPassed := 0, Rule := c_Rule, Account := 0, Unknown := c_Unknown, Plan := c_Plan } : Cs)) := ⟨_, _, ok_outward (C := ({ PipeError := c_PipeError, Wrong := 0, TooMany := 0, Overdrawn := 0, NotPassed := 0, Rule := c_Rule, Account := 0, Unknown := c_Unknown, Plan := c_Plan } : Cs)) (P := l.prog) (w := w) (base := base) F58 T  , PySem.W.mg_of X G a58, k58, b58⟩
  have o_Plan_over : Own l.prog w K mg base (L2.CX l.prog w) 4 c_Plan "over" P_Plan_over (sp_Plan_overX K ({ PipeError := c_PipeError, Wrong := 0, TooMany := 0, Overdrawn := 0, NotPassed := 0, Rule := c_Rule, Account := 0, Unknown := c_Unknown, Plan := c_Plan } : Cs)) := ⟨_, _, ok_Plan_over (C := ({ PipeError := c_PipeError, Wrong := 0, TooMany := 0, Overdrawn := 0, NotPassed := 0, Rule := c_Rule, Account := 0, Unknown := c_Unknown, Plan := c_Plan } : Cs)) (P := l.prog) (w := w) (base := base) F59 T  f_outward o_Plan__row K_Plan, a59, i59, k59, h59, b59⟩
  have on_Plan_over : Own l.prog w K mg base (L2.CX l.prog w) 4 c_Plan "over" P_Plan_over (sp_Plan_over K ({ PipeError := c_PipeError, Wrong := 0, TooMany := 0, Overdrawn := 0, NotPassed := 0, Rule := c_Rule, Account := 0, Unknown := c_Unknown, Plan := c_Plan } : Cs)) := o_Plan_over.weak fun _ _ _ _ z => weak_Plan_over  z
  have o_Plan_under : Own l.prog w K mg base (L2.CX l.prog w) 5 c_Plan "under" P_Plan_under (sp_Plan_underX K ({ PipeError := c_PipeError, Wrong := 0, TooMany := 0, Overdrawn := 0, NotPassed := 0, Rule := c_Rule, Account := 0, Unknown := c_Unknown, Plan := c_Plan } : Cs)) := ⟨_, _, ok_Plan_under (C := ({ PipeError := c_PipeError, Wrong := 0, TooMany := 0, Overdrawn := 0, NotPassed := 0, Rule := c_Rule, Account := 0, Unknown := c_Unknown, Plan := c_Plan } : Cs)) (P := l.prog) (w := w) (base := base) F60 T  on_Plan_over K_Plan o_Plan___contains__ E_Unknown i_Unknown, a60, i60, k60, h60, b60⟩
  have f__law_told : Cal l.prog w K mg base CX0 6 "_law_told" P__law_told [] (sp_law_told K ({ PipeError := c_PipeError, Wrong := 0, TooMany := 0, Overdrawn := 0, NotPassed := 0, Rule := c_Rule, Account := 0, Unknown := c_Unknown, Plan := c_Plan } : Cs)) := ⟨_, _, ok__law_told (C := ({ PipeError := c_PipeError, Wrong := 0, TooMany := 0, Overdrawn := 0, NotPassed := 0, Rule := c_Rule, Account := 0, Unknown := c_Unknown, Plan := c_Plan } : Cs)) (P := l.prog) (w := w) (base := base) F61 T  E_PipeError o_Plan___getitem__ o_Plan_guide K_Plan o_Plan_most o_Plan_under o_Plan_over E_Unknown nf_Unknown, PySem.W.mg_of X G a61, k61, b61⟩
  have f__law_under : Cal l.prog w K mg base CX0 3 "_law_under" P__law_under [] (sp_law_under K ({ PipeError := c_PipeError, Wrong := 0, TooMany := 0, Overdrawn := 0, NotPassed := 0, Rule := c_Rule, Account := 0, Unknown := c_Unknown, Plan := c_Plan } : Cs)) := ⟨_, _, ok__law_under (C := ({ PipeError := c_PipeError, Wrong := 0, TooMany := 0, Overdrawn := 0, NotPassed := 0, Rule := c_Rule, Account := 0, Unknown := c_Unknown, Plan := c_Plan } : Cs)) (P := l.prog) (w := w) (base := base) F62 T  f__law_over, PySem.W.mg_of X G a62, k62, b62⟩
  exact (ok_law (C := ({ PipeError := c_PipeError, Wrong := 0, TooMany := 0, Overdrawn := 0, NotPassed := 0, Rule := c_Rule, Account := 0, Unknown := c_Unknown, Plan := c_Plan } : Cs)) (P := l.prog) (w := w) (base := base) F63 T fx_FxRule fx_FxPlan fx_FxUn f__law_told o_Plan___contains__ f__law_shared f__law_over f__law_alike f__law_pool_right f__law_under f__law_make_plan f__law_take f__law_deep_parts f__law_draw_parts f__law_bag)
end Lw
open PySem PySem.W PyProof.Rows
set_option maxRecDepth 100000 in
set_option maxHeartbeats 0 in
theorem PySem.Challenge.cw_sharedpipe_k25_pools_over_and_under_holds : PySem.Challenge.rw_sharedpipe_k25_pools_over_and_under.Holds := by
  w_on; o_law; k_head; (case hw => w_witness2)
  k_fill
  refine Pk.walkG (l := PySem.Challenge.rw_sharedpipe_k25_pools_over_and_under) (n := 63) (k := 17) (x := "_law_script") (sp := Pk.sp_law) rfl (by decide) rfl ⟨rfl, by decide, by decide⟩ (fun w h Y => PySem.W.kIn_of Y) ?F (fun K H a ns hl hS => ⟨a, ns, rfl, hS, hl, fun _ => rfl⟩)
  case F =>
    intro w mg fa h KX G hmg
    refine' Lw.all_mk KX G hmg ?aC_PipeError ?kl_PipeError ?sa_PipeError ?ex_PipeError ?ty_PipeError ?kc_PipeError ?hd_PipeError ?ga_PipeError ?gg_PipeError ?ha_PipeError ?hn_PipeError ?ht_PipeError ?hm_PipeError ?aC_Unknown ?kl_Unknown ?sa_Unknown ?ex_Unknown ?ty_Unknown ?kc_Unknown ?hd_Unknown ?ga_Unknown ?gg_Unknown ?ha_Unknown ?hn_Unknown ?ht_Unknown ?hm_Unknown ?nf_Unknown ?su_Unknown ?aC_Plan ?pg_Plan ?hd_Plan ?po_Plan ?sa_Plan ?mk_Plan ?kc_Plan ?sf_Plan ?ha_Plan ?hn_Plan ?ht_Plan ?hm_Plan ?ne_Plan ?na_Plan__pipe ?na_Plan__houses ?na_Plan__kinds ?na_Plan__streams ?na_Plan__pools ?aC_Rule ?pg_Rule ?hd_Rule ?po_Rule ?sa_Rule ?mk_Rule ?kc_Rule ?sf_Rule ?ha_Rule ?hn_Rule ?ht_Rule ?hm_Rule ?ne_Rule ?na_Rule__tree ?a0 ?l0 ?c0 ?k0 ?a1 ?i1 ?h1 ?l1 ?c1 ?k1 ?a2 ?l2 ?c2 ?k2 ?a3 ?l3 ?c3 ?k3 ?a4 ?l4 ?c4 ?k4 ?a5 ?l5 ?c5 ?k5 ?a6 ?l6 ?c6 ?k6 ?a7 ?l7 ?c7 ?k7 ?a8 ?l8 ?c8 ?k8 ?a9 ?l9 ?c9 ?k9 ?a10 ?l10 ?c10 ?k10 ?a11 ?l11 ?c11 ?k11 ?a12 ?l12 ?c12 ?k12 ?a13 ?l13 ?c13 ?k13 ?a14 ?l14 ?c14 ?k14 ?a15 ?l15 ?c15 ?k15 ?a16 ?pg16 ?pt16 ?pr16 ?l16 ?c16 ?k16 ?a17 ?l17 ?c17 ?k17 ?a18 ?l18 ?c18 ?k18 ?a19 ?l19 ?c19 ?k19 ?a20 ?l20 ?c20 ?k20 ?a21 ?l21 ?c21 ?k21 ?a22 ?l22 ?c22 ?k22 ?a23 ?l23 ?c23 ?k23 ?a24 ?l24 ?c24 ?k24 ?a25 ?l25 ?c25 ?k25 ?a26 ?l26 ?c26 ?k26 ?a27 ?l27 ?c27 ?k27 ?a28 ?l28 ?c28 ?k28 ?a29 ?l29 ?c29 ?k29 ?a30 ?l30 ?c30 ?k30 ?a31 ?l31 ?c31 ?k31 ?a32 ?l32 ?c32 ?k32 ?a33 ?l33 ?c33 ?k33 ?a34 ?l34 ?c34 ?k34 ?a35 ?l35 ?c35 ?k35 ?a36 ?l36 ?c36 ?k36 ?a37 ?l37 ?c37 ?k37 ?a38 ?l38 ?c38 ?k38 ?a39 ?l39 ?c39 ?k39 ?a40 ?i40 ?h40 ?l40 ?c40 ?k40 ?a41 ?l41 ?c41 ?k41 ?a42 ?l42 ?c42 ?k42 ?a43 ?l43 ?c43 ?k43 ?a44 ?l44 ?c44 ?k44 ?a45 ?i45 ?h45 ?l45 ?c45 ?k45 ?a46 ?l46 ?c46 ?k46 ?a47 ?l47 ?c47 ?k47 ?a48 ?l48 ?c48 ?k48 ?a49 ?i49 ?l49 ?c49 ?k49 ?a50 ?i50 ?h50 ?l50 ?c50 ?k50 ?a51 ?i51 ?h51 ?l51 ?c51 ?k51 ?a52 ?l52 ?c52 ?k52 ?a53 ?l53 ?c53 ?k53 ?a54 ?l54 ?c54 ?k54 ?a55 ?i55 ?h55 ?l55 ?c55 ?k55 ?a56 ?i56 ?h56 ?l56 ?c56 ?k56 ?a57 ?i57 ?h57 ?l57 ?c57 ?k57 ?a58 ?l58 ?c58 ?k58 ?a59 ?i59 ?h59 ?l59 ?c59 ?k59 ?a60 ?i60 ?h60 ?l60 ?c60 ?k60 ?a61 ?l61 ?c61 ?k61 ?a62 ?l62 ?c62 ?k62 ?a63 ?l63 ?c63 ?k63 ?zb_abs ?zb_all ?zb_bool ?zb_dict ?zb_int ?zb_isinstance ?zb_len ?zb_list ?zb_max ?zb_min ?zb_range ?zb_repr ?zb_sorted ?zb_str ?zb_tuple ?zc_AROUND ?zc_GUIDE ?zc_HOUSE ?zc_KIND ?zc_LONGEST_NAME ?zc_MOST ?zc_MOST_BY ?zc_MOST_GROUPS ?zc_MOST_LEAVES ?zc_MOST_STREAMS ?zc_PIPE
    (case aC_PipeError => k_is)
    (case kl_PipeError => k_is)
    (case sa_PipeError => k_is)
    (case ex_PipeError => k_is)
    (case ty_PipeError => k_is)
    (case kc_PipeError => k_is)
    (case hd_PipeError => k_is)
    (case ga_PipeError => k_is)
    (case gg_PipeError => k_is)
    (case ha_PipeError => k_is)
    (case hn_PipeError => k_is)
    (case ht_PipeError => k_is)
    (case hm_PipeError => k_is)
    (case aC_Unknown => k_is)
    (case kl_Unknown => k_is)
    (case sa_Unknown => k_is)
    (case ex_Unknown => k_is)
    (case ty_Unknown => k_is)
    (case kc_Unknown => k_is)
    (case hd_Unknown => k_is)
    (case ga_Unknown => k_is)
    (case gg_Unknown => k_is)
    (case ha_Unknown => k_is)
    (case hn_Unknown => k_is)
    (case ht_Unknown => k_is)
    (case hm_Unknown => k_is)
    (case nf_Unknown => k_is)
    (case su_Unknown => k_is)
    (case aC_Plan => k_is)
    (case pg_Plan => k_is)
    (case hd_Plan => k_is)
    (case po_Plan => k_is)
    (case sa_Plan => k_is)
    (case mk_Plan => k_is)
    (case kc_Plan => k_is)
    (case sf_Plan => k_is)
    (case ha_Plan => k_is)
    (case hn_Plan => k_is)
    (case ht_Plan => k_is)
    (case hm_Plan => k_is)
    (case ne_Plan => k_is)
    (case na_Plan__pipe => k_is)
    (case na_Plan__houses => k_is)
    (case na_Plan__kinds => k_is)
    (case na_Plan__streams => k_is)
    (case na_Plan__pools => k_is)
    (case aC_Rule => k_is)
    (case pg_Rule => k_is)
    (case hd_Rule => k_is)
    (case po_Rule => k_is)
    (case sa_Rule => k_is)
    (case mk_Rule => k_is)
    (case kc_Rule => k_is)
    (case sf_Rule => k_is)
    (case ha_Rule => k_is)
    (case hn_Rule => k_is)
    (case ht_Rule => k_is)
    (case hm_Rule => k_is)
    (case ne_Rule => k_is)
    (case na_Rule__tree => k_is)
    (case a0 => k_is)
    (case l0 => k_is)
    (case c0 => k_is)
    (case k0 => k_is)
    (case a1 => k_is)
    (case i1 => k_is)
    (case h1 => k_is)
    (case l1 => k_is)
    (case c1 => k_is)
    (case k1 => k_is)
    (case a2 => k_is)
    (case l2 => k_is)
    (case c2 => k_is)
    (case k2 => k_is)
    (case a3 => k_is)
    (case l3 => k_is)
    (case c3 => k_is)
    (case k3 => k_is)
    (case a4 => k_is)
    (case l4 => k_is)
    (case c4 => k_is)
    (case k4 => k_is)
    (case a5 => k_is)
    (case l5 => k_is)
    (case c5 => k_is)
    (case k5 => k_is)
    (case a6 => k_is)
    (case l6 => k_is)
    (case c6 => k_is)
    (case k6 => k_is)
    (case a7 => k_is)
    (case l7 => k_is)
    (case c7 => k_is)
    (case k7 => k_is)
    (case a8 => k_is)
    (case l8 => k_is)
    (case c8 => k_is)
    (case k8 => k_is)
    (case a9 => k_is)
    (case l9 => k_is)
    (case c9 => k_is)
    (case k9 => k_is)
    (case a10 => k_is)
    (case l10 => k_is)
    (case c10 => k_is)
    (case k10 => k_is)
    (case a11 => k_is)
    (case l11 => k_is)
    (case c11 => k_is)
    (case k11 => k_is)
    (case a12 => k_is)
    (case l12 => k_is)
    (case c12 => k_is)
    (case k12 => k_is)
    (case a13 => k_is)
    (case l13 => k_is)
    (case c13 => k_is)
    (case k13 => k_is)
    (case a14 => k_is)
    (case l14 => k_is)
    (case c14 => k_is)
    (case k14 => k_is)
    (case a15 => k_is)
    (case l15 => k_is)
    (case c15 => k_is)
    (case k15 => k_is)
    (case a16 => k_is)
    (case pg16 => k_is)
    (case pt16 => k_is)
    (case pr16 => k_is)
    (case l16 => k_is)
    (case c16 => k_is)
    (case k16 => k_is)
    (case a17 => k_is)
    (case l17 => k_is)
    (case c17 => k_is)
    (case k17 => k_is)
    (case a18 => k_is)
    (case l18 => k_is)
    (case c18 => k_is)
    (case k18 => k_is)
    (case a19 => k_is)
    (case l19 => k_is)
    (case c19 => k_is)
    (case k19 => k_is)
    (case a20 => k_is)
    (case l20 => k_is)
    (case c20 => k_is)
    (case k20 => k_is)
    (case a21 => k_is)
    (case l21 => k_is)
    (case c21 => k_is)
    (case k21 => k_is)
    (case a22 => k_is)
    (case l22 => k_is)
    (case c22 => k_is)
    (case k22 => k_is)
    (case a23 => k_is)
    (case l23 => k_is)
    (case c23 => k_is)
    (case k23 => k_is)
    (case a24 => k_is)
    (case l24 => k_is)
    (case c24 => k_is)
    (case k24 => k_is)
    (case a25 => k_is)
    (case l25 => k_is)
    (case c25 => k_is)
    (case k25 => k_is)
    (case a26 => k_is)
    (case l26 => k_is)
    (case c26 => k_is)
    (case k26 => k_is)
    (case a27 => k_is)
    (case l27 => k_is)
    (case c27 => k_is)
    (case k27 => k_is)
    (case a28 => k_is)
    (case l28 => k_is)
    (case c28 => k_is)
    (case k28 => k_is)
    (case a29 => k_is)
    (case l29 => k_is)
    (case c29 => k_is)
    (case k29 => k_is)
    (case a30 => k_is)
    (case l30 => k_is)
    (case c30 => k_is)
    (case k30 => k_is)
    (case a31 => k_is)
    (case l31 => k_is)
    (case c31 => k_is)
    (case k31 => k_is)
    (case a32 => k_is)
    (case l32 => k_is)
    (case c32 => k_is)
    (case k32 => k_is)
    (case a33 => k_is)
    (case l33 => k_is)
    (case c33 => k_is)
    (case k33 => k_is)
    (case a34 => k_is)
    (case l34 => k_is)
    (case c34 => k_is)
    (case k34 => k_is)
    (case a35 => k_is)
    (case l35 => k_is)
    (case c35 => k_is)
    (case k35 => k_is)
    (case a36 => k_is)
    (case l36 => k_is)
    (case c36 => k_is)
    (case k36 => k_is)
    (case a37 => k_is)
    (case l37 => k_is)
    (case c37 => k_is)
    (case k37 => k_is)
    (case a38 => k_is)
    (case l38 => k_is)
    (case c38 => k_is)
    (case k38 => k_is)
    (case a39 => k_is)
    (case l39 => k_is)
    (case c39 => k_is)
    (case k39 => k_is)
    (case a40 => k_is)
    (case i40 => k_is)
    (case h40 => k_is)
    (case l40 => k_is)
    (case c40 => k_is)
    (case k40 => k_is)
    (case a41 => k_is)
    (case l41 => k_is)
    (case c41 => k_is)
    (case k41 => k_is)
    (case a42 => k_is)
    (case l42 => k_is)
    (case c42 => k_is)
    (case k42 => k_is)
    (case a43 => k_is)
    (case l43 => k_is)
    (case c43 => k_is)
    (case k43 => k_is)
    (case a44 => k_is)
    (case l44 => k_is)
    (case c44 => k_is)
    (case k44 => k_is)
    (case a45 => k_is)
    (case i45 => k_is)
    (case h45 => k_is)
    (case l45 => k_is)
    (case c45 => k_is)
    (case k45 => k_is)
    (case a46 => k_is)
    (case l46 => k_is)
    (case c46 => k_is)
    (case k46 => k_is)
    (case a47 => k_is)
    (case l47 => k_is)
    (case c47 => k_is)
    (case k47 => k_is)
    (case a48 => k_is)
    (case l48 => k_is)
    (case c48 => k_is)
    (case k48 => k_is)
    (case a49 => k_is)
    (case i49 => k_is)
    (case l49 => k_is)
    (case c49 => k_is)
    (case k49 => k_is)
    (case a50 => k_is)
    (case i50 => k_is)
    (case h50 => k_is)
    (case l50 => k_is)
    (case c50 => k_is)
    (case k50 => k_is)
    (case a51 => k_is)
    (case i51 => k_is)
    (case h51 => k_is)
    (case l51 => k_is)
    (case c51 => k_is)
    (case k51 => k_is)
    (case a52 => k_is)
    (case l52 => k_is)
    (case c52 => k_is)
    (case k52 => k_is)
    (case a53 => k_is)
    (case l53 => k_is)
    (case c53 => k_is)
    (case k53 => k_is)
    (case a54 => k_is)
    (case l54 => k_is)
    (case c54 => k_is)
    (case k54 => k_is)
    (case a55 => k_is)
    (case i55 => k_is)
    (case h55 => k_is)
    (case l55 => k_is)
    (case c55 => k_is)
    (case k55 => k_is)
    (case a56 => k_is)
    (case i56 => k_is)
    (case h56 => k_is)
    (case l56 => k_is)
    (case c56 => k_is)
    (case k56 => k_is)
    (case a57 => k_is)
    (case i57 => k_is)
    (case h57 => k_is)
    (case l57 => k_is)
    (case c57 => k_is)
    (case k57 => k_is)
    (case a58 => k_is)
    (case l58 => k_is)
    (case c58 => k_is)
    (case k58 => k_is)
    (case a59 => k_is)
    (case i59 => k_is)
    (case h59 => k_is)
    (case l59 => k_is)
    (case c59 => k_is)
    (case k59 => k_is)
    (case a60 => k_is)
    (case i60 => k_is)
    (case h60 => k_is)
    (case l60 => k_is)
    (case c60 => k_is)
    (case k60 => k_is)
    (case a61 => k_is)
    (case l61 => k_is)
    (case c61 => k_is)
    (case k61 => k_is)
    (case a62 => k_is)
    (case l62 => k_is)
    (case c62 => k_is)
    (case k62 => k_is)
    (case a63 => k_is)
    (case l63 => k_is)
    (case c63 => k_is)
    (case k63 => k_is)
    (case zb_abs => k_is)
    (case zb_all => k_is)
    (case zb_bool => k_is)
    (case zb_dict => k_is)
    (case zb_int => k_is)
    (case zb_isinstance => k_is)
    (case zb_len => k_is)
    (case zb_list => k_is)
    (case zb_max => k_is)
    (case zb_min => k_is)
    (case zb_range => k_is)
    (case zb_repr => k_is)
    (case zb_sorted => k_is)
    (case zb_str => k_is)
    (case zb_tuple => k_is)
    (case zc_AROUND => k_is)
    (case zc_GUIDE => k_is)
    (case zc_HOUSE => k_is)
    (case zc_KIND => k_is)
    (case zc_LONGEST_NAME => k_is)
    (case zc_MOST => k_is)
    (case zc_MOST_BY => k_is)
    (case zc_MOST_GROUPS => k_is)
    (case zc_MOST_LEAVES => k_is)
    (case zc_MOST_STREAMS => k_is)
    (case zc_PIPE => k_is)
