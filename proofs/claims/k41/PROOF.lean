import PyProof.Rows.All
import Wide.All
import OpenK.AllK
import Wide.FinOn
import HandS.ForExc
import HandS.Wide
import HandS.Evl
import HandS.Deep
import HandS.TupAny
import HandS.TupMul
import HandS.Star
import HandS.Property
import HandS.Flow
import HandS.Style
import HandS.IsInst
import HandS.OwnEq
import HandS.ForMost
import HandS.SlotsOwn
import HandS.Codes
import HandS.Defaults
import KE.KOpsOwn
import HandS.Small
import KE.KExcIs
import HandS.WordsExc
import HandS.ExcInit
import HandS.ExcField
import HandS.ExcIs
import HandS.TryOnly
import KE.KSuper
import KE.KExcSuper
import HandS.ExcValue
import HandS.Text
import HandS.Dict
import PyProof.EqKinds
import HandS.FStr
import HandS.StrMore
import HandS.RaiseMore
import PySem.Challenge.RW_sharedpipe_k41_frames_refused
set_option Elab.async false
set_option linter.all false
set_option maxRecDepth 100000
set_option maxHeartbeats 2000000
namespace Pk
open PySem PySem.Spec L2 PyProof.Rows

/-! ### texts of data: a bound of their length -/
mutual
def siz : PyData → Nat
  | .none => 8
  | .bool _ => 8
  | .int _ => 2000
  | .str x => 10 * x.length + 8
  | .list xs => 8 + sizL xs
  | .tuple xs => 8 + sizL xs
  | .dict _ => 0
def sizL : List PyData → Nat
  | [] => 0
  | x :: xs => siz x + 4 + sizL xs
end
theorem textFrom_size : ∀ (ts : List Str) (k : Nat) (acc : Str), (textFrom k acc ts).length ≤ acc.length + piled ts
  | [], k, acc => by show acc.length ≤ _; omega
  | t :: r, k, acc => by
    have ih := textFrom_size r (k + 1) (acc ++ (if k > 0 then ", " else "" : String) ++ t)
    have e : (acc ++ (if k > 0 then ", " else "" : String) ++ t).length = acc.length + (if k > 0 then 2 else 0) + t.length := by
      rw [strLen_append, strLen_append]
      split <;> rfl
    have d1 : (if k > 0 then 2 else 0 : Nat) ≤ 2 := by split <;> decide
    rw [piled_cons]
    show (textFrom (k + 1) _ r).length ≤ _
    omega
theorem listText_size (ts : List Str) : (listText ts).length ≤ piled ts + 2 := by
  have q := textFrom_size ts 0 "["
  unfold listText
  rw [strLen_append]
  have e1 : ((("[" : String) : Str)).length = 1 := rfl
  have e2 : ((("]" : String) : Str)).length = 1 := rfl
  rw [e1] at q
  rw [e2]
  omega
theorem tupleText_size (ts : List Str) : (tupleText ts).length ≤ piled ts + 3 := by
  unfold tupleText
  rw [strLen_append, strLen_append]
  have e1 : ((("(" : String) : Str)).length = 1 := rfl
  have e3 : (((if ts.length == 1 then ",)" else ")" : String) : Str)).length ≤ 2 := by split <;> decide
  rw [e1]
  cases ts with
  | nil =>
    have e4 : (Str.join ", " ([] : List Str)).length = 0 := rfl
    rw [e4]
    omega
  | cons t r =>
    have q := join_length_add (t :: r) (by simp)
    omega
mutual
theorem shown_le : ∀ d : PyData, d.showable = true → d.canLay0 = true → d.shown.length ≤ siz d
  | .none, _, _ => by decide
  | .bool b, _, _ => by cases b <;> decide
  | .int i, h, _ => by
    have h' : i.natAbs.log2 < 1920 := of_decide_eq_true h
    have e := int_text_length_le (k := 1920) (by decide) h'
    show (Str.ofString (toString i)).length ≤ 2000
    rw [PySem.ofString_length]
    omega
  | .str x, _, h => by
    have h' : x.cps.all (· < 0x110000) = true := h
    have q := StrLaws.reprText_len x fun c hc => by
      have := Array.all_eq_true_iff_forall_mem.mp h' c (by simpa using hc)
      have z : c < 0x110000 := of_decide_eq_true this
      have z2 : (0x110000 : Nat) < 16 ^ 8 := by decide
      omega
    show (reprText x).length ≤ 10 * x.length + 8
    omega
  | .list xs, h, h2 => by
    have q := shownAll_le xs h h2
    have q2 := listText_size (PyData.shownAll xs)
    show (listText (PyData.shownAll xs)).length ≤ 8 + sizL xs
    omega
  | .tuple xs, h, h2 => by
    have q := shownAll_le xs h h2
    have q2 := tupleText_size (PyData.shownAll xs)
    show (tupleText (PyData.shownAll xs)).length ≤ 8 + sizL xs
    omega
  | .dict _, _, h => by cases h
theorem shownAll_le : ∀ ds : List PyData, PyData.showableAll ds = true → PyData.canLayAll0 ds = true → piled (PyData.shownAll ds) ≤ sizL ds
  | [], _, _ => by show piled [] ≤ 0; simp [piled]
  | d :: ds, h, h2 => by
    have h' : d.showable = true ∧ PyData.showableAll ds = true := by simpa [PyData.showableAll] using h
    have h2' : d.canLay0 = true ∧ PyData.canLayAll0 ds = true := by simpa [PyData.canLayAll0] using h2
    have q1 := shown_le d h'.1 h2'.1
    have q2 := shownAll_le ds h'.2 h2'.2
    show piled (d.shown :: PyData.shownAll ds) ≤ siz d + 4 + sizL ds
    rw [piled_cons]
    omega
end
/-- data that may be compared and shown -/
structure Good (d : PyData) : Prop where
  sh : SeqAt.shaped d = true
  wr : d.showable = true
  sz : siz d ≤ 16000000
theorem Good.lay {d : PyData} (g : Good d) : d.canLay0 = true := SeqAt.canLay_of_shaped g.sh
theorem Good.fits {d : PyData} (g : Good d) : d.shown.length ≤ sizeLine := by
  have q := shown_le d g.wr g.lay
  have z := g.sz
  rw [sizeLine_eq]
  omega
theorem Good.same {d : PyData} (g : Good d) : PyData.eqv d d = true := SeqAt.eqv_refl d g.lay

/-! ### defs that are called where nothing is being shown -/
/-- as FnOk, where nothing is being shown around -/
structure FnG (P : Program) (w : World) (K : PySem.W.Frag) (mg : Str → Option Value) (base : Heap) (CX : CXT) (k : Nat) (f : Addr) (fd : FuncData) (ps : List Str) (sp : Sp) : Prop where
  few : ∀ vs H Q E, sp vs H Q E → vs.length = ps.length
  goes : ∀ (A : Around), A.guards = some [] → Room k A → ∀ (outer : List Env) (s : Shared) (H : Hp) (args : Args) (us : List Value) (vs : List V) (Q : VK) (E : XK),
    Env0 P w K mg base A outer s H → BindsTo s fd args (ps.zip us) → Vals vs us → sp vs H Q E → codeAny (model P w) A (.call (.ref f) args) (CR CX outer P w H s Q E) s
theorem FnG.of {P : Program} {w : World} {K : PySem.W.Frag} {mg : Str → Option Value} {base : Heap} {CX : CXT} {k : Nat} {f : Addr} {fd : FuncData} {ps : List Str} {sp : Sp}
    (F : FnOk P w K mg base CX k f fd ps sp) : FnG P w K mg base CX k f fd ps sp :=
  ⟨F.len, fun A _ hr outer s H args us vs Q E e0 hb r h => F.run A outer s H args us vs Q E hr e0 hb r h⟩
theorem FnG.mono {P : Program} {w : World} {K : PySem.W.Frag} {mg : Str → Option Value} {base : Heap} {CX : CXT} {j k : Nat} {f : Addr} {fd : FuncData} {ps : List Str} {sp : Sp}
    (F : FnG P w K mg base CX j f fd ps sp) (h : j ≤ k) : FnG P w K mg base CX k f fd ps sp :=
  ⟨F.few, fun A hg hr => F.goes A hg (hr.mono h)⟩
section
variable {X : Cx} {CX : CXT} {k : Nat} {f : Addr} {fd : FuncData} {ps : List Str} {sp : Sp} {E : XK} {x : Str} {p pos : Pos} {e : Expr} {es : List Expr} {t : TA}
theorem go_g {pins : List (Addr × Obj)} {σ : L2.St} {H : Hp} {s : Shared} {Q : VK} {us : List Value} {vs : List V} (F : FnG X.prog X.w X.K X.mg X.base CX k f fd ps sp) (hg : X.A.guards = some []) (hr : Room k X.A)
    (hb : Binds X.K fd ps []) (hx : Passes CX X E) (I : Inv X pins σ H s) (r : Vals vs us) (h : sp vs H Q E) : wpAny (model X.prog X.w) X.A (call (.ref f) us) (EP X pins σ Q) X.xe s := by
  have n : (us ++ ([] : List Value)).length = ps.length := by
    rw [List.append_nil, ← r.length]
    exact F.few _ _ _ _ h
  have b := hb s us I.kIn n
  rw [List.append_nil] at b
  apply wpAny_call
  apply codeAny_mono (F.goes X.A hg hr X.stack s H ⟨us, []⟩ us vs Q E I.env0 b r h)
  intro res s2 q
  match res, q with
  | .error er, q => exact hx pins σ H s er s2 I q
  | .ok (.ret u), q => exact I.after q
theorem pe_callG (F : FnG X.prog X.w X.K X.mg X.base CX k f fd ps sp) (gd : X.A.guards = some []) (hr : Room k X.A) (hg : Gl X x) (hm : X.mg x = some (.ref f)) (hk : PySem.W.keepIn X.K (.ref f) = true) (hb : Binds X.K fd ps []) (hx : Passes CX X E)
    (ha : PA X (e :: es) t) (h1 : (x == ("__debug__" : Str)) = false := by decide) (h2 : starEach (e :: es) X.env = (false, eval e X.env) :: starEach es X.env := by rfl) (h3 : (backTo pos (starEach es X.env)).any (·.1) = false := by rfl) :
    PE X (.Call (.Name x p) (e :: es) [] pos) (tCall sp [] E t) := by
  constructor
  intro pins s σ H Q I h
  apply wpAny_Call_Name_kw (ld_glob I hg hm ?_ h1)
  apply PySem.W.callWith_K (h₀ := X.base) I.ok.mod.kin hk _ h2 h3
  apply thn (ha.run pos pins s σ H _ I h)
  rintro us s1 ⟨vs, H1, I1, r, q⟩
  rw [List.append_nil] at q
  exact ⟨I1.kIn, go_g F gd hr hb hx I1 r q⟩
end
/-- a def by its body, where nothing is being shown around -/
theorem fnG_of {CX : CXT} {P : Program} {w : World} {K : PySem.W.Frag} {mg : Str → Option Value} {base : Heap} {k : Nat} {f : Addr} {name qual : Str} {params : Arguments} {body : List Stmt} {scope : Scope} {dV kV doc pm cdv ct oc : Value}
    {an od : Option Addr} {osl : Array (Option Value)} {N ps : List Str} {sp : Sp}
    (lk : K.lookup f = some ⟨oc, od, .func (PySem.W.fnOf name qual params body scope dV kV doc pm an cdv ct), osl⟩) (cd : PySem.W.codeIn K cdv qual = true) (S : FnScope N ps scope) (few : ∀ vs H Q E, sp vs H Q E → vs.length = ps.length)
    (goes : ∀ (A : Around) (outer : List Env) (s : Shared) (H : Hp) (vs : List V) (Q : VK) (E : XK), (A.deeper (envOfC qual scope s.heap.objs.size f cdv)).guards = some [] → Room k (A.deeper (envOfC qual scope s.heap.objs.size f cdv)) → sp vs H Q E →
      ∃ t, PSs (cxOf CX P w K mg base N qual scope f cdv A outer s H E) body t ∧ t { nx := fun _ H' => Q .non H', rt := Q } (start N vs) H) :
    FnG P w K mg base CX (k + 1) f (PySem.W.fnOf name qual params body scope dV kV doc pm an cdv ct) ps sp := by
  constructor
  · exact few
  intro A gd hr outer s H args us vs Q E e0 hb r hsp
  have n := few _ _ _ _ hsp
  have old : ∀ b o, base.get? b = some o → s.heap.get? b = some o := fun b o q => (e0.bs b o q).1
  have KX := e0.mod.kin.keeps old
  have kinds : ∀ y ∈ ps.zip us, scope.names.lookup y.1 = some .local ∨ (scope.names.lookup y.1 = some .cell ∧ ((cellsFrom (s.heap.objs.size + 1) scope.names []).lookup y.1).isSome = true) := by
    rintro ⟨a, v⟩ hy
    rcases S.par a (List.of_mem_zip hy).1 with q | q
    · left; exact q
    · right; exact ⟨q, PySem.W.cellsFrom_some _ _ _ (.inl q)⟩
  apply codeAny_call_function hr.depth (KX _ _ lk) rfl S.co S.gen rfl (PySem.W.codeRec_of KX cd)
  apply hb
  apply wpAny_newFunctionEnv_cells S.kind kinds
  rintro env rfl s1 x
  refine ⟨(e0.mod.nolimit.keeps old).keeps x.toInCall.keep, codeAny_func ?_⟩
  obtain ⟨t, ht, hq⟩ := goes A outer s H vs Q E gd (hr.deeper _) hsp
  have I : Inv (cxOf CX P w K mg base N qual scope f cdv A outer s H E) [] (start N vs) H s1 := inv_start S hr.hd e0 n r x
  apply wpAny_mono (ht.run [] s1 (start N vs) H _ I hq) _ (fun _ _ z => z)
  intro fl s2 z
  have done : ∀ {σ' : L2.St} {H' : Hp} {v : V} {u : Value}, Inv (cxOf CX P w K mg base N qual scope f cdv A outer s H E) [] σ' H' s2 → RelV v u → Q v H' → CE outer P w H s Q u s2 := by
    intro σ' H' v u J rv q
    exact ⟨v, H', J.os, J.bare, J.base, J.hok, rv, q⟩
  match fl, z with
  | .ret u, ⟨v, σ', H', J, rv, q⟩ => exact done J rv q
  | .next, ⟨σ', H', J, q⟩ => exact done (v := V.non) (u := Value.none) J rfl q
  | .brk, ⟨_, _, _, q⟩ => exact q.elim
  | .cont, ⟨_, _, _, q⟩ => exact q.elim
section
variable {P : Program} {w : World} {K : PySem.W.Frag} {mg : Str → Option Value} {base : Heap}
/-- a def of the text -/
theorem okG {x qual : Str} {st : Stmt} {f : Addr} {fd : FuncData} {N ps : List Str} {k : Nat} {sp : Sp} (F : Fun K x qual st f fd) (S : FnScope N ps (defScope st)) (few : ∀ vs H Q E, sp vs H Q E → vs.length = ps.length)
    (goes : ∀ (cdv : Value) (A : Around) (outer : List Env) (s : Shared) (H : Hp) (vs : List V) (Q : VK) (E : XK), (A.deeper (envOfC qual (defScope st) s.heap.objs.size f cdv)).guards = some [] →
      Room k (A.deeper (envOfC qual (defScope st) s.heap.objs.size f cdv)) → sp vs H Q E →
      ∃ t, PSs (cxOf CX0 P w K mg base N qual (defScope st) f cdv A outer s H E).nox (defBody st) t ∧ t { nx := fun _ H' => Q .non H', rt := Q } (start N vs) H) : FnG P w K mg base CX0 (k + 1) f fd ps sp := by
  obtain ⟨oc, od, kV, doc, pm, an, cdv, ct, osl, rfl, lk, cd⟩ := F.ex
  apply fnG_of lk cd S few
  intro A outer s H vs Q E gd hr h
  obtain ⟨t, q1, q2⟩ := goes cdv A outer s H vs Q E gd hr h
  exact ⟨t, q1.nox, q2⟩
end

/-! ### repr of data -/
theorem pyd_nodict : ∀ d : PyData, d.canLay0 = true → d.hasDict = false := PyData.hasDict_of_canLay
def rRepr (K : PySem.W.Frag) : List V → Hp → VK → Prop := fun xs H Q => ∃ x d, xs = [x] ∧ Dp K H x d ∧ Good d ∧ Q (.str d.shown) H
section
variable {X : Cx}
theorem call_repr (gd : X.A.guards = some []) (hu : X.A.units + 68 < cLine) : CallR X (.builtin "repr") (rRepr X.K) := by
  intro pins s σ H xs us Q I r h
  obtain ⟨x, d, rfl, hd, g, q⟩ := h
  obtain ⟨u, rfl, rx⟩ : ∃ u, us = [u] ∧ RelV x u := by
    cases r with
    | cons a b =>
      cases b
      exact ⟨_, rfl, a⟩
  obtain ⟨as, rd⟩ := Dp.reads I d x u hd rx
  have dep : d.depth ≤ 64 := SeqAt.depth_of_shaped g.sh
  have big := g.fits
  have last : ∀ (h' : Heap) (tk : Nat) (t : Tok), (∀ b o, s.heap.get? b = some o → h'.get? b = some o) → EP X pins σ Q (.str d.shown t) { s with heap := h', toks := tk } :=
    fun h' tk t k => ⟨.str d.shown, H, I.kept k, ⟨_, rfl⟩, q⟩
  have deep : ∀ a, u = .ref a → wpAny (model X.prog X.w) X.A (call (.builtin "repr") [u]) (EP X pins σ Q) X.xe s := by
    intro a e
    subst e
    exact repr_of_reads' rd g.wr (PyData.noDict_hsm (pyd_nodict d g.lay)) gd (by omega) (fun _ _ z => z) (fun h' t tk k => last h' tk t k) big
  match d, hd, rd with
  | .list _, _, .list _ _ _ _ => exact deep _ rfl
  | .tuple _, _, .tuple _ _ _ _ => exact deep _ rfl
  | .none, _, .none => exact P.repr_of_none (last s.heap _ _ fun _ _ z => z)
  | .bool b, _, .bool _ =>
    refine P.repr_of_bool ?_
    have z := last s.heap (s.toks + 1) s.toks fun _ _ z => z
    cases b <;> exact z
  | .int i, _, .int _ _ => exact P.repr_of_int (of_decide_eq_true g.wr) (last s.heap _ _ fun _ _ z => z)
  | .str z, _, .str _ _ => exact P.repr_of_str (last s.heap _ _ fun _ _ z => z) big
end

/-! ### the law's own call -/
/-- the script's abstract heap: the script alone, locked, where it is none of the module's own lists -/
def H0 (K : PySem.W.Frag) (a : Addr) (ob : Obj) (xs : List V) : Hp := fun b => if b = a ∧ K.lookup a = none then some (.frz ob (.lst xs)) else none
theorem H0_cases {K : PySem.W.Frag} {a b : Addr} {ob : Obj} {xs : List V} {u : HO} (h : H0 K a ob xs b = some u) : b = a ∧ K.lookup a = none ∧ u = .frz ob (.lst xs) := by
  unfold H0 at h
  split at h
  · rename_i c
    cases h
    exact ⟨c.1, c.2, rfl⟩
  · cases h
theorem law_callG {P : Program} {w : World} {K : PySem.W.Frag} {mg mb : Str → Option Value} {k : Nat} {fa a : Addr} {fd : FuncData} {x : Str} {sp : Sp} {s₁ : Shared} {vs : List Value} {ns : List Int}
    (F : ∀ base : Heap, K.In base → base.Ns mainGlobals mg → FnG P w K mg base CX0 k fa fd [x] sp) (kin : K.In s₁.heap) (gl : s₁.heap.Ns mainGlobals mg) (bl : s₁.heap.Ns builtinsNs mb)
    (blt : ∀ x : Str, x ≠ "__name__" → mb x = bootBuiltins x) (nol : s₁.heap.NoLimit) (gens : s₁.gens = #[]) (at_a : s₁.heap.get? a = some { cls := .type "list", data := .seq vs.toArray })
    (are : IntsAre vs ns) (few : ns.length ≤ sizeLine) (hr : Room k callerA) (bnd : ∀ (s : Shared) (u : Value), BindsTo s fd ⟨[u], []⟩ [(x, u)])
    (hsp : ∀ H : Hp, SqL K H a (ns.map V.int) → sp [.ref a] H (fun v _ => v = .bl true) E0) :
    codeAny (model P w) callerA (.call (.ref fa) ⟨[.ref a], []⟩) (fun r s' => r = .ok (.ret (.bool true)) ∧ OldK s₁.heap s'.heap ∧ s'.os = s₁.os ∧ AllBare s'.gens) s₁ := by
  have rv := vals_ints are
  have z : vs.length ≤ sizeLine := by rw [are.length]; exact few
  generalize eo : ({ cls := .type "list", data := .seq vs.toArray } : Obj) = ob at at_a
  let H := H0 K a ob (ns.map V.int)
  have one : ∀ b u, H b = some u → b = a ∧ K.lookup a = none ∧ u = .frz ob (.lst (ns.map V.int)) := fun b u h => H0_cases h
  have ok : HOk P w H s₁.heap := by
    intro b u h
    obtain ⟨rfl, _, rfl⟩ := one b u h
    refine ⟨at_a, by rw [List.length_map]; exact few, vs, 0, rv, ?_⟩
    rw [at_a, ← eo]
  have sq : SqL K H a (ns.map V.int) := by
    cases hk : K.lookup a with
    | none =>
      left
      right
      exact ⟨ob, if_pos ⟨rfl, hk⟩⟩
    | some o =>
      right
      have e := (kin a o hk).symm.trans at_a
      cases e
      subst eo
      exact ⟨_, vs.toArray, _, hk, rfl, rfl, rfl, by simpa using z, by simpa using rv⟩
  have dropped : ∀ {b : Addr} {o : Obj}, s₁.heap.get? b = some o → (b ≠ a ∨ K.lookup a ≠ none) → H b = none := by
    intro b o _ c
    cases h : H b with
    | none => rfl
    | some u =>
      obtain ⟨e1, e2, _⟩ := one b u h
      rcases c with c | c
      · exact absurd e1 c
      · exact absurd e2 c
  have nsA : ∀ {b : Addr} {m : Str → Option Value}, s₁.heap.Ns b m → (hidT s₁.heap H).Ns b m := by
    rintro b m ⟨o, es, ep, e, d, r⟩
    refine ⟨o, es, ep, hidT_get e (dropped e (.inl ?_)), d, r⟩
    rintro rfl
    rw [at_a] at e
    cases e
    rw [← eo] at d
    cases d
  have kinB : K.In (hidT s₁.heap H) := by
    intro b o e
    refine hidT_get (kin b o e) (dropped (kin b o e) ?_)
    by_cases h : b = a
    · right
      intro q
      rw [h, q] at e
      cases e
    · left; exact h
  have e0 : Env0 P w K mg (hidT s₁.heap H) callerA [] s₁ H := by
    constructor
    · rfl
    · obtain ⟨mc, q1, q2⟩ := nol
      exact ⟨kinB, nsA gl, ⟨mb, nsA bl, blt⟩, mc, nsA q1, q2⟩
    · exact fun b o e => of_hidT e
    · exact Nat.le_of_eq (hidT_size _ _)
    · trivial
    · intro b hb
      cases hb
    · exact ok
    · exact .of_eq gens
  apply codeAny_mono ((F _ kinB (nsA gl)).goes callerA rfl hr [] s₁ H ⟨[.ref a], []⟩ [.ref a] [.ref a] _ _ e0 (bnd s₁ (.ref a)) (.cons rfl .nil) (hsp H sq))
  intro res s2 h
  match res, h with
  | .error _, h => exact h.elim
  | .ok (.ret u), ⟨v, H', os, bare, un, ok2, rr, q⟩ =>
    have e : v = .bl true := q
    subst e
    obtain rfl : u = Value.bool true := rr
    refine ⟨rfl, OldK.of_keep ?_, os, bare⟩
    intro b o e
    cases hb : H b with
    | none => exact un.keep b o e hb (fun z => nomatch z) fun z => nomatch z
    | some u =>
      obtain ⟨_, _, rfl⟩ := one b u hb
      obtain ⟨e1, _⟩ := ok b _ hb
      obtain ⟨e2, _⟩ := ok2 b _ (un.frzs b ob _ hb)
      rw [e] at e1
      cases e1
      exact e2
/-- the walk, from the law's def -/
theorem walkG {l : PySem.W.OpenLaw} {n k : Nat} {q : Program} {loose : List Str} {XP : (Str → Option Value) → Heap → Prop} {YP : World → Heap → Prop} {d : DefRec} {K : Params → PySem.W.Frag} {sp : PySem.W.Frag → Sp} {x : Str}
    (most : l.most = some n) (small : n ≤ sizeLine) (nodef : d.params.defaults = []) (hr : Room k callerA) (hY : ∀ (w : World) (h : Heap), YP w h → (K w.params).In h)
    (F : ∀ (w : World) (mg : Str → Option Value) (fa : Addr) (h : Heap), (K w.params).In h → h.Ns mainGlobals mg → mg d.name = some (.ref fa) →
      ∃ fd : FuncData, (∀ (s : Shared) (u : Value), BindsTo s fd ⟨[u], []⟩ [(x, u)]) ∧ ∀ base : Heap, (K w.params).In base → base.Ns mainGlobals mg → FnG l.prog w (K w.params) mg base CX0 k fa fd [x] (sp (K w.params)))
    (hsp : ∀ (K : PySem.W.Frag) (H : Hp) (a : Addr) (ns : List Int), ns.length ≤ n → SqL K H a (ns.map V.int) → sp K [.ref a] H (fun v _ => v = .bl true) E0) :
    PySem.W.WalkO q loose XP YP l.row.toRowW d [] (fun f vs => PySem.call f vs) := by
  apply Att.attach_call most nodef
  intro w s₀ s₁ mg mb fa o pm cd doc a vs ns G Y _ _ _ hm at_a are few gens
  obtain ⟨fd, b, hF⟩ := F w mg fa _ (hY w _ Y) G.T.g hm
  exact law_callG hF (hY w _ Y) G.T.g G.T.b G.T.builtins G.T.nolimit gens at_a are (Nat.le_trans few small) hr b fun H h => hsp _ H a ns few h
end Pk
set_option Elab.async false
set_option linter.all false
set_option maxRecDepth 100000
set_option maxHeartbeats 2000000
namespace Pk
open PySem PySem.Spec L2 PyProof.Rows
/-! ### operators over several kinds of values -/
section
variable {X : Cx}
theorem or2 {f : Value → Value → Sem Value} {r r' : R2} (h : OpR X f r) (h' : OpR X f r') : OpR X f (fun x y H Q => r x y H Q ∨ r' x y H Q) := by
  intro pins s σ H x y v u Q I rx ry q
  rcases q with q | q
  · exact h pins s σ H x y v u Q I rx ry q
  · exact h' pins s σ H x y v u Q I rx ry q
theorem orC {f : Value} {r r' : List V → Hp → VK → Prop} (h : CallR X f r) (h' : CallR X f r') : CallR X f (fun x H Q => r x H Q ∨ r' x H Q) := by
  intro pins s σ H xs us Q I rx q
  rcases q with q | q
  · exact h pins s σ H xs us Q I rx q
  · exact h' pins s σ H xs us Q I rx q
def rAddI : R2 := rI0 fun i j => .int (i + j)
def rAddT : R2 := fun x y H Q => ∃ i j, x = .str i ∧ y = .str j ∧ i.length + j.length ≤ sizeLine ∧ Q (.str (i ++ j)) H
def rAddU (K : PySem.W.Frag) : R2 := fun x y H Q => rAddI x y H Q ∨ rAddT x y H Q ∨ rCat x y H Q ∨ rCatA K x y H Q
theorem opAdd : OpR X (binaryOp .Add) (rAddU X.K) := or2 op_add (or2 op_add_str (or2 op_cat op_catA))
def rSubI : R2 := rI0 fun i j => .int (i - j)
theorem opSub : OpR X (binaryOp .Sub) rSubI := op_sub
def rMulI : R2 := rI (fun i j => CMul i j ∨ CMulW i j) fun i j => .int (i * j)
theorem op_mulI : OpR X (binaryOp .Mult) rMulI := opI fun _ _ _ _ _ _ _ hc q => mul_int q (hc.elim CMul.ok CMulW.ok)
def rRepS : R2 := fun x y H Q => ∃ z n, x = .str z ∧ y = .int n ∧ z.length ≤ 1000 ∧ 0 ≤ n ∧ n ≤ 1000 ∧ Q (.str (Txt.mul z n)) H
theorem op_repS : OpR X (binaryOp .Mult) rRepS := by
  intro pins s σ H x y v u Q I rx ry h
  obtain ⟨z, n, rfl, rfl, hz, h0, h1, q⟩ := h
  obtain ⟨t, rfl⟩ := rx
  obtain ⟨t', rfl⟩ := ry
  refine SB.mul ⟨?_, fun a _ => ?_, fun a _ => ?_⟩ fun t2 k => ⟨.str _, H, I.tok k, ⟨_, rfl⟩, q⟩
  · rw [decide_eq_false (show ¬ n < -(2 ^ 63 : Int) by omega), decide_eq_false (show ¬ n ≥ 2 ^ 63 by omega)]
    rfl
  · have h2 : (1000 : Int) ≤ (2 ^ 63 - 1) / n := by
      apply Int.le_ediv_of_mul_le (by omega)
      omega
    omega
  · have h2 : z.length * n.toNat ≤ 1000 * 1000 := Nat.mul_le_mul hz (by omega)
    unfold Builtin.Str.tooLong
    rw [decide_eq_false]
    rw [sizeLine_eq]
    omega
def rMulU (K : PySem.W.Frag) : R2 := fun x y H Q => rMulI x y H Q ∨ rRepS x y H Q ∨ rRep x y H Q ∨ rRepT K x y H Q
theorem opMul : OpR X (binaryOp .Mult) (rMulU X.K) := or2 op_mulI (or2 op_repS (or2 op_rep op_repT))
def rDivI : R2 := rI CDivW fun i j => .int (i / j)
theorem opDiv : OpR X (binaryOp .FloorDiv) rDivI := op_fdivW
def rModI : R2 := rI (fun _ j => 0 < j) fun i j => .int (i % j)
theorem opMod : OpR X (binaryOp .Mod) rModI := op_mod
/-! comparisons; hu: room -/
def rEqU (K : PySem.W.Frag) : R2 := fun x y H Q => rEq x y H Q ∨ rEqD K x y H Q
def rNeU (K : PySem.W.Frag) : R2 := fun x y H Q => rNe x y H Q ∨ rNeD K x y H Q
theorem opEq (hu : X.A.units + 64 < cLine) : OpR X (compareOp .Eq) (rEqU X.K) := or2 op_eq (op_eqD hu)
theorem opNe (hu : X.A.units + 64 < cLine) : OpR X (compareOp .NotEq) (rNeU X.K) := or2 op_ne (op_neD hu)
def rLtI : R2 := rI0 fun i j => .bl (decide (i < j))
def rGtI : R2 := rI0 fun i j => .bl (decide (j < i))
def rLeI : R2 := rI0 fun i j => .bl (decide (i ≤ j))
def rGeI : R2 := rI0 fun i j => .bl (decide (j ≤ i))
def rLeT : R2 := fun x y H Q => ∃ i j, x = .str i ∧ y = .str j ∧ Q (.bl (!decide (j.cps.toList < i.cps.toList))) H
def rLeU : R2 := fun x y H Q => rLeI x y H Q ∨ rLeT x y H Q
theorem opLt : OpR X (compareOp .Lt) rLtI := op_lt
theorem opGt : OpR X (compareOp .Gt) rGtI := op_gt
theorem opLe : OpR X (compareOp .LtE) rLeU := or2 op_le op_le_str
theorem opGe : OpR X (compareOp .GtE) rGeI := op_ge
def rIsNn : R2 := fun x y H Q => y = .non ∧ Q (.bl (decide (x = .non))) H
def rNotNn : R2 := fun x y H Q => y = .non ∧ Q (.bl (!decide (x = .non))) H
theorem opIsN : OpR X (compareOp .Is) rIsNn := op_isN
theorem opNotN : OpR X (compareOp .IsNot) rNotNn := op_notN
/-- x in (a, b, ..), x in [..], a sign in a text -/
def rSignIn : R2 := fun x y H Q => ∃ (c : Nat) (z : Str), x = .str ⟨#[c]⟩ ∧ y = .str z ∧ Q (.bl (decide (c ∈ z.cps.toList))) H
def rSignNotIn : R2 := fun x y H Q => ∃ (c : Nat) (z : Str), x = .str ⟨#[c]⟩ ∧ y = .str z ∧ Q (.bl (!decide (c ∈ z.cps.toList))) H
def rInU (K : PySem.W.Frag) : R2 := fun x y H Q => rIn K false x y H Q ∨ rSignIn x y H Q
def rNotInU (K : PySem.W.Frag) : R2 := fun x y H Q => rIn K true x y H Q ∨ rSignNotIn x y H Q
theorem opIn : OpR X (compareOp .In) (rInU X.K) := or2 op_in_seq op_in_sign
theorem opNotIn : OpR X (compareOp .NotIn) (rNotInU X.K) := or2 op_notIn_seq op_notIn_sign
/-! slices, items stored by an operator -/
def rSlS : V → Option Int → Option Int → Hp → VK → Prop := fun x lo hi H Q => ∃ z, x = .str z ∧ z.length ≤ sizeLine ∧ Q (.str (cutS z lo hi)) H
def rSlU (K : PySem.W.Frag) : V → Option Int → Option Int → Hp → VK → Prop := fun x lo hi H Q => rSlL K x lo hi H Q ∨ rSlT K x lo hi H Q
theorem slU : SlR X (rSlU X.K) := SlR.or sl_list sl_tup
def rGetL (K : PySem.W.Frag) : R2 := fun x y H Q => ∃ p xs k v, x = .ref p ∧ y = .int k ∧ 0 ≤ k ∧ SqL K H p xs ∧ xs[k.toNat]? = some v ∧ Q v H
theorem get_list : PGet X (rGetL X.K) := by
  intro pins s σ H o i ov iv Q I ro ri h
  obtain ⟨p, xs, k, v, rfl, rfl, h0, hp, hat, q⟩ := h
  cases ro
  obtain ⟨t, rfl⟩ := ri
  obtain ⟨its, r, pl, hz⟩ := I.list hp
  obtain ⟨u, hu, ru⟩ := r.get hat
  have hl := r.length
  have hn := line63
  have hj := (List.getElem?_eq_some_iff.mp hat).1
  exact wpAny_getItem_list pl.isList h0 (by omega) (by simpa using hu) ⟨v, H, I, ru, q⟩
end
end Pk
set_option Elab.async false
set_option linter.all false
set_option maxRecDepth 100000
set_option maxHeartbeats 2000000
namespace Pk
open PySem PySem.Spec L2 PyProof.Rows
/-! ### built-ins by name -/
theorem boot_len : bootBuiltins "len" = some (.builtin "len") := PySem.boot_len
theorem boot_isinstance : bootBuiltins "isinstance" = some (.builtin "isinstance") := by decide +kernel
theorem boot_abs : bootBuiltins "abs" = some (.builtin "abs") := by decide +kernel
theorem boot_ord : bootBuiltins "ord" = some (.builtin "ord") := by decide +kernel
theorem boot_all : bootBuiltins "all" = some (.builtin "all") := by decide +kernel
theorem boot_any : bootBuiltins "any" = some (.builtin "any") := by decide +kernel
theorem boot_sum : bootBuiltins "sum" = some (.builtin "sum") := by decide +kernel
theorem boot_max : bootBuiltins "max" = some (.builtin "max") := by decide +kernel
theorem boot_min : bootBuiltins "min" = some (.builtin "min") := by decide +kernel
theorem boot_repr : bootBuiltins "repr" = some (.builtin "repr") := by decide +kernel
theorem boot_sorted : bootBuiltins "sorted" = some (.builtin "sorted") := by decide +kernel
theorem boot_t_int : bootBuiltins "int" = some (.type "int") := by decide +kernel
theorem boot_t_bool : bootBuiltins "bool" = some (.type "bool") := by decide +kernel
theorem boot_t_str : bootBuiltins "str" = some (.type "str") := by decide +kernel
theorem boot_t_list : bootBuiltins "list" = some (.type "list") := by decide +kernel
theorem boot_t_tuple : bootBuiltins "tuple" = some (.type "tuple") := by decide +kernel
theorem boot_t_dict : bootBuiltins "dict" = some (.type "dict") := by decide +kernel
section
variable {X : Cx}
def rLenU (K : PySem.W.Frag) : List V → Hp → VK → Prop := fun xs H Q => (∃ x n, xs = [x] ∧ LenV K x H n ∧ Q (.int n) H) ∨ ∃ a kvs, xs = [V.ref a] ∧ H a = some (.dK kvs) ∧ Q (.int kvs.length) H
theorem callLen : CallR X (.builtin "len") (rLenU X.K) := orC call_len call_lenD
def rAbs : List V → Hp → VK → Prop := fun xs H Q => ∃ i, xs = [.int i] ∧ Q (.int (if i < 0 then -i else i)) H
def rOrd : List V → Hp → VK → Prop := fun xs H Q => ∃ x, xs = [.str x] ∧ x.length = 1 ∧ Q (.int (x.cps.getD 0 0 : Nat)) H
def rMax2 : List V → Hp → VK → Prop := fun xs H Q => ∃ i j, xs = [.int i, .int j] ∧ Q (.int (if j > i then j else i)) H
def rMin2 : List V → Hp → VK → Prop := fun xs H Q => ∃ i j, xs = [.int i, .int j] ∧ Q (.int (if j < i then j else i)) H
def rInt1 : List V → Hp → VK → Prop := fun xs H Q => (∃ i, xs = [.int i] ∧ Q (.int i) H) ∨ ∃ k, xs = [.bl k] ∧ Q (.int (if k then 1 else 0)) H
def rIntS : List V → Hp → VK → Prop := fun xs H Q => ∃ a n, xs = [.str a] ∧ PySem.intText? a = some n ∧ a.length ≤ 640 ∧ Q (.int n) H
def rIntU : List V → Hp → VK → Prop := fun xs H Q => rInt1 xs H Q ∨ rIntS xs H Q
theorem callInt : CallR X (.type "int") rIntU := orC call_int1 call_int_str
def rBool1 : List V → Hp → VK → Prop := fun xs H Q => (∃ i, xs = [.int i] ∧ Q (.bl (i != 0)) H) ∨ ∃ k, xs = [.bl k] ∧ Q (.bl k) H
def rListOf (K : PySem.W.Frag) : List V → Hp → VK → Prop := fun xs H Q => ∃ p ys, xs = [.ref p] ∧ (SqL K H p ys ∨ SqT K H p ys) ∧ ∀ l, H l = none → Q (.ref l) (upd H l (.lst ys))
def rTupleOf (K : PySem.W.Frag) : List V → Hp → VK → Prop := fun xs H Q => ∃ p ys, xs = [.ref p] ∧ ((SqL K H p ys ∧ ∀ l, H l = none → Q (.ref l) (upd H l (.tup ys))) ∨ (SqT K H p ys ∧ Q (.ref p) H))
def rPowI : R2 := rI CPow fun i j => .int (i ^ j.toNat)
theorem opPow : OpR X (binaryOp .Pow) rPowI := op_pow
def tTru (K : PySem.W.Frag) (ta : TE) : TT := fun σ H Q => ta σ H fun x H' => ∃ k, TruV K x H' k ∧ Q k H'
def tJoin (K : PySem.W.Frag) (to ta : TE) : TE := tBM K "str" (fun x xs H Q => ∃ a p, ∃ ys : List Str, x = .str a ∧ xs = [.ref p] ∧ (SqL K H p (ys.map V.str) ∨ SqT K H p (ys.map V.str)) ∧ JoinOk a ys = true ∧ Q (.str (Txt.join a ys)) H) to (tCons ta tNil)
end
/-! ### a def that is called: where it stands, what it promises -/
structure Cal (P : Program) (w : World) (K : PySem.W.Frag) (mg : Str → Option Value) (base : Heap) (CX : CXT) (k : Nat) (x : Str) (ps : List Str) (ds : List Value) (sp : Sp) : Prop where
  ex : ∃ f fd, FnOk P w K mg base CX k f fd ps sp ∧ mg x = some (.ref f) ∧ PySem.W.keepIn K (.ref f) = true ∧ Binds K fd ps ds
structure CalG (P : Program) (w : World) (K : PySem.W.Frag) (mg : Str → Option Value) (base : Heap) (CX : CXT) (k : Nat) (x : Str) (ps : List Str) (sp : Sp) : Prop where
  ex : ∃ f fd, FnG P w K mg base CX k f fd ps sp ∧ mg x = some (.ref f) ∧ PySem.W.keepIn K (.ref f) = true ∧ Binds K fd ps []
section
variable {X : Cx} {CX : CXT} {k j : Nat} {ps : List Str} {ds : List Value} {dvs : List V} {sp : Sp} {E : XK} {x : Str} {p pos : Pos} {e : Expr} {es : List Expr} {t : TA}
theorem pe_cal (F : Cal X.prog X.w X.K X.mg X.base CX k x ps [] sp) (hr : Room j X.A) (hx : Passes CX X E) (ha : PA X (e :: es) t) (hj : k ≤ j := by first | decide | omega) (hg : Gl X x := by rfl)
    (h1 : (x == ("__debug__" : Str)) = false := by decide) (h2 : starEach (e :: es) X.env = (false, eval e X.env) :: starEach es X.env := by rfl) (h3 : (backTo pos (starEach es X.env)).any (·.1) = false := by rfl) :
    PE X (.Call (.Name x p) (e :: es) [] pos) (tCall sp [] E t) := by
  obtain ⟨f, fd, F, hm, hk, hb⟩ := F.ex
  exact pe_call F (hr.mono hj) hg hm hk hb .nil hx ha h1 h2 h3
theorem pe_calD (F : Cal X.prog X.w X.K X.mg X.base CX k x ps ds sp) (hd : Vals dvs ds) (hr : Room j X.A) (hx : Passes CX X E) (ha : PA X (e :: es) t) (hj : k ≤ j := by first | decide | omega) (hg : Gl X x := by rfl)
    (h1 : (x == ("__debug__" : Str)) = false := by decide) (h2 : starEach (e :: es) X.env = (false, eval e X.env) :: starEach es X.env := by rfl) (h3 : (backTo pos (starEach es X.env)).any (·.1) = false := by rfl) :
    PE X (.Call (.Name x p) (e :: es) [] pos) (tCall sp dvs E t) := by
  obtain ⟨f, fd, F, hm, hk, hb⟩ := F.ex
  exact pe_call F (hr.mono hj) hg hm hk hb hd hx ha h1 h2 h3
theorem pe_calg (F : CalG X.prog X.w X.K X.mg X.base CX k x ps sp) (gd : X.A.guards = some []) (hr : Room j X.A) (hx : Passes CX X E) (ha : PA X (e :: es) t) (hj : k ≤ j := by first | decide | omega) (hg : Gl X x := by rfl)
    (h1 : (x == ("__debug__" : Str)) = false := by decide) (h2 : starEach (e :: es) X.env = (false, eval e X.env) :: starEach es X.env := by rfl) (h3 : (backTo pos (starEach es X.env)).any (·.1) = false := by rfl) :
    PE X (.Call (.Name x p) (e :: es) [] pos) (tCall sp [] E t) := by
  obtain ⟨f, fd, F, hm, hk, hb⟩ := F.ex
  exact pe_callG F gd (hr.mono hj) hg hm hk hb hx ha h1 h2 h3
end
theorem room_repr {k : Nat} {A : Around} (hr : Room k A) : A.units + 68 < cLine := by have := hr.un; omega
/-! ### what is kept -/
/-- all that was tracked but b -/
def Kp (b : Addr) (H H' : Hp) : Prop := ∀ c o, H c = some o → c ≠ b → H' c = some o
theorem Kp.refl {b : Addr} {H : Hp} : Kp b H H := fun _ _ h _ => h
theorem Kp.trans {b : Addr} {H H1 H2 : Hp} (a : Kp b H H1) (c : Kp b H1 H2) : Kp b H H2 := fun d o h n => c d o (a d o h n) n
theorem Kp.of {b : Addr} {H H' : Hp} (s : Same H H') : Kp b H H' := fun c o h _ => s c o h
theorem same_new {H : Hp} {p : Addr} {o : HO} (h : H p = none) : Same H (upd H p o) := fun b u q => by
  rw [upd_ne (ne_of_none q h)]
  exact q
theorem kp_new {b : Addr} {H : Hp} {p : Addr} {o : HO} (h : H p = none) : Kp b H (upd H p o) := Kp.of (same_new h)
theorem Kp.laid {b : Addr} {H H1 : Hp} {p : Addr} {o : HO} (k : Kp b H H1) (h : H1 p = none) : Kp b H (upd H1 p o) := k.trans (kp_new h)
/-- the object b itself is written -/
theorem kp_put {b : Addr} {H : Hp} {o : HO} : Kp b H (upd H b o) := fun c u h n => by
  rw [upd_ne n]
  exact h
theorem Kp.put {b : Addr} {H H1 : Hp} {o : HO} (k : Kp b H H1) : Kp b H (upd H1 b o) := k.trans kp_put
/-- an object that was not tracked at the beginning is written -/
theorem Kp.other {b p : Addr} {H H1 : Hp} {o : HO} (k : Kp b H H1) (h : H p = none) : Kp b H (upd H1 p o) := fun c u q n => by
  rw [upd_ne (ne_of_none q h)]
  exact k c u q n
theorem Kp.tup {K : PySem.W.Frag} {b a : Addr} {H H' : Hp} {xs ys : List V} (k : Kp b H H') (hb : H b = some (.lst ys)) (h : SqT K H a xs) : SqT K H' a xs := by
  rcases h with (h | ⟨o, h⟩) | h
  · exact .inl (.inl (k _ _ h (ne_of h hb (by intro z; cases z))))
  · exact .inl (.inr ⟨o, k _ _ h (ne_of h hb (by intro z; cases z))⟩)
  · exact .inr h
/-! ### the bag of draws -/
structure Bag (H : Hp) (b l : Addr) : Prop where
  ex : ∃ (x m p : Int) (xs : List Int), H b = some (.lst [.int x, .int m, .int p, .ref l]) ∧ H l = some (.lst (xs.map V.int)) ∧ 0 ≤ x ∧ 0 ≤ m ∧ m < 2147483647 ∧ 0 ≤ p ∧ xs.length ≤ 63 ∧ ∀ c ∈ xs, 0 ≤ c
theorem Bag.ne {H : Hp} {b l : Addr} (B : Bag H b l) : l ≠ b := by
  obtain ⟨x, m, p, xs, h1, h2, _⟩ := B.ex
  intro e
  rw [e, h1] at h2
  cases xs with
  | nil => cases h2
  | cons _ r => cases r with
    | nil => cases h2
    | cons _ r => cases r with
      | nil => cases h2
      | cons _ r => cases r with
        | nil => cases h2
        | cons _ r => simp at h2
/-- what is new does not touch the bag -/
theorem Bag.same {H H' : Hp} {b l : Addr} (B : Bag H b l) (s : Same H H') : Bag H' b l := by
  obtain ⟨x, m, p, xs, h1, h2, r⟩ := B.ex
  exact ⟨x, m, p, xs, s _ _ h1, s _ _ h2, r⟩
theorem Bag.at {H : Hp} {b l : Addr} (B : Bag H b l) : ∃ xs, H b = some (.lst xs) := by
  obtain ⟨x, m, p, xs, h1, h2, r⟩ := B.ex
  exact ⟨_, h1⟩
theorem Bag.at2 {H : Hp} {b l : Addr} (B : Bag H b l) : ∃ xs, H l = some (.lst xs) := by
  obtain ⟨x, m, p, xs, h1, h2, r⟩ := B.ex
  exact ⟨_, h2⟩
theorem Bag.put {H : Hp} {b l c : Addr} {o : HO} (B : Bag H b l) (h1 : b ≠ c) (h2 : l ≠ c) : Bag (upd H c o) b l := by
  obtain ⟨x, m, p, xs, e1, e2, r⟩ := B.ex
  exact ⟨x, m, p, xs, by rw [upd_ne h1]; exact e1, by rw [upd_ne h2]; exact e2, r⟩
/-- a number drawn below n -/
def sp_law_take (K : PySem.W.Frag) : Sp := fun vs H Q _ => ∃ b l n, vs = [.ref b, .int n] ∧ Bag H b l ∧ 0 < n ∧ n ≤ 10 ^ 100 ∧ ∀ v H', 0 ≤ v → v < n → Bag H' b l → Kp b H H' → Q (.int v) H'
/-- a new bag of a script -/
def sp_law_bag (K : PySem.W.Frag) : Sp := fun vs H Q _ => ∃ (a : Addr) (ns : List Int), vs = [.ref a] ∧ SqL K H a (ns.map V.int) ∧ ∀ b l H', H b = none → H l = none → Bag H' b l → Same H H' → Q (.ref b) H'
end Pk
set_option Elab.async false
set_option linter.all false
set_option maxRecDepth 100000
set_option maxHeartbeats 2000000
namespace Pk
open PySem PySem.Spec L2 PyProof.Rows
def t_law_bag (K : PySem.W.Frag) : TS :=
  (tRet (tLst (tCons (tC (.int 0)) (tCons (tC (.int 1234567891)) (tCons (tC (.int 0)) (tCons (tLc (iList K (tSl (rSlU K) (tVar 0) tNoPart (tPart (tC (.int 63))))) (gName 1) tYes (tCB (rAbs) (tCons (tVar 1) tNil)) [1]) tNil))))))
def t_law_take (K : PySem.W.Frag) : TS :=
  (Evl.tCut (tIfS (tTest (tOp (rEqU K) (tOp (rIx K) (tVar 0) (tC (.int 0))) (tC (.int 0)))) (tSeq (tAsg (tC (.int 0)) (gName 2))
    (Evl.tCut (tIfS (tTest (tOp (rLtI) (tOp (rIx K) (tVar 0) (tC (.int 2))) (tCB (rLenU K) (tCons (tOp (rIx K) (tVar 0) (tC (.int 3))) tNil)))) (tAsg (tOp (rIx K) (tOp (rIx K) (tVar 0) (tC (.int 3))) (tOp (rIx K) (tVar 0) (tC (.int 2)))) (gName 2)) tNext)
    (tSeq (tAugS (tVar 0) (tC (.int 2)) (tC (.int 1)) (rGetL K) (ipI fun i j => i + j) rSetL)
    (Evl.tCut (tIfS (tTest (tOp (rGeI) (tVar 2) (tC (.int 1000000000000000000)))) (tAsg (tVar 2) (gSub (tVar 0) (tC (.int 0)) rSetL)) tNext)
    (tSeq (tAsg (tOp (rAddU K) (tOp (rAddU K) (tOp (rMulU K) (tOp (rIx K) (tVar 0) (tC (.int 1))) (tC (.int 48271))) (tOp (rModI) (tCB (rIntU) (tCons (tVar 2) tNil)) (tC (.int 2147483647)))) (tOp (rMulU K) (tC (.int 7919)) (tOp (rIx K) (tVar 0) (tC (.int 2))))) (gName 3))
    (tAsg (tOp (rModI) (tCB (rIntU) (tCons (tVar 3) tNil)) (tC (.int 2147483647))) (gSub (tVar 0) (tC (.int 1)) rSetL))))))) tNext)
    (tSeq (tIfS (tTest (tOp (rGtI) (tOp (rIx K) (tVar 0) (tC (.int 0))) (tC (.int 0)))) (tSeq (tAsg (tOp (rModI) (tCB (rIntU) (tCons (tOp (rIx K) (tVar 0) (tC (.int 0))) tNil)) (tVar 1)) (gName 4))
    (tSeq (tAsg (tOp (rDivI) (tOp (rIx K) (tVar 0) (tC (.int 0))) (tVar 1)) (gSub (tVar 0) (tC (.int 0)) rSetL))
    (tRet (tVar 4)))) tNext)
    (tSeq (tAsg (tOp (rModI) (tCB (rIntU) (tCons (tOp (rMulU K) (tOp (rAddU K) (tOp (rIx K) (tVar 0) (tC (.int 1))) (tC (.int 1))) (tC (.int 39373))) tNil)) (tC (.int 1000000007))) (gName 5))
    (tSeq (tAsg (tOp (rModI) (tCB (rIntU) (tCons (tOp (rMulU K) (tOp (rModI) (tCB (rIntU) (tCons (tOp (rMulU K) (tVar 5) (tVar 5)) tNil)) (tC (.int 998244353))) (tC (.int 30011))) tNil)) (tC (.int 998244353))) (gName 6))
    (tSeq (tIfS (tTest (tOp (rGtI) (tVar 1) (tC (.int 1000000)))) (tRet (tOp (rModI) (tCB (rIntU) (tCons (tOp (rAddU K) (tOp (rMulU K) (tVar 6) (tC (.int 1000000007))) (tVar 5)) tNil)) (tVar 1))) tNext)
    (tRet (tOp (rModI) (tCB (rIntU) (tCons (tOp (rDivI) (tVar 6) (tC (.int 7))) tNil)) (tVar 1))))))))
abbrev EndsOf (Q : VK) : Ends := { nx := fun _ H' => Q .non H', rt := Q }
theorem ln_law_take {K : PySem.W.Frag} {vs : List V} {H : Hp} {Q : VK} {E : XK} (h : sp_law_take K vs H Q E) : vs.length = 2 := by obtain ⟨_, _, _, rfl, _⟩ := h; rfl
theorem ln_law_bag {K : PySem.W.Frag} {vs : List V} {H : Hp} {Q : VK} {E : XK} (h : sp_law_bag K vs H Q E) : vs.length = 1 := by obtain ⟨_, _, rfl, _⟩ := h; rfl
/-! ### slices by natural numbers -/
theorem cutV_to (xs : List V) (k : Nat) : cutV xs none (some (k : Int)) = xs.take k := by
  unfold cutV
  rw [HT.sIx_none, HT.sIx_nat]
  show (xs.drop 0).take (min k xs.length - 0) = xs.take k
  rw [List.drop_zero, Nat.sub_zero]
  exact (List.take_eq_take_min).symm
theorem cutV_from (xs : List V) (k : Nat) : cutV xs (some (k : Int)) none = xs.drop k := by
  unfold cutV
  rw [HT.sIx_none, HT.sIx_nat]
  by_cases h : k ≤ xs.length
  · rw [Nat.min_eq_left h, List.take_of_length_le]
    rw [List.length_drop]
    exact Nat.le_refl _
  · rw [Nat.min_eq_right (by omega), List.drop_length, List.drop_eq_nil_of_le (by omega), List.take_nil]
theorem take_map_get {α β : Type} {f : α → β} {l : List α} {i : Nat} {x : α} (h : l[i]? = some x) : (l.take (i + 1)).map f = (l.take i).map f ++ [f x] := by
  rw [List.take_add_one, h]
  simp
def iabs (i : Int) : Int := if i < 0 then -i else i
theorem rd_law_bag {K : PySem.W.Frag} {vs : List V} {H : Hp} {Q : VK} {E : XK} (h : sp_law_bag K vs H Q E) : t_law_bag K (EndsOf Q) (start ["", ""] vs) H := by
  obtain ⟨a, ns, rfl, hS, k⟩ := h
  refine ⟨_, rfl, 63, rfl, .inl ⟨a, _, rfl, hS, fun p hp => ?_⟩⟩
  have e1 : cutV (ns.map V.int) none (some 63) = (ns.take 63).map V.int := by
    rw [show (63 : Int) = ((63 : Nat) : Int) from rfl, cutV_to, List.map_take]
  rw [e1]
  refine ⟨p, rfl, ⟨_, SqL.of upd_same⟩, fun D hD => ?_⟩
  refine lc_list (xs := (ns.take 63).map V.int) (fun i H' => Same (upd H p (.lst ((ns.take 63).map V.int))) H' ∧ H' D = some (.lst (((ns.take 63).take i).map fun z => V.int (iabs z)))) ⟨same_new hD, upd_same⟩ (fun i H' _ s => s.1.seq (SqL.of upd_same)) ?_ ?_
  · rintro i x H' hx ⟨s, e⟩
    rw [List.getElem?_map] at hx
    cases hz : (ns.take 63)[i]? with
    | none => rw [hz] at hx; cases hx
    | some z =>
      rw [hz] at hx
      cases hx
      have hi := (List.getElem?_eq_some_iff.mp hz).1
      have hl : (ns.take 63).length ≤ 63 := by rw [List.length_take]; omega
      refine ⟨rfl, ?_⟩
      refine ⟨_, rfl, z, rfl, _, e, ?_, fun b o q => ?_, ?_⟩
      · rw [List.length_map, List.length_take]
        exact small1000 (by omega)
      · rw [upd_ne (ne_of_none q hD)]
        exact s b o q
      · rw [upd_same, take_map_get hz]
        rfl
  · rintro H' ⟨s, e⟩
    refine ⟨by show 4 ≤ sizeLine; decide, fun b hb => ?_⟩
    rw [List.length_map, List.take_length] at e
    refine k b D _ ?_ ?_ ⟨0, 1234567891, 0, ((ns.take 63).map iabs), upd_same, ?_, by omega, by omega, by omega, by omega, ?_, ?_⟩ ?_
    · exact (same_new hp).free (s.free hb)
    · exact (same_new hp).free hD
    · rw [upd_ne (ne_of_none e hb), e, List.map_map]
      rfl
    · rw [List.length_map, List.length_take]
      omega
    · intro c hc
      obtain ⟨z, _, rfl⟩ := List.mem_map.mp hc
      unfold iabs
      split <;> omega
    · exact (same_new hp).trans (s.trans (same_new hb))

theorem ifI {x y : Int} {A B : Prop} (h1 : x = y → A) (h2 : x ≠ y → B) : if decide (V.int x = V.int y) = true then A else B := by
  by_cases h : x = y
  · rw [if_pos (decide_eq_true (congrArg V.int h))]
    exact h1 h
  · rw [if_neg]
    · exact h2 h
    · intro z
      exact h (V.int.inj (of_decide_eq_true z))
theorem ifD {p : Prop} [Decidable p] {A B : Prop} (h1 : p → A) (h2 : ¬ p → B) : if decide p = true then A else B := by
  by_cases h : p
  · rw [if_pos (decide_eq_true h)]
    exact h1 h
  · rw [if_neg (fun z => h (of_decide_eq_true z))]
    exact h2 h
theorem div_ok {n : Int} (h0 : 0 < n) (h1 : n ≤ 10 ^ 100) : CDivW 0 n := by
  refine ⟨h0, ?_⟩
  have h2 : n.natAbs < 2 ^ 9000 := by
    have z : n.natAbs ≤ 10 ^ 100 := by omega
    have z2 : (10 : Nat) ^ 100 < 2 ^ 9000 := by decide +kernel
    omega
  by_cases e : n.natAbs = 0
  · rw [e]; decide
  · exact (Nat.log2_lt e).mpr h2
theorem rd_law_take {K : PySem.W.Frag} {vs : List V} {H : Hp} {Q : VK} {E : XK} (h : sp_law_take K vs H Q E) : t_law_take K (EndsOf Q) (start ["", "", "", "", "", "", ""] vs) H := by
  obtain ⟨b, l, n, rfl, B, h0, h1, k⟩ := h
  have nlb := B.ne
  obtain ⟨x, m, p, xs, hb, hl, x0, m0, m1, p0, l63, c0⟩ := B.ex
  refine ⟨fun σ' H' => ∃ (s2 s3 : Option V) (x m p : Int), σ' = [some (.ref b), some (.int n), s2, s3, none, none, none] ∧ H' b = some (.lst [.int x, .int m, .int p, .ref l]) ∧ H' l = some (.lst (xs.map V.int)) ∧ 0 ≤ x ∧ 0 ≤ m ∧ m < 2147483647 ∧ 0 ≤ p ∧ Kp b H H', ?_, ?_⟩
  · refine ⟨_, rfl, .inl ⟨b, _, _, _, rfl, rfl, SqL.of hb, rfl, .inl ⟨rfl, _, rfl, ?_⟩⟩⟩
    refine ifI (fun e => ?_) (fun _ => ⟨_, _, x, m, p, rfl, hb, hl, x0, m0, m1, p0, Kp.refl⟩)
    subst e
    -- the next cell, 0 behind the script
    refine ⟨fun σ' H' => H' = H ∧ ∃ c, 0 ≤ c ∧ σ' = [some (.ref b), some (.int n), some (.int c), none, none, none, none], ?_, ?_⟩
    · refine ⟨_, rfl, .inl ⟨b, _, _, _, rfl, rfl, SqL.of hb, rfl, _, rfl, .inl ⟨b, _, _, _, rfl, rfl, SqL.of hb, rfl, .inl ⟨_, _, rfl, .inl ⟨_, SqL.of hl, rfl⟩, _, _, rfl, rfl, _, rfl, ?_⟩⟩⟩⟩
      refine ifD (fun q => ?_) (fun _ => ⟨rfl, 0, by decide, rfl⟩)
      rw [List.length_map] at q
      have hp : p.toNat < xs.length := by omega
      have ep : p = ((p.toNat : Nat) : Int) := by omega
      have g : (xs.map V.int)[p.toNat]? = some (.int (xs[p.toNat])) := by rw [List.getElem?_map, List.getElem?_eq_getElem hp]; rfl
      refine ⟨_, rfl, .inl ⟨b, _, _, _, rfl, rfl, SqL.of hb, rfl, _, rfl, .inl ⟨b, _, _, _, rfl, rfl, SqL.of hb, rfl, .inl ⟨l, _, p, _, rfl, rfl, SqL.of hl, by rw [ep]; exact atI_nat g, ?_⟩⟩⟩⟩
      exact ⟨rfl, _, c0 _ (List.getElem_mem hp), rfl⟩
    rintro σ' H' ⟨rfl, c, cc, rfl⟩
    -- the place
    refine ⟨_, rfl, b, _, 2, _, rfl, rfl, by decide, SqL.of hb, rfl, _, _, rfl, rfl, b, _, 2, 2, rfl, rfl, hb, rfl, ?_⟩
    have hb' : (upd H' b (.lst [.int 0, .int m, .int (p + 1), .ref l])) b = some (.lst [.int 0, .int m, .int (p + 1), .ref l]) := upd_same
    have hl' : (upd H' b (.lst [.int 0, .int m, .int (p + 1), .ref l])) l = some (.lst (xs.map V.int)) := by rw [upd_ne nlb]; exact hl
    have kp' : Kp b H' (upd H' b (.lst [.int 0, .int m, .int (p + 1), .ref l])) := kp_put
    show Evl.tCut _ _ _ _ (upd H' b (.lst [.int 0, .int m, .int (p + 1), .ref l]))
    generalize upd H' b (.lst [.int 0, .int m, .int (p + 1), .ref l]) = H2 at hb' hl' kp' ⊢
    -- a great cell fills the bag
    refine ⟨fun σ' H3 => σ' = [some (.ref b), some (.int n), some (.int c), none, none, none, none] ∧ ∃ x, 0 ≤ x ∧ H3 b = some (.lst [.int x, .int m, .int (p + 1), .ref l]) ∧ H3 l = some (.lst (xs.map V.int)) ∧ Kp b H' H3, ?_, ?_⟩
    · refine ⟨_, rfl, _, _, rfl, rfl, _, rfl, ?_⟩
      refine ifD (fun q => ?_) (fun _ => ⟨rfl, 0, by decide, hb', hl', kp'⟩)
      refine ⟨_, rfl, _, rfl, b, _, 0, 0, rfl, rfl, hb', rfl, rfl, c, cc, upd_same, by rw [upd_ne nlb]; exact hl', kp'.put⟩
    rintro σ' H3 ⟨rfl, x, x0', hb3, hl3, kp3⟩
    refine ⟨_, rfl, .inl ⟨b, _, _, _, rfl, rfl, SqL.of hb3, rfl, .inl ⟨_, _, rfl, rfl, .inl (.inl (by omega)), ?_⟩⟩⟩
    refine ⟨_, rfl, .inl (.inl ⟨_, rfl, _, _, rfl, rfl, (by show (0 : Int) < _; decide), .inl ⟨_, _, rfl, rfl, ?_⟩⟩)⟩
    refine ⟨_, rfl, .inl ⟨b, _, _, _, rfl, rfl, SqL.of hb3, rfl, .inl ⟨_, _, rfl, rfl, .inl (.inl (by omega)), .inl ⟨_, _, rfl, rfl, ?_⟩⟩⟩⟩
    refine ⟨_, rfl, .inl (.inl ⟨_, rfl, _, _, rfl, rfl, (by show (0 : Int) < _; decide), ?_⟩)⟩
    refine ⟨_, rfl, b, _, 1, 1, rfl, rfl, hb3, rfl, ?_⟩
    exact ⟨_, _, x, _, p + 1, rfl, upd_same, by rw [upd_ne nlb]; exact hl3, x0', Int.emod_nonneg _ (by decide), Int.emod_lt_of_pos _ (by decide), by omega, kp3.put⟩
  · rintro σ' H' ⟨s2, s3, x, m, p, rfl, hb, hl, x0, m0, m1, p0, kp⟩
    refine ⟨_, rfl, .inl ⟨b, _, _, _, rfl, rfl, SqL.of hb, rfl, _, _, rfl, rfl, _, rfl, ?_⟩⟩
    refine ifD (fun hx => ?_) (fun hx => ?_)
    · refine ⟨_, rfl, .inl ⟨b, _, _, _, rfl, rfl, SqL.of hb, rfl, .inl (.inl ⟨_, rfl, _, rfl, _, _, rfl, rfl, h0, ?_⟩)⟩⟩
      refine ⟨_, rfl, .inl ⟨b, _, _, _, rfl, rfl, SqL.of hb, rfl, _, rfl, _, _, rfl, rfl, div_ok h0 h1, ?_⟩⟩
      refine ⟨_, rfl, b, _, _, 0, rfl, rfl, hb, rfl, ?_⟩
      refine ⟨_, rfl, k _ _ (Int.emod_nonneg _ (by omega)) (Int.emod_lt_of_pos _ h0) ⟨x / n, m, p, xs, upd_same, by rw [upd_ne nlb]; exact hl, Int.ediv_nonneg x0 (by omega), m0, m1, p0, l63, c0⟩ kp.put⟩
    · refine ⟨_, rfl, .inl ⟨b, _, _, _, rfl, rfl, SqL.of hb, rfl, .inl ⟨_, _, rfl, rfl, .inl ⟨_, _, rfl, rfl, .inl (.inl (by omega)), ?_⟩⟩⟩⟩
      refine .inl (.inl ⟨_, rfl, _, _, rfl, rfl, (by show (0 : Int) < _; decide), ?_⟩)
      generalize hw : (m + 1) * 39373 % 1000000007 = w
      have w0 : 0 ≤ w := by rw [← hw]; exact Int.emod_nonneg _ (by decide)
      have w1 : w < 1000000007 := by rw [← hw]; exact Int.emod_lt_of_pos _ (by decide)
      refine ⟨_, rfl, _, rfl, .inl ⟨_, _, rfl, rfl, .inl (.inl (by omega)), ?_⟩⟩
      refine .inl (.inl ⟨_, rfl, _, _, rfl, rfl, (by show (0 : Int) < _; decide), .inl ⟨_, _, rfl, rfl, .inl (.inr (by decide)), .inl (.inl ⟨_, rfl, _, _, rfl, rfl, (by show (0 : Int) < _; decide), ?_⟩)⟩⟩)
      generalize hz : w * w % 998244353 * 30011 % 998244353 = z
      have z0 : 0 ≤ z := by rw [← hz]; exact Int.emod_nonneg _ (by decide)
      have z1 : z < 998244353 := by rw [← hz]; exact Int.emod_lt_of_pos _ (by decide)
      refine ⟨_, rfl, _, _, rfl, rfl, _, rfl, ?_⟩
      have B' : Bag H' b l := ⟨x, m, p, xs, hb, hl, x0, m0, m1, p0, l63, c0⟩
      refine ifD (fun _ => ?_) (fun _ => ?_)
      · refine ⟨_, rfl, .inl ⟨_, _, rfl, rfl, .inl (.inl (by omega)), _, rfl, .inl ⟨_, _, rfl, rfl, .inl (.inl ⟨_, rfl, _, rfl, _, _, rfl, rfl, h0, ?_⟩)⟩⟩⟩
        exact k _ _ (Int.emod_nonneg _ (by omega)) (Int.emod_lt_of_pos _ h0) B' kp
      · refine ⟨_, rfl, _, _, rfl, rfl, ⟨by decide, by decide⟩, .inl (.inl ⟨_, rfl, _, rfl, _, _, rfl, rfl, h0, ?_⟩)⟩
        exact k _ _ (Int.emod_nonneg _ (by omega)) (Int.emod_lt_of_pos _ h0) B' kp
end Pk
set_option Elab.async false
set_option linter.all false
set_option maxRecDepth 100000
set_option maxHeartbeats 2000000
namespace Pk
open PySem PySem.Spec L2 PyProof.Rows
theorem kit_same {K : PySem.W.Frag} {v : Value} : PySem.W.kitOne K v v = some true := by
  unfold PySem.W.kitOne
  simp
/-! ### own classes: bundles of what the top says of them -/
/-- a def that is a class's own: where it stands, what it promises -/
structure Own (P : Program) (w : World) (K : PySem.W.Frag) (mg : Str → Option Value) (base : Heap) (CX : CXT) (k : Nat) (C : Addr) (m : Str) (ps : List Str) (sp : Sp) : Prop where
  ex : ∃ f fd, FnOk P w K mg base CX k f fd ps sp ∧ PySem.W.findIn K (.ref C) m = some (some (.ref f)) ∧ PySem.W.isFn K (.ref f) = true ∧ PySem.W.keepIn K (.ref f) = true ∧ PySem.W.fnIn K f = true ∧ Binds K fd ps []
/-- a property of a class -/
structure Pro (P : Program) (w : World) (K : PySem.W.Frag) (mg : Str → Option Value) (base : Heap) (CX : CXT) (k : Nat) (C : Addr) (m : Str) (ps : List Str) (sp : Sp) : Prop where
  ex : ∃ p f fd, FnOk P w K mg base CX k f fd ps sp ∧ PropOf K C m p f ∧ Binds K fd ps []
/-- a class of the text -/
structure Kls (K : PySem.W.Frag) (mg : Str → Option Value) (x : Str) (C : Addr) : Prop where
  at_ : mg x = some (.ref C)
  cl : Cls K C
  ma : PySem.W.makesIn K C = true
  kp : PySem.W.keepIn K (.ref C) = true
  sf : PySem.W.selfFirst K C = true
  ic : C8.InsC K C
  ne : PySem.W.findIn K (.ref C) "__ne__" = some (some (.builtin "object.__ne__"))
section
variable {X : Cx} {CX : CXT} {k j : Nat} {C : Addr} {ps : List Str} {sp : Sp} {E : XK} {x m : Str} {p pos apos : Pos} {e o fe : Expr} {es : List Expr} {ta tf te : TE} {t : TA}
theorem run_code {pins : List (Addr × Obj)} {σ : L2.St} {H : Hp} {s : Shared} {f : Addr} {fd : FuncData} {Q : VK} {us : List Value} {vs : List V} (F : FnOk X.prog X.w X.K X.mg X.base CX k f fd ps sp) (hr : Room k X.A) (hb : Binds X.K fd ps [])
    (hx : Passes CX X E) (I : Inv X pins σ H s) (r : Vals vs us) (h : sp vs H Q E) :
    codeAny (model X.prog X.w) X.A (.call (.ref f) ⟨us, []⟩) (fun r s' => match r with | .ok (.ret v) => EP X pins σ Q v s' | .ok _ => False | .error e => X.xe e s') s := by
  have n : (us ++ ([] : List Value)).length = ps.length := by
    rw [List.append_nil, ← r.length]
    exact F.len _ _ _ _ h
  have b := hb s us I.kIn n
  rw [List.append_nil] at b
  apply codeAny_mono (F.run X.A X.stack s H ⟨us, []⟩ us vs Q E hr I.env0 b r h)
  intro res s2 q
  match res, q with
  | .error er, q => exact hx pins σ H s er s2 I q
  | .ok (.ret u), q => exact I.after q
/-- C(e, ..) -/
theorem pe_mk (c : Kls X.K X.mg x C) (F : Own X.prog X.w X.K X.mg X.base CX k C "__init__" ps sp) (hr : Room j X.A) (hx : Passes CX X E) (ha : PA X (e :: es) t) (hj : k + 1 ≤ j := by first | decide | omega) (hg : Gl X x := by rfl)
    (h1 : (x == ("__debug__" : Str)) = false := by decide) (h2 : starEach (e :: es) X.env = (false, eval e X.env) :: starEach es X.env := by rfl) (h3 : (backTo pos (starEach es X.env)).any (·.1) = false := by rfl) :
    PE X (.Call (.Name x p) (e :: es) [] pos) (tMake C sp [] E t) := by
  obtain ⟨f, fd, G, a1, a2, a3, _, b⟩ := F.ex
  exact pe_make ⟨c.ma, a1, a2, c.kp⟩ G (hr.mono hj) hg c.at_ b .nil hx ha h1 h2 h3
/-- o.m(e, ..), o.m() -/
theorem pe_mt (c : Kls X.K X.mg x C) (F : Own X.prog X.w X.K X.mg X.base CX k C m ps sp) (he : PE X o ta) (hr : Room j X.A) (hx : Passes CX X E) (ha : PA X (e :: es) t) (hj : k ≤ j := by first | decide | omega)
    {pl : Sem Bool} (hst : starEach (e :: es) X.env = (false, eval e X.env) :: starEach es X.env := by rfl) (hpl : (backTo pos (starEach es X.env)).any (·.1) = false := by rfl)
    (ht : eval (.Call (.Attribute o m apos) (e :: es) [] pos) X.env = (do
      let ov ← eval o X.env
      standAt apos.atName
      let (f, first) ← holding [ov] (getMethod ov m pl)
      callWith pos f first (backTo pos (starEach (e :: es) X.env)) (backToKw pos (keywordEach [] X.env))) := by rfl) :
    PE X (.Call (.Attribute o m apos) (e :: es) [] pos) (tMeth C m sp [] E ta t) := by
  obtain ⟨f, fd, G, a1, a2, a3, _, b⟩ := F.ex
  exact pe_meth he c.cl ⟨a1, a2, a3⟩ G (hr.mono hj) b .nil hx ha hst hpl ht
theorem pe_mt0 (c : Kls X.K X.mg x C) (F : Own X.prog X.w X.K X.mg X.base CX k C m ps sp) (he : PE X o ta) (hr : Room j X.A) (hx : Passes CX X E) (hj : k ≤ j := by first | decide | omega)
    {pl : Sem Bool} (ht : eval (.Call (.Attribute o m apos) [] [] pos) X.env = (do
      let ov ← eval o X.env
      standAt apos.atName
      let (f, first) ← holding [ov] (getMethod ov m pl)
      callWith pos f first (backTo pos (starEach [] X.env)) (backToKw pos (keywordEach [] X.env))) := by rfl) :
    PE X (.Call (.Attribute o m apos) [] [] pos) (tMeth C m sp [] E ta tNil) := by
  obtain ⟨f, fd, G, a1, a2, a3, _, b⟩ := F.ex
  exact pe_meth0 he c.cl ⟨a1, a2, a3⟩ G (hr.mono hj) b .nil hx ht
/-- o.f, a property -/
theorem pe_pr (c : Kls X.K X.mg x C) (F : Pro X.prog X.w X.K X.mg X.base CX k C m ps sp) (he : PE X o ta) (hr : Room j X.A) (hx : Passes CX X.nox E) (hj : k + 1 ≤ j := by first | decide | omega)
    (hab : attributeBase o m X.env (eval o X.env) = eval o X.env := by rfl) : PE X (.Attribute o m pos) (tProp C sp [] E ta) := by
  obtain ⟨q, f, fd, G, a1, b⟩ := F.ex
  exact pe_prop he c.cl a1 G (hr.mono hj) b .nil hx hab
/-- f(e, ..), f an instance of the class at C -/
def tCallI (C : Addr) (sp : Sp) (E : XK) (tf : TE) (t : TA) : TE := fun σ H Q => tf σ H fun y H1 => ∃ a, y = V.ref a ∧ t σ H1 fun vs H2 => (∃ dx fs, H2 a = some (.ins C dx fs)) ∧ sp (V.ref a :: vs) H2 Q E
theorem pe_in (F : Own X.prog X.w X.K X.mg X.base CX k C "__call__" ps sp) (hf : PE X fe tf) (hr : Room j X.A) (hx : Passes CX X E) (ha : PA X (e :: es) t) (hj : k ≤ j := by first | decide | omega)
    (ht : eval (.Call fe (e :: es) [] pos) X.env = (do callWith pos (← eval fe X.env) [] (backTo pos (starEach (e :: es) X.env)) (backToKw pos (keywordEach [] X.env))) := by rfl)
    (h2 : starEach (e :: es) X.env = (false, eval e X.env) :: starEach es X.env := by rfl) (h3 : (backTo pos (starEach es X.env)).any (·.1) = false := by rfl) : PE X (.Call fe (e :: es) [] pos) (tCallI C sp E tf t) := by
  obtain ⟨f, fd, G, a1, a2, a3, a4, b⟩ := F.ex
  constructor
  intro pins s σ H Q I h
  refine Call_ (thn (hf.run pins s σ H _ I h) ?_) ht
  rintro u s1 ⟨y, H1, I1, ry, a, rfl, q⟩
  obtain rfl : u = Value.ref a := ry
  refine StX.callO_with (thn (ha.run pos pins s1 σ H1 _ I1 q) ?_) h2 h3
  rintro us s2 ⟨vs, H2, I2, r, hi, q2⟩
  obtain ⟨ox, od, J, hd⟩ := StX.insC_at I2 (.inr hi)
  exact ⟨⟨C, ox, od, J, hd⟩, wpAny_call (PySem.W.kco_code I2.kIn J hd a1 a2 a4 (run_code (us := .ref a :: us) (vs := .ref a :: vs) G (hr.mono hj) b hx I2 (.cons rfl r) q2))⟩
/-- x op y, both instances of the class at C -/
def rOwnB (C : Addr) (sp : Sp) (E : XK) : R2 := fun x y H Q => ∃ a b dx fs dy gs, x = .ref a ∧ y = .ref b ∧ H a = some (.ins C dx fs) ∧ H b = some (.ins C dy gs) ∧ sp [x, y] H Q E
theorem op_ownB {op : Operator} (c : Kls X.K X.mg x C) (F : Own X.prog X.w X.K X.mg X.base CX k C (PySem.dunder op.info.2) ps sp) (hr : Room j X.A) (hx : Passes CX X E) (hj : k ≤ j := by first | decide | omega) : OpR X (binaryOp op) (rOwnB C sp E) := by
  obtain ⟨f, fd, G, a1, a2, a3, a4, bb⟩ := F.ex
  intro pins s σ H u v ov iv Q I ru rv h
  obtain ⟨a, b, dx, fs, dy, gs, rfl, rfl, ha, hb, q⟩ := h
  cases (show ov = Value.ref a from ru)
  cases (show iv = Value.ref b from rv)
  obtain ⟨_, O, _⟩ := ins_get I.hok ha
  obtain ⟨od, J, _⟩ := O.look
  obtain ⟨_, O', _⟩ := ins_get I.hok hb
  obtain ⟨od', J', _⟩ := O'.look
  obtain ⟨_, hF⟩ := I.fr
  refine PySem.W.binop_K (op := op) hF I.ok.mod.kin J J'.type c.sf a1 a2 ?_
  refine wpAny_mono (run_fn (us := [.ref a, .ref b]) (vs := [.ref a, .ref b]) G (hr.mono hj) bb .nil hx I (.cons rfl (.cons rfl .nil)) q) ?_ fun _ _ z => z
  rintro w s' ⟨z, H', I', rz, qz⟩
  exact SlX.cmpback rz ⟨z, H', I', rz, qz⟩
/-- o op= y, o an instance of the class at C -/
def ipOwn (C : Addr) (sp : Sp) (E : XK) : TIp := fun x y H Q => ∃ a dx fs, x = .ref a ∧ H a = some (.ins C dx fs) ∧ sp [x, y] H Q E
theorem ip_own {op : Operator} (c : Kls X.K X.mg x C) (F : Own X.prog X.w X.K X.mg X.base CX k C (dunderI op.info.2) ps sp) (hr : Room j X.A) (hx : Passes CX X E) (hj : k ≤ j := by first | decide | omega) : PIp X op (ipOwn C sp E) := by
  obtain ⟨f, fd, G, a1, a2, a3, a4, bb⟩ := F.ex
  intro pins s σ H u v ov iv Q I ru rv h
  obtain ⟨a, dx, fs, rfl, ha, q⟩ := h
  cases (show ov = Value.ref a from ru)
  obtain ⟨_, O, _⟩ := ins_get I.hok ha
  obtain ⟨od, J, _⟩ := O.look
  obtain ⟨_, hF⟩ := I.fr
  refine PySem.W.ksp_inplace (op := op) hF I.ok.mod.kin J c.sf a1 a2 ?_
  refine wpAny_mono (run_fn (us := [.ref a, iv]) (vs := [.ref a, v]) G (hr.mono hj) bb .nil hx I (.cons rfl (.cons rv .nil)) q) ?_ fun _ _ z => z
  rintro w s' ⟨z, H', I', rz, qz⟩
  exact SlX.cmpback rz ⟨z, H', I', rz, qz⟩
end
end Pk
set_option Elab.async false
set_option linter.all false
set_option maxRecDepth 100000
set_option maxHeartbeats 2000000
namespace Pk
open PySem PySem.Spec L2 PyProof.Rows
/-- where the package's classes stand -/
structure Cs where
  PipeError : Addr
  Wrong : Addr
  TooMany : Addr
  Overdrawn : Addr
  NotPassed : Addr
  Rule : Addr
  Account : Addr
  at_least : Addr := 0
  Twice : Addr := 0
  Unknown : Addr := 0
  Ring : Addr := 0
  BadGuide : Addr := 0
  Narrow : Addr := 0
  NoStep : Addr := 0
  Unready : Addr := 0
  NoCredit : Addr := 0
  Nothing : Addr := 0
  Broken : Addr := 0
  BadSlow : Addr := 0
  BadFrame : Addr := 0
  IsSlow : Addr := 0
  Unlike : Addr := 0
  NoDeed : Addr := 0
  Full : Addr := 0
  Refused : Addr := 0
  NoEntry : Addr := 0
  NoText : Addr := 0
  NoCommand : Addr := 0
  Plan : Addr := 0
  Machine : Addr := 0
  Sender : Addr := 0
  Reader : Addr := 0
  Standings : Addr := 0
  Layout : Addr := 0
  Book : Addr := 0
  Desk : Addr := 0
theorem iteT' {c : Bool} {A B : Prop} (e : c = true) (h : A) : if c = true then A else B := by
  rw [if_pos e]
  exact h
theorem iteF' {c : Bool} {A B : Prop} (e : c = false) (h : B) : if c = true then A else B := by
  rw [if_neg (by rw [e]; decide)]
  exact h
theorem vals_ints1 {i : Int} (t : Tok) : Vals [.int i] [.int i t] := .cons ⟨t, rfl⟩ .nil
/-! ### trees of rules -/
inductive Tr where
  | at (t q : Int)
  | or (a b : Tr)
  | and (a b : Tr)
namespace Tr
def lv : Tr → Nat
  | .at _ _ => 1
  | .or a b => lv a + lv b
  | .and a b => lv a + lv b
def dp : Tr → Nat
  | .at _ _ => 1
  | .or a b => max (dp a) (dp b) + 1
  | .and a b => max (dp a) (dp b) + 1
/-- nodes -/
def nd : Tr → Nat
  | .at _ _ => 1
  | .or a b => nd a + nd b + 1
  | .and a b => nd a + nd b + 1
def ok : Tr → Prop
  | .at t q => 1 ≤ t ∧ t ≤ 10 ^ 50 ∧ 1 ≤ q ∧ q ≤ 6
  | .or a b => ok a ∧ ok b
  | .and a b => ok a ∧ ok b
def give : Tr → Int → Int
  | .at t q, i => if t ≤ i then i - i % q else 0
  | .or a b, i => if give b i > give a i then give b i else give a i
  | .and a b, i => if give b i < give a i then give b i else give a i
def starts : Tr → List Int
  | .at t _ => [t]
  | .or a b => starts a ++ starts b
  | .and a b => starts a ++ starts b
def pd : Tr → PyData
  | .at t q => .tuple [.str "at", .int t, .int q]
  | .or a b => .tuple [.str "or", pd a, pd b]
  | .and a b => .tuple [.str "and", pd a, pd b]
theorem lv_pos : ∀ T : Tr, 1 ≤ lv T
  | .at _ _ => Nat.le_refl _
  | .or a b => Nat.le_trans (lv_pos a) (Nat.le_add_right _ _)
  | .and a b => Nat.le_trans (lv_pos a) (Nat.le_add_right _ _)
theorem dp_le : ∀ T : Tr, dp T ≤ lv T
  | .at _ _ => Nat.le_refl _
  | .or a b => by
    have h1 := dp_le a
    have h2 := dp_le b
    have h3 := lv_pos a
    have h4 := lv_pos b
    show max (dp a) (dp b) + 1 ≤ lv a + lv b
    omega
  | .and a b => by
    have h1 := dp_le a
    have h2 := dp_le b
    have h3 := lv_pos a
    have h4 := lv_pos b
    show max (dp a) (dp b) + 1 ≤ lv a + lv b
    omega
theorem dp_pos (T : Tr) : 1 ≤ dp T := by cases T <;> (unfold dp; omega)
theorem starts_len : ∀ T : Tr, (starts T).length = lv T
  | .at _ _ => rfl
  | .or a b => by show (starts a ++ starts b).length = _; rw [List.length_append, starts_len a, starts_len b]; rfl
  | .and a b => by show (starts a ++ starts b).length = _; rw [List.length_append, starts_len a, starts_len b]; rfl
/-- a tree as data: its depth, its text -/
theorem pd_depth : ∀ T : Tr, (pd T).depth ≤ dp T
  | .at t q => by show (PyData.tuple [.str "at", .int t, .int q]).depth ≤ 1; simp [PyData.depth, PyData.depthAll]
  | .or a b => by
    have h1 := pd_depth a
    have h2 := pd_depth b
    show (PyData.tuple [.str "or", pd a, pd b]).depth ≤ max (dp a) (dp b) + 1
    simp only [PyData.depth, PyData.depthAll]
    omega
  | .and a b => by
    have h1 := pd_depth a
    have h2 := pd_depth b
    show (PyData.tuple [.str "and", pd a, pd b]).depth ≤ max (dp a) (dp b) + 1
    simp only [PyData.depth, PyData.depthAll]
    omega
theorem pd_lay : ∀ T : Tr, (pd T).canLay0 = true
  | .at t q => by show (PyData.tuple [.str "at", .int t, .int q]).canLay0 = true; simp only [PyData.canLay0, PyData.canLayAll0]; decide +kernel
  | .or a b => by
    show (PyData.tuple [.str "or", pd a, pd b]).canLay0 = true
    simp only [PyData.canLay0, PyData.canLayAll0, pd_lay a, pd_lay b]; decide +kernel
  | .and a b => by
    show (PyData.tuple [.str "and", pd a, pd b]).canLay0 = true
    simp only [PyData.canLay0, PyData.canLayAll0, pd_lay a, pd_lay b]; decide +kernel
theorem log_ok {n : Int} (h0 : 0 ≤ n) (h1 : n ≤ 10 ^ 100) : n.natAbs.log2 < 1920 := by
  have h2 : n.natAbs < 2 ^ 1920 := by
    have z : n.natAbs ≤ 10 ^ 100 := by omega
    have z2 : (10 : Nat) ^ 100 < 2 ^ 1920 := by decide +kernel
    omega
  by_cases e : n.natAbs = 0
  · rw [e]; decide
  · exact (Nat.log2_lt e).mpr h2
theorem pd_show : ∀ T : Tr, ok T → (pd T).showable = true
  | .at t q, h => by
    obtain ⟨h1, h2, h3, h4⟩ := h
    show (PyData.tuple [.str "at", .int t, .int q]).showable = true
    have e1 : decide (t.natAbs.log2 < 1920) = true := decide_eq_true (log_ok (by omega) (by omega))
    have e2 : decide (q.natAbs.log2 < 1920) = true := decide_eq_true (log_ok (by omega) (by omega))
    simp only [PyData.showable, PyData.showableAll, e1, e2]; decide
  | .or a b, h => by
    show (PyData.tuple [.str "or", pd a, pd b]).showable = true
    simp only [PyData.showable, PyData.showableAll, pd_show a h.1, pd_show b h.2]; decide
  | .and a b, h => by
    show (PyData.tuple [.str "and", pd a, pd b]).showable = true
    simp only [PyData.showable, PyData.showableAll, pd_show a h.1, pd_show b h.2]; decide
theorem pd_siz : ∀ T : Tr, siz (pd T) + 100 ≤ 5000 * lv T
  | .at t q => by
    show siz (PyData.tuple [.str "at", .int t, .int q]) + 100 ≤ 5000 * 1
    have e : ((Str.ofString "at").length) = 2 := rfl
    simp only [siz, sizL]
    omega
  | .or a b => by
    have h1 := pd_siz a
    have h2 := pd_siz b
    have h3 := lv_pos a
    show siz (PyData.tuple [.str "or", pd a, pd b]) + 100 ≤ 5000 * (lv a + lv b)
    have e : ((Str.ofString "or").length) = 2 := rfl
    simp only [siz, sizL]
    omega
  | .and a b => by
    have h1 := pd_siz a
    have h2 := pd_siz b
    have h3 := lv_pos a
    show siz (PyData.tuple [.str "and", pd a, pd b]) + 100 ≤ 5000 * (lv a + lv b)
    have e : ((Str.ofString "and").length) = 3 := rfl
    simp only [siz, sizL]
    omega
end Tr
/-! ### trees in the heap -/
def TrAt (K : PySem.W.Frag) (H : Hp) : V → Tr → Prop
  | v, .at t q => ∃ a, v = .ref a ∧ SqT K H a [.str "at", .int t, .int q]
  | v, .or x y => ∃ a u w, v = .ref a ∧ SqT K H a [.str "or", u, w] ∧ TrAt K H u x ∧ TrAt K H w y
  | v, .and x y => ∃ a u w, v = .ref a ∧ SqT K H a [.str "and", u, w] ∧ TrAt K H u x ∧ TrAt K H w y
/-- tuples stay -/
def Tups (K : PySem.W.Frag) (H H' : Hp) : Prop := ∀ a xs, SqT K H a xs → SqT K H' a xs
section
variable {K : PySem.W.Frag} {H H' : Hp} {v : V} {T : Tr}
theorem TrAt.mono (s : Tups K H H') : ∀ {T : Tr} {v : V}, TrAt K H v T → TrAt K H' v T
  | .at t q, _, ⟨a, e, h⟩ => ⟨a, e, s _ _ h⟩
  | .or x y, _, ⟨a, u, w, e, h, h1, h2⟩ => ⟨a, u, w, e, s _ _ h, TrAt.mono s h1, TrAt.mono s h2⟩
  | .and x y, _, ⟨a, u, w, e, h, h1, h2⟩ => ⟨a, u, w, e, s _ _ h, TrAt.mono s h1, TrAt.mono s h2⟩
theorem Tups.same (s : Same H H') : Tups K H H' := fun a xs h => by
  rcases h with (h | ⟨o, h⟩) | h
  · exact .inl (.inl (s _ _ h))
  · exact .inl (.inr ⟨o, s _ _ h⟩)
  · exact .inr h
theorem Tups.kp {b : Addr} {ys : List V} (k : Kp b H H') (hb : H b = some (.lst ys)) : Tups K H H' := fun a xs h => k.tup hb h
theorem Tups.trans {H2 : Hp} (a : Tups K H H') (b : Tups K H' H2) : Tups K H H2 := fun x xs h => b x xs (a x xs h)
/-- an object that is no tuple is written -/
theorem Tups.put {p : Addr} {o u : HO} (h : H p = some u) (nt : ∀ xs, u ≠ .tup xs) (nf : ∀ ob xs, u ≠ .frz ob (.tup xs)) : Tups K H (upd H p o) := fun a xs q => by
  rcases q with (q | ⟨ob, q⟩) | q
  · exact .inl (.inl (by rw [upd_ne (ne_of q h fun e => nt _ e.symm)]; exact q))
  · exact .inl (.inr ⟨ob, by rw [upd_ne (ne_of q h fun e => nf _ _ e.symm)]; exact q⟩)
  · exact .inr q
theorem TrAt.ref (h : TrAt K H v T) : ∃ a, v = .ref a := by
  cases T with
  | «at» t q => obtain ⟨a, e, _⟩ := h; exact ⟨a, e⟩
  | or x y => obtain ⟨a, _, _, e, _⟩ := h; exact ⟨a, e⟩
  | and x y => obtain ⟨a, _, _, e, _⟩ := h; exact ⟨a, e⟩
theorem TrAt.dp : ∀ {T : Tr} {v : V}, TrAt K H v T → Dp K H v T.pd
  | .at t q, _, ⟨a, e, h⟩ => by subst e; exact .tup h (.cons (.str _) (.cons (.int _) (.cons (.int _) .nil)))
  | .or x y, _, ⟨a, u, w, e, h, h1, h2⟩ => by subst e; exact .tup h (.cons (.str _) (.cons (TrAt.dp h1) (.cons (TrAt.dp h2) .nil)))
  | .and x y, _, ⟨a, u, w, e, h, h1, h2⟩ => by subst e; exact .tup h (.cons (.str _) (.cons (TrAt.dp h1) (.cons (TrAt.dp h2) .nil)))
/-- what a tree's tuple is -/
theorem TrAt.tuple (h : TrAt K H v T) : ∃ a w x y, v = .ref a ∧ SqT K H a [.str w, x, y] ∧
    ((w = "at" ∧ ∃ t q, T = .at t q ∧ x = .int t ∧ y = .int q) ∨ (w = "or" ∧ ∃ A B, T = .or A B ∧ TrAt K H x A ∧ TrAt K H y B) ∨ (w = "and" ∧ ∃ A B, T = .and A B ∧ TrAt K H x A ∧ TrAt K H y B)) := by
  cases T with
  | «at» t q => obtain ⟨a, e, s⟩ := h; exact ⟨a, _, _, _, e, s, .inl ⟨rfl, t, q, rfl, rfl, rfl⟩⟩
  | or x y => obtain ⟨a, u, w, e, s, h1, h2⟩ := h; exact ⟨a, _, _, _, e, s, .inr (.inl ⟨rfl, x, y, rfl, h1, h2⟩)⟩
  | and x y => obtain ⟨a, u, w, e, s, h1, h2⟩ := h; exact ⟨a, _, _, _, e, s, .inr (.inr ⟨rfl, x, y, rfl, h1, h2⟩)⟩
end
end Pk
set_option Elab.async false
set_option linter.all false
set_option maxRecDepth 100000
set_option maxHeartbeats 2000000
namespace Pk
open PySem PySem.Spec L2 PyProof.Rows
section
variable {K : PySem.W.Frag} {C : Cs} {vs : List V} {H H' : Hp} {Q : VK} {E : XK} {n : Nat}
/-! ### numbers -/
def sp_is_integer (K : PySem.W.Frag) : Sp := fun vs H Q _ => ∃ i, vs = [.int i] ∧ Q (.bl true) H
def t_is_integer (K : PySem.W.Frag) : TS :=
  (tRet (tAndV (tCB (rIsi K) (tCons (tVar 0) (tCons (tC (.ty "int")) tNil))) (tNotV (tCB (rIsi K) (tCons (tVar 0) (tCons (tC (.ty "bool")) tNil))))))
theorem ln_is_integer (h : sp_is_integer K vs H Q E) : vs.length = 1 := by obtain ⟨_, rfl, _⟩ := h; rfl
theorem kit_ii {K : PySem.W.Frag} : PySem.W.kitOne K (.type "int") (.type "int") = some true := kit_ty (by decide +kernel)
theorem kit_ib {K : PySem.W.Frag} : PySem.W.kitOne K (.type "int") (.type "bool") = some false := kit_ty (by decide +kernel)
theorem kit_tt {K : PySem.W.Frag} : PySem.W.kitOne K (.type "tuple") (.type "tuple") = some true := kit_ty (by decide +kernel)
theorem kit_ss {K : PySem.W.Frag} : PySem.W.kitOne K (.type "str") (.type "str") = some true := kit_ty (by decide +kernel)
theorem rd_is_integer (h : sp_is_integer K vs H Q E) : t_is_integer K (EndsOf Q) (start [""] vs) H := by
  obtain ⟨i, rfl, k⟩ := h
  refine ⟨_, rfl, _, _, _, _, true, rfl, .ty _, .base (.int i), kit_ii, true, rfl, ?_⟩
  exact ⟨_, rfl, _, _, _, _, false, rfl, .ty _, .base (.int i), kit_ib, false, rfl, k⟩
def sp_is_number (K : PySem.W.Frag) : Sp := fun vs H Q _ => ∃ l i, vs = [.int l, .int i] ∧ Q (.bl (decide (l ≤ i))) H
def t_is_number (K : PySem.W.Frag) : TS :=
  (tRet (tAndV (tCall (sp_is_integer K) [] E0 (tCons (tVar 1) tNil)) (tOp (rGeI) (tVar 1) (tVar 0))))
theorem ln_is_number (h : sp_is_number K vs H Q E) : vs.length = 2 := by obtain ⟨_, _, rfl, _⟩ := h; rfl
theorem rd_is_number (h : sp_is_number K vs H Q E) : t_is_number K (EndsOf Q) (start ["", ""] vs) H := by
  obtain ⟨l, i, rfl, k⟩ := h
  exact ⟨_, rfl, i, rfl, true, rfl, _, rfl, _, rfl, _, _, rfl, rfl, k⟩
def sp_is_by (K : PySem.W.Frag) : Sp := fun vs H Q _ => ∃ i, vs = [.int i] ∧ Q (.bl (decide (1 ≤ i) && decide (i ≤ 6))) H
def t_is_by (K : PySem.W.Frag) : TS :=
  (tRet (tAndV (tCall (sp_is_number K) [] E0 (tCons (tC (.int 1)) (tCons (tVar 0) tNil))) (tOp (rLeU) (tVar 0) (tC (.int 6)))))
theorem ln_is_by (h : sp_is_by K vs H Q E) : vs.length = 1 := by obtain ⟨_, rfl, _⟩ := h; rfl
theorem rd_is_by (h : sp_is_by K vs H Q E) : t_is_by K (EndsOf Q) (start [""] vs) H := by
  obtain ⟨i, rfl, k⟩ := h
  refine ⟨_, rfl, 1, i, rfl, _, rfl, ?_⟩
  cases hb : decide ((1 : Int) ≤ i) with
  | false => rw [hb] at k; exact k
  | true => rw [hb] at k; exact ⟨_, rfl, .inl ⟨_, _, rfl, rfl, k⟩⟩
/-! ### trees -/
def Tr.word : Tr → Str
  | .at _ _ => "at"
  | .or _ _ => "or"
  | .and _ _ => "and"
def Tr.isAt : Tr → Bool
  | .at _ _ => true
  | _ => false
def sp_has_word (K : PySem.W.Frag) : Sp := fun vs H Q _ => ∃ (v : V) (T : Tr) (p : Addr) (ws : List Str), vs = [v, .ref p] ∧ TrAt K H v T ∧ SqT K H p (ws.map V.str) ∧ Q (.bl (inV (.str T.word) (ws.map V.str))) H
def t_has_word (K : PySem.W.Frag) : TS :=
  (tSeq (tIfS (tOr (tNot (tB (tCB (rIsi K) (tCons (tVar 0) (tCons (tC (.ty "tuple")) tNil))))) (tTest (tOp (rNeU K) (tCB (rLenU K) (tCons (tVar 0) tNil)) (tC (.int 3))))) (tRet (tC (.bl false))) tNext)
    (tRet (tAndV (tCB (rIsi K) (tCons (tOp (rIx K) (tVar 0) (tC (.int 0))) (tCons (tC (.ty "str")) tNil))) (tOp (rInU K) (tOp (rIx K) (tVar 0) (tC (.int 0))) (tVar 1)))))
theorem ln_has_word (h : sp_has_word K vs H Q E) : vs.length = 2 := by obtain ⟨_, _, _, _, rfl, _⟩ := h; rfl
theorem flat_strs (ws : List Str) : (ws.map V.str).all flatV = true := by
  induction ws with
  | nil => rfl
  | cons x r ih => exact ih
theorem sqt_ty {a : Addr} {xs : List V} (h : SqT K H a xs) : TyX K H (.ref a) (.type "tuple") := by
  rcases h with (h | ⟨o, h⟩) | ⟨o, its, n, h, c, _⟩
  · exact .base (.tup h)
  · exact .fTuple h
  · exact .kTuple h c
theorem rd_has_word (h : sp_has_word K vs H Q E) : t_has_word K (EndsOf Q) (start ["", ""] vs) H := by
  obtain ⟨v, T, p, ws, rfl, hT, hp, k⟩ := h
  obtain ⟨a, w, x, y, rfl, s, cw⟩ := hT.tuple
  have ew : w = T.word := by
    rcases cw with ⟨rfl, _, _, rfl, _⟩ | ⟨rfl, _, _, rfl, _⟩ | ⟨rfl, _, _, rfl, _⟩ <;> rfl
  subst ew
  refine ⟨_, rfl, _, _, _, _, true, rfl, .ty _, sqt_ty s, kit_tt, true, rfl, ?_⟩
  refine ⟨_, rfl, .inl ⟨_, 3, rfl, .inr ⟨_, s, rfl⟩, .inl ⟨rfl, _, rfl, ?_⟩⟩⟩
  refine ⟨_, rfl, .inr (.inl ⟨a, _, 0, _, rfl, rfl, s, rfl, ?_⟩)⟩
  refine ⟨_, _, _, _, true, rfl, .ty _, .base (.str _), kit_ss, true, rfl, ?_⟩
  refine ⟨_, rfl, .inr (.inl ⟨a, _, 0, _, rfl, rfl, s, rfl, ?_⟩)⟩
  exact ⟨_, rfl, .inl ⟨p, _, rfl, .inr hp, rfl, flat_strs ws, k⟩⟩
def sp_is_leaf (K : PySem.W.Frag) : Sp := fun vs H Q _ => ∃ v T, vs = [v] ∧ TrAt K H v T ∧ T.ok ∧ ∀ H', Same H H' → Q (.bl T.isAt) H'
def t_is_leaf (K : PySem.W.Frag) : TS :=
  (tRet (tAndV (tCall (sp_has_word K) [] E0 (tCons (tVar 0) (tCons (tTup (tCons (tC (.str "at")) tNil)) tNil))) (tAndV (tCall (sp_is_number K) [] E0 (tCons (tC (.int 1)) (tCons (tOp (rIx K) (tVar 0) (tC (.int 1))) tNil))) (tCall (sp_is_by K) [] E0 (tCons (tOp (rIx K) (tVar 0) (tC (.int 2))) tNil)))))
theorem ln_is_leaf (h : sp_is_leaf K vs H Q E) : vs.length = 1 := by obtain ⟨_, _, rfl, _⟩ := h; rfl
theorem two_fit : (1 : Nat) ≤ sizeLine ∧ (2 : Nat) ≤ sizeLine ∧ (3 : Nat) ≤ sizeLine ∧ (4 : Nat) ≤ sizeLine := by decide
theorem rd_is_leaf (h : sp_is_leaf K vs H Q E) : t_is_leaf K (EndsOf Q) (start [""] vs) H := by
  obtain ⟨v, T, rfl, hT, ok, k⟩ := h
  refine ⟨_, rfl, two_fit.1, fun p hp => ?_⟩
  have s := same_new (o := .tup [.str "at"]) hp
  have hT' := hT.mono (Tups.same s)
  refine ⟨v, T, p, ["at"], rfl, hT', SqT.of upd_same, _, rfl, ?_⟩
  obtain ⟨a, w, x, y, rfl, sq, cw⟩ := hT'.tuple
  rcases cw with ⟨rfl, t, q, rfl, rfl, rfl⟩ | ⟨rfl, A, B, rfl, _⟩ | ⟨rfl, A, B, rfl, _⟩
  · obtain ⟨o1, o2, o3, o4⟩ := ok
    refine iteT' (show inV (V.str "at") [V.str "at"] = true by decide +kernel) ?_
    refine ⟨_, rfl, .inr (.inl ⟨a, _, 1, _, rfl, rfl, sq, rfl, 1, t, rfl, _, rfl, ?_⟩)⟩
    rw [decide_eq_true o1]
    refine iteT' rfl ?_
    refine ⟨_, rfl, .inr (.inl ⟨a, _, 2, _, rfl, rfl, sq, rfl, q, rfl, ?_⟩)⟩
    rw [decide_eq_true o3, decide_eq_true o4]
    exact k _ s
  · refine iteF' (show inV (V.str "or") [V.str "at"] = false by decide +kernel) ?_
    exact k _ s
  · refine iteF' (show inV (V.str "and") [V.str "at"] = false by decide +kernel) ?_
    exact k _ s
/-! the stack of is_tree: values and trees -/
abbrev Ps := List (V × Tr)
def Ps.lvs (zs : Ps) : Nat := (zs.map fun z => z.2.lv).sum
def Ps.nds (zs : Ps) : Nat := (zs.map fun z => z.2.nd).sum
def Ps.At (K : PySem.W.Frag) (H : Hp) (zs : Ps) : Prop := ∀ z ∈ zs, TrAt K H z.1 z.2 ∧ z.2.ok
theorem Ps.At.mono {zs : Ps} (h : Ps.At K H zs) (s : Tups K H H') : Ps.At K H' zs := fun z hz => ⟨(h z hz).1.mono s, (h z hz).2⟩
theorem Ps.lvs_app (a b : Ps) : Ps.lvs (a ++ b) = Ps.lvs a + Ps.lvs b := by unfold Ps.lvs; rw [List.map_append, List.sum_append]
theorem Ps.nds_app (a b : Ps) : Ps.nds (a ++ b) = Ps.nds a + Ps.nds b := by unfold Ps.nds; rw [List.map_append, List.sum_append]
theorem Ps.len_le : ∀ zs : Ps, zs.length ≤ Ps.lvs zs
  | [] => Nat.le_refl _
  | z :: r => by
    have h1 := Ps.len_le r
    have h2 := z.2.lv_pos
    show r.length + 1 ≤ (z.2.lv :: (r.map fun z => z.2.lv)).sum
    rw [List.sum_cons]
    unfold Ps.lvs at h1
    omega
theorem nil_or_last {α : Type} (l : List α) : l = [] ∨ ∃ r x, l = r ++ [x] := by
  cases h : l.reverse with
  | nil => left; exact List.reverse_eq_nil_iff.mp h
  | cons x r => right; exact ⟨r.reverse, x, by rw [← List.reverse_cons, ← h, List.reverse_reverse]⟩
def sp_is_tree (K : PySem.W.Frag) : Sp := fun vs H Q _ => ∃ v T, vs = [v] ∧ TrAt K H v T ∧ T.ok ∧ T.lv ≤ 6 ∧ ∀ H', Same H H' → Q (.bl true) H'
def t_is_tree (K : PySem.W.Frag) : TS :=
  (tSeq (tAsg (tLst (tCons (tVar 0) tNil)) (gName 1))
    (tSeq (tAsg (tC (.int 0)) (gName 2))
    (tSeq (tWhile (tTest (tOp (rGtI) (tCB (rLenU K) (tCons (tVar 1) tNil)) (tC (.int 0)))) (tSeq (tAsg (tBM0 K "list" rPop (tVar 1)) (gName 3))
    (Evl.tCut (tIfS (tB (tCall (sp_is_leaf K) [] E0 (tCons (tVar 3) tNil))) (tAsg (tOp (rAddU K) (tVar 2) (tC (.int 1))) (gName 2)) (tIfS (tB (tCall (sp_has_word K) [] E0 (tCons (tVar 3) (tCons (tTup (tCons (tC (.str "or")) (tCons (tC (.str "and")) tNil))) tNil)))) (tSeq (tDrop (tBM K "list" rAppend (tVar 1) (tCons (tOp (rIx K) (tVar 3) (tC (.int 1))) tNil)))
    (tDrop (tBM K "list" rAppend (tVar 1) (tCons (tOp (rIx K) (tVar 3) (tC (.int 2))) tNil)))) (tRet (tC (.bl false)))))
    (tIfS (tTest (tOp (rGtI) (tOp (rAddU K) (tVar 2) (tCB (rLenU K) (tCons (tVar 1) tNil))) (tC (.int 6)))) (tRet (tC (.bl false))) tNext))))
    (tRet (tC (.bl true))))))
theorem ln_is_tree (h : sp_is_tree K vs H Q E) : vs.length = 1 := by obtain ⟨_, _, rfl, _⟩ := h; rfl
theorem rd_is_tree (h : sp_is_tree K vs H Q E) : t_is_tree K (EndsOf Q) (start ["", "", "", ""] vs) H := by
  obtain ⟨v, T, rfl, hT, ok, l6, k⟩ := h
  refine ⟨_, rfl, two_fit.1, fun w hw => ?_⟩
  have s0 := same_new (o := .lst [v]) hw
  refine ⟨fun m σ' H' => ∃ (zs : Ps) (lf : Nat) (pt : Option V), σ' = [some v, some (.ref w), some (.int lf), pt] ∧ H' w = some (.lst (zs.map (·.1))) ∧ Ps.At K H' zs ∧ lf + zs.lvs = T.lv ∧ Same H H' ∧ m = zs.nds,
    ⟨_, [(v, T)], 0, none, rfl, upd_same, fun z hz => ?_, ?_, s0, rfl⟩, ?_⟩
  · rw [List.mem_singleton.mp hz]
    exact ⟨hT.mono (Tups.same s0), ok⟩
  · show 0 + (T.lv + 0) = T.lv
    omega
  rintro m σ' H' ⟨zs, lf, pt, rfl, hwl, hz, hl, s, rfl⟩
  refine ⟨_, rfl, .inl ⟨_, _, rfl, .inl ⟨_, SqL.of hwl, rfl⟩, _, _, rfl, rfl, _, rfl, ?_⟩⟩
  rw [List.length_map]
  rcases nil_or_last zs with rfl | ⟨rs, ⟨u, S⟩, rfl⟩
  · refine iteF' (by decide) ?_
    exact k H' s
  refine iteT' (decide_eq_true (by rw [List.length_append, List.length_singleton]; omega)) ?_
  obtain ⟨hu, hok⟩ := hz (u, S) (List.mem_append_right _ (List.mem_singleton.mpr rfl))
  have hu : TrAt K H' u S := hu
  have hok : S.ok := hok
  have e1 : (rs ++ [(u, S)]).map (·.1) = rs.map (·.1) ++ [u] := by rw [List.map_append]; rfl
  rw [e1] at hwl
  refine ⟨fun σ2 H2 => ∃ (zs : Ps) (lf : Nat) (pt : Option V), σ2 = [some v, some (.ref w), some (.int lf), pt] ∧ H2 w = some (.lst (zs.map (·.1))) ∧ Ps.At K H2 zs ∧ lf + zs.lvs = T.lv ∧ Same H H2 ∧ zs.nds < Ps.nds (rs ++ [(u, S)]), fun σ2 H2 ⟨zs, lf, pt, a1, a2, a3, a4, a5, a6⟩ => ⟨_, a6, zs, lf, pt, a1, a2, a3, a4, a5, rfl⟩, ?_⟩
  -- part = waiting.pop()
  refine ⟨_, rfl, .inl ⟨rfl, _, SqL.of hwl⟩, w, _, u, rfl, rfl, hwl, ?_, ?_⟩
  · rw [List.length_append, List.length_singleton, Nat.add_sub_cancel, List.getElem?_append_right (Nat.le_refl _), Nat.sub_self]
    rfl
  rw [List.dropLast_concat]
  have tp : Tups K H' (upd H' w (.lst (rs.map (·.1)))) := Tups.put hwl (fun _ z => nomatch z) fun _ _ z => nomatch z
  have s1 : Same H (upd H' w (.lst (rs.map (·.1)))) := fun b o e => by rw [upd_ne (ne_of_none e hw)]; exact s b o e
  have hrs : Ps.At K (upd H' w (.lst (rs.map (·.1)))) rs := fun z q => ⟨(hz z (List.mem_append_left _ q)).1.mono tp, (hz z (List.mem_append_left _ q)).2⟩
  have hu1 := hu.mono tp
  have hw1 : (upd H' w (.lst (rs.map (·.1)))) w = some (.lst (rs.map (·.1))) := upd_same
  rw [Ps.lvs_app] at hl
  have hS : Ps.lvs [(u, S)] = S.lv := by show S.lv + 0 = S.lv; omega
  have hN : Ps.nds [(u, S)] = S.nd := by show S.nd + 0 = S.nd; omega
  rw [hS] at hl
  rw [Ps.nds_app, hN]
  generalize upd H' w (.lst (rs.map (·.1))) = G at s1 hrs hu1 hw1 ⊢
  -- is it a leaf, is it two trees
  refine ⟨fun σ2 H2 => ∃ (zs : Ps) (lf : Nat), σ2 = [some v, some (.ref w), some (.int lf), some u] ∧ H2 w = some (.lst (zs.map (·.1))) ∧ Ps.At K H2 zs ∧ lf + zs.lvs = T.lv ∧ Same H H2 ∧ Ps.nds zs < Ps.nds rs + S.nd, ?_, ?_⟩
  · refine ⟨_, rfl, u, S, rfl, hu1, hok, fun G1 g1 => ⟨_, rfl, ?_⟩⟩
    have hu2 := hu1.mono (Tups.same g1)
    obtain ⟨a, wd, x, y, rfl, sq, cw⟩ := hu2.tuple
    rcases cw with ⟨rfl, t, q, rfl, rfl, rfl⟩ | cw
    · refine iteT' rfl ?_
      refine ⟨_, rfl, .inl ⟨_, _, rfl, rfl, ?_⟩⟩
      exact ⟨rs, lf + 1, rfl, g1 _ _ hw1, hrs.mono (Tups.same g1), by have h1 : (Tr.at t q).lv = 1 := rfl; omega, s1.trans g1, by have h1 : (Tr.at t q).nd = 1 := rfl; omega⟩
    obtain ⟨A, B, hAB, hA, hB, oA, oB, eL, eN, hin⟩ : ∃ A B, S.isAt = false ∧ TrAt K G1 x A ∧ TrAt K G1 y B ∧ A.ok ∧ B.ok ∧ S.lv = A.lv + B.lv ∧ S.nd = A.nd + B.nd + 1 ∧ inV (.str S.word) (([("or" : Str), ("and" : Str)] : List Str).map V.str) = true := by
      rcases cw with ⟨rfl, A, B, rfl, hA, hB⟩ | ⟨rfl, A, B, rfl, hA, hB⟩
      · exact ⟨A, B, rfl, hA, hB, hok.1, hok.2, rfl, rfl, show inV (V.str "or") [V.str "or", V.str "and"] = true by decide +kernel⟩
      · exact ⟨A, B, rfl, hA, hB, hok.1, hok.2, rfl, rfl, show inV (V.str "and") [V.str "or", V.str "and"] = true by decide +kernel⟩
    refine iteF' hAB ?_
    refine ⟨_, rfl, two_fit.2.1, fun p hp => ?_⟩
    have g2 := same_new (o := .tup [.str "or", .str "and"]) hp
    refine ⟨_, S, p, ["or", "and"], rfl, hu2.mono (Tups.same g2), SqT.of upd_same, _, rfl, ?_⟩
    refine iteT' hin ?_
    have hw2 := g2 _ _ (g1 _ _ hw1)
    have sq2 := (Tups.same (K := K) g2) _ _ sq
    have hr2 := (hrs.mono (Tups.same g1)).mono (Tups.same g2)
    have hA2 := hA.mono (Tups.same g2)
    have hB2 := hB.mono (Tups.same g2)
    have s2 := s1.trans (g1.trans g2)
    generalize upd G1 p (.tup [.str "or", .str "and"]) = G2 at hw2 sq2 hr2 hA2 hB2 s2 ⊢
    have nw : H w = none := hw
    have lr : (rs.map (·.1)).length ≤ 6 := by
      rw [List.length_map]
      have z := Ps.len_le rs
      omega
    refine ⟨_, rfl, .inl ⟨rfl, _, SqL.of hw2⟩, _, rfl, .inr (.inl ⟨a, _, 1, _, rfl, rfl, sq2, rfl, ?_⟩)⟩
    refine ⟨w, _, x, rfl, rfl, hw2, small1000 (by omega), ?_⟩
    have t3 : Tups K G2 (upd G2 w (.lst (rs.map (·.1) ++ [x]))) := Tups.put hw2 (fun _ z => nomatch z) fun _ _ z => nomatch z
    refine ⟨_, rfl, .inl ⟨rfl, _, SqL.of upd_same⟩, _, rfl, .inr (.inl ⟨a, _, 2, _, rfl, rfl, t3 _ _ sq2, rfl, ?_⟩)⟩
    refine ⟨w, _, y, rfl, rfl, upd_same, small1000 (by rw [List.length_append, List.length_singleton]; omega), ?_⟩
    rw [upd_upd]
    have t4 : Tups K G2 (upd G2 w (.lst (rs.map (·.1) ++ [x] ++ [y]))) := Tups.put hw2 (fun _ z => nomatch z) fun _ _ z => nomatch z
    refine ⟨rs ++ [(x, A), (y, B)], lf, rfl, ?_, fun z q => ?_, ?_, fun b o e => ?_, ?_⟩
    · rw [upd_same, List.map_append, List.append_assoc]
      rfl
    · rcases List.mem_append.mp q with q | q
      · exact ⟨(hr2 z q).1.mono t4, (hr2 z q).2⟩
      · rcases List.mem_cons.mp q with rfl | q
        · exact ⟨hA2.mono t4, oA⟩
        · rw [List.mem_singleton.mp q]
          exact ⟨hB2.mono t4, oB⟩
    · rw [Ps.lvs_app]
      have h1 : Ps.lvs [(x, A), (y, B)] = A.lv + B.lv := by show A.lv + (B.lv + 0) = _; omega
      omega
    · rw [upd_ne (ne_of_none e hw)]
      exact s2 b o e
    · rw [Ps.nds_app]
      have h1 : Ps.nds [(x, A), (y, B)] = A.nd + B.nd := by show A.nd + (B.nd + 0) = _; omega
      omega
  rintro σ2 H2 ⟨zs2, lf2, rfl, b2, b3, b4, b5, b6⟩
  -- not too many
  refine ⟨_, rfl, _, rfl, .inl ⟨_, _, rfl, .inl ⟨_, SqL.of b2, rfl⟩, .inl ⟨_, _, rfl, rfl, _, _, rfl, rfl, _, rfl, ?_⟩⟩⟩
  have z := Ps.len_le zs2
  refine iteF' (decide_eq_false (by rw [List.length_map]; omega)) ?_
  exact ⟨zs2, lf2, _, rfl, b2, b3, b4, b5, b6⟩
end
end Pk
set_option Elab.async false
set_option linter.all false
set_option maxRecDepth 100000
set_option maxHeartbeats 2000000
namespace Pk
open PySem PySem.Spec L2 PyProof.Rows
section
variable {K : PySem.W.Frag} {C : Cs} {vs : List V} {H H' : Hp} {Q : VK} {E : XK} {n : Nat}
theorem g3 {i j l : Nat} {a : Addr} {σ : L2.St} {R : L2.St → Hp → Prop} {x y z : V} (s : SqT K H a [x, y, z]) (h : R (((σ.set i (some x)).set j (some y)).set l (some z)) H) :
    gTup K 3 (gCons (gName i) (gCons (gName j) (gCons (gName l) gNil))) (.ref a) σ H R := ⟨a, _, rfl, s, rfl, _, _, rfl, _, _, rfl, _, _, rfl, rfl, h⟩
theorem ifS {x y : Str} {A B : Prop} (h1 : x = y → A) (h2 : x ≠ y → B) : if decide (V.str x = V.str y) = true then A else B := by
  by_cases h : x = y
  · rw [if_pos (decide_eq_true (congrArg V.str h))]
    exact h1 h
  · rw [if_neg]
    · exact h2 h
    · intro z
      exact h (V.str.inj (of_decide_eq_true z))
theorem or_at : ("or" : Str) ≠ "at" := by decide +kernel
theorem and_at : ("and" : Str) ≠ "at" := by decide +kernel
theorem and_or : ("and" : Str) ≠ "or" := by decide +kernel
def sp_given (K : PySem.W.Frag) (n : Nat) : Sp := fun vs H Q _ => ∃ v T i, vs = [v, .int i] ∧ TrAt K H v T ∧ T.ok ∧ T.dp ≤ n ∧ Q (.int (T.give i)) H
def t_given (K : PySem.W.Frag) (n : Nat) : TS :=
  (tSeq (tAsg (tVar 0) (gTup K 3 (gCons (gName 2) (gCons (gName 3) (gCons (gName 4) gNil)))))
    (tSeq (tIfS (tTest (tOp (rEqU K) (tVar 2) (tC (.str "at")))) (tRet (tIf (tTest (tOp (rGeI) (tVar 1) (tVar 3))) (tOp (rSubI) (tVar 1) (tOp (rModI) (tVar 1) (tVar 4))) (tC (.int 0)))) tNext)
    (tSeq (tIfS (tTest (tOp (rEqU K) (tVar 2) (tC (.str "or")))) (tRet (tCB (rMax2) (tCons (tCall (sp_given K n) [] E0 (tCons (tVar 3) (tCons (tVar 1) tNil))) (tCons (tCall (sp_given K n) [] E0 (tCons (tVar 4) (tCons (tVar 1) tNil))) tNil)))) tNext)
    (tRet (tCB (rMin2) (tCons (tCall (sp_given K n) [] E0 (tCons (tVar 3) (tCons (tVar 1) tNil))) (tCons (tCall (sp_given K n) [] E0 (tCons (tVar 4) (tCons (tVar 1) tNil))) tNil)))))))
theorem no_given (h : sp_given K 0 vs H Q E) : False := by
  obtain ⟨_, T, _, _, _, _, h, _⟩ := h
  have := T.dp_pos
  omega
theorem ln_given (h : sp_given K n vs H Q E) : vs.length = 2 := by obtain ⟨_, _, _, rfl, _⟩ := h; rfl
theorem rd_given (h : sp_given K (n + 1) vs H Q E) : t_given K n (EndsOf Q) (start ["", "", "", "", ""] vs) H := by
  obtain ⟨v, T, i, rfl, hT, ok, hd, k⟩ := h
  obtain ⟨a, w, x, y, rfl, s, cw⟩ := hT.tuple
  refine ⟨_, rfl, g3 s ?_⟩
  refine ⟨_, rfl, .inl ⟨rfl, _, rfl, ?_⟩⟩
  rcases cw with ⟨rfl, t, q, rfl, rfl, rfl⟩ | ⟨rfl, A, B, rfl, hA, hB⟩ | ⟨rfl, A, B, rfl, hA, hB⟩
  · refine ifS (fun _ => ?_) (fun z => absurd rfl z)
    obtain ⟨o1, o2, o3, o4⟩ := ok
    have e : (Tr.at t q).give i = if t ≤ i then i - i % q else 0 := rfl
    rw [e] at k
    refine ⟨_, rfl, _, rfl, _, _, rfl, rfl, _, rfl, ?_⟩
    refine ifD (fun c => ?_) (fun c => ?_)
    · rw [if_pos c] at k
      exact ⟨_, rfl, _, rfl, _, rfl, _, _, rfl, rfl, (by show (0 : Int) < q; omega), _, _, rfl, rfl, k⟩
    · rw [if_neg c] at k
      exact k
  · refine ifS (fun z => absurd z or_at) (fun _ => ?_)
    refine ⟨_, rfl, .inl ⟨rfl, _, rfl, ?_⟩⟩
    refine ifS (fun _ => ?_) (fun z => absurd rfl z)
    have hd' : max A.dp B.dp + 1 ≤ n + 1 := hd
    exact ⟨_, rfl, _, rfl, x, A, i, rfl, hA, ok.1, by omega, _, rfl, _, rfl, y, B, i, rfl, hB, ok.2, by omega, _, _, rfl, k⟩
  · refine ifS (fun z => absurd z and_at) (fun _ => ?_)
    refine ⟨_, rfl, .inl ⟨rfl, _, rfl, ?_⟩⟩
    refine ifS (fun z => absurd z and_or) (fun _ => ?_)
    have hd' : max A.dp B.dp + 1 ≤ n + 1 := hd
    exact ⟨_, rfl, _, rfl, x, A, i, rfl, hA, ok.1, by omega, _, rfl, _, rfl, y, B, i, rfl, hB, ok.2, by omega, _, _, rfl, k⟩
/-- the leaves of a tree: from where on, multiples of what -/
def Tr.lvs : Tr → List (Int × Int)
  | .at t q => [(t, q)]
  | .or a b => a.lvs ++ b.lvs
  | .and a b => a.lvs ++ b.lvs
theorem Tr.lvs_len : ∀ T : Tr, T.lvs.length = T.lv
  | .at _ _ => rfl
  | .or a b => by show (a.lvs ++ b.lvs).length = _; rw [List.length_append, a.lvs_len, b.lvs_len]; rfl
  | .and a b => by show (a.lvs ++ b.lvs).length = _; rw [List.length_append, a.lvs_len, b.lvs_len]; rfl
theorem Tr.lvs_starts : ∀ T : Tr, T.lvs.map Prod.fst = T.starts
  | .at _ _ => rfl
  | .or a b => by show (a.lvs ++ b.lvs).map _ = _; rw [List.map_append, a.lvs_starts, b.lvs_starts]; rfl
  | .and a b => by show (a.lvs ++ b.lvs).map _ = _; rw [List.map_append, a.lvs_starts, b.lvs_starts]; rfl
def LeafAt (K : PySem.W.Frag) (H : Hp) (v : V) (l : Int × Int) : Prop := ∃ a, v = .ref a ∧ SqT K H a [.str "at", .int l.1, .int l.2]
def LvsAt (K : PySem.W.Frag) (H : Hp) (xs : List V) (ls : List (Int × Int)) : Prop := xs.length = ls.length ∧ ∀ (i : Nat) x l, xs[i]? = some x → ls[i]? = some l → LeafAt K H x l
theorem LvsAt.mono {xs : List V} {ls : List (Int × Int)} (h : LvsAt K H xs ls) (s : Tups K H H') : LvsAt K H' xs ls := ⟨h.1, fun i x l e1 e2 => by
  obtain ⟨a, e, q⟩ := h.2 i x l e1 e2
  exact ⟨a, e, s _ _ q⟩⟩
theorem LvsAt.app {xs ys : List V} {ls ms : List (Int × Int)} (h : LvsAt K H xs ls) (h2 : LvsAt K H ys ms) : LvsAt K H (xs ++ ys) (ls ++ ms) := by
  refine ⟨by rw [List.length_append, List.length_append, h.1, h2.1], fun i x l e1 e2 => ?_⟩
  by_cases c : i < xs.length
  · rw [List.getElem?_append_left c] at e1
    rw [List.getElem?_append_left (by rw [← h.1]; exact c)] at e2
    exact h.2 i x l e1 e2
  · rw [List.getElem?_append_right (by omega)] at e1
    rw [List.getElem?_append_right (by rw [← h.1]; omega), ← h.1] at e2
    exact h2.2 _ x l e1 e2
def sp_leaves_of (K : PySem.W.Frag) (n : Nat) : Sp := fun vs H Q _ => ∃ v T, vs = [v] ∧ TrAt K H v T ∧ T.dp ≤ n ∧ T.lv ≤ 6 ∧ ∀ p H' xs, H p = none → Same H H' → H' p = some (.lst xs) → LvsAt K H' xs T.lvs → Q (.ref p) H'
def t_leaves_of (K : PySem.W.Frag) (n : Nat) : TS :=
  (tSeq (tAsg (tVar 0) (gTup K 3 (gCons (gName 1) (gCons (gName 2) (gCons (gName 3) gNil)))))
    (tSeq (tIfS (tTest (tOp (rEqU K) (tVar 1) (tC (.str "at")))) (tRet (tLst (tCons (tVar 0) tNil))) tNext)
    (tRet (tOp (rAddU K) (tCall (sp_leaves_of K n) [] E0 (tCons (tVar 2) tNil)) (tCall (sp_leaves_of K n) [] E0 (tCons (tVar 3) tNil))))))
theorem no_leaves_of (h : sp_leaves_of K 0 vs H Q E) : False := by
  obtain ⟨_, T, _, _, h, _⟩ := h
  have := T.dp_pos
  omega
theorem ln_leaves_of (h : sp_leaves_of K n vs H Q E) : vs.length = 1 := by obtain ⟨_, _, rfl, _⟩ := h; rfl
theorem rd_leaves_of (h : sp_leaves_of K (n + 1) vs H Q E) : t_leaves_of K n (EndsOf Q) (start ["", "", "", ""] vs) H := by
  obtain ⟨v, T, rfl, hT, hd, hl, k⟩ := h
  obtain ⟨a, w, x, y, rfl, s, cw⟩ := hT.tuple
  refine ⟨_, rfl, g3 s ?_⟩
  refine ⟨_, rfl, .inl ⟨rfl, _, rfl, ?_⟩⟩
  have two : ∀ {A B : Tr}, T.lvs = A.lvs ++ B.lvs → T.lv = A.lv + B.lv → max A.dp B.dp + 1 ≤ n + 1 → TrAt K H x A → TrAt K H y B →
      tRet (tOp (rAddU K) (tCall (sp_leaves_of K n) [] E0 (tCons (tVar 2) tNil)) (tCall (sp_leaves_of K n) [] E0 (tCons (tVar 3) tNil))) (EndsOf Q) [some (.ref a), some (.str w), some x, some y] H := by
    intro A B e1 e2 hd' hA hB
    refine ⟨_, rfl, x, A, rfl, hA, by omega, by omega, fun p H1 xs hp s1 h1 l1 => ?_⟩
    refine ⟨_, rfl, y, B, rfl, hB.mono (Tups.same s1), by omega, by omega, fun p2 H2 ys hp2 s2 h2 l2 => ?_⟩
    refine .inr (.inr (.inl ⟨p, p2, _, _, rfl, rfl, s2 _ _ h1, h2, ?_, fun r hr => ?_⟩))
    · rw [l1.1, l2.1, A.lvs_len, B.lvs_len]
      exact Nat.le_of_lt (small1000 (by omega))
    · refine k r _ _ ((s1.trans s2).free hr) ((s1.trans s2).trans (same_new hr)) upd_same ?_
      rw [e1]
      exact ((l1.mono (Tups.same s2)).app l2).mono (Tups.same (same_new hr))
  rcases cw with ⟨rfl, t, q, rfl, rfl, rfl⟩ | ⟨rfl, A, B, rfl, hA, hB⟩ | ⟨rfl, A, B, rfl, hA, hB⟩
  · refine ifS (fun _ => ?_) (fun z => absurd rfl z)
    refine ⟨_, rfl, two_fit.1, fun p hp => k p _ _ hp (same_new hp) upd_same ⟨rfl, fun i x l e1 e2 => ?_⟩⟩
    match i, e1, e2 with
    | 0, e1, e2 =>
      cases e1
      cases e2
      exact ⟨a, rfl, Tups.same (same_new hp) _ _ s⟩
    | i + 1, e1, _ => exact nomatch e1
  · refine ifS (fun z => absurd z or_at) (fun _ => ?_)
    exact two rfl rfl hd hA hB
  · refine ifS (fun z => absurd z and_at) (fun _ => ?_)
    exact two rfl rfl hd hA hB
def sp_starts_of (K : PySem.W.Frag) : Sp := fun vs H Q _ => ∃ v T, vs = [v] ∧ TrAt K H v T ∧ T.dp ≤ 7 ∧ T.lv ≤ 6 ∧ ∀ p H', H p = none → Same H H' → H' p = some (.lst (T.starts.map V.int)) → Q (.ref p) H'
def t_starts_of (K : PySem.W.Frag) : TS :=
  (tRet (tLc (iList K (tCall (sp_leaves_of K 7) [] E0 (tCons (tVar 0) tNil))) (gTup K 3 (gCons (gName 1) (gCons (gName 2) (gCons (gName 1) gNil)))) tYes (tVar 2) [1, 2]))
theorem ln_starts_of (h : sp_starts_of K vs H Q E) : vs.length = 1 := by obtain ⟨_, _, rfl, _⟩ := h; rfl
theorem rd_starts_of (h : sp_starts_of K vs H Q E) : t_starts_of K (EndsOf Q) (start ["", "", ""] vs) H := by
  obtain ⟨v, T, rfl, hT, hd, hl, k⟩ := h
  refine ⟨_, rfl, v, T, rfl, hT, hd, hl, fun p G xs hp s1 h1 l1 => ?_⟩
  refine ⟨p, rfl, ⟨_, SqL.of h1⟩, fun D hD => ?_⟩
  refine lc_list (K := K) (a := p) (xs := xs) (fun i F => Same G F ∧ F D = some (.lst ((T.starts.take i).map V.int))) ⟨same_new hD, upd_same⟩ (fun i F _ s => s.1.seq (SqL.of h1)) ?_ ?_
  · rintro i x F hx ⟨s, hz⟩
    obtain ⟨lt, ex⟩ := List.getElem?_eq_some_iff.mp hx
    have lt2 : i < T.lvs.length := by rw [← l1.1]; exact lt
    obtain ⟨a, rfl, sa⟩ := l1.2 i x T.lvs[i] hx (List.getElem?_eq_getElem lt2)
    have lt3 : i < T.starts.length := by rw [T.starts_len, ← T.lvs_len]; exact lt2
    refine g3 (Tups.same s _ _ sa) ⟨rfl, ?_⟩
    refine ⟨_, rfl, _, hz, small1000 ?_, fun c o q => ?_, ?_⟩
    · rw [List.length_map, List.length_take]
      have := T.starts_len
      omega
    · rw [upd_ne (ne_of_none q hD)]
      exact s c o q
    · rw [upd_same, List.take_succ_eq_append_getElem lt3, List.map_append]
      have e : T.starts[i] = (T.lvs[i]).1 := by
        have z : (T.lvs.map Prod.fst)[i]? = T.starts[i]? := by rw [T.lvs_starts]
        rw [List.getElem?_map, List.getElem?_eq_getElem lt2, List.getElem?_eq_getElem lt3] at z
        exact (Option.some.inj z).symm
      rw [e]
      rfl
  · rintro F ⟨s, hz⟩
    rw [l1.1, T.lvs_len, ← T.starts_len, List.take_length] at hz
    exact k D F (s1.free hD) (s1.trans s) hz
/-! ### Rules -/
structure FxRule (K : PySem.W.Frag) (C : Cs) : Prop where
  cl : Cls K C.Rule
  no : NoAttr K C.Rule "_tree"
  ic : C8.InsC K C.Rule
theorem lk_tree {f : Str} {u : V} (h : (f == ("_tree" : Str)) = false) : List.lookup f [(("_tree" : Str), u)] = none := by simp [List.lookup, h]
def RuleAt (K : PySem.W.Frag) (C : Cs) (H : Hp) (v : V) (T : Tr) : Prop := ∃ a dx u, v = .ref a ∧ H a = some (.ins C.Rule dx [("_tree", u)]) ∧ TrAt K H u T ∧ T.ok ∧ T.lv ≤ 6 ∧ FxRule K C
theorem RuleAt.mono {v : V} {T : Tr} (h : RuleAt K C H v T) (s : Tups K H H') (k : ∀ a dx fs, H a = some (.ins C.Rule dx fs) → H' a = some (.ins C.Rule dx fs)) : RuleAt K C H' v T := by
  obtain ⟨a, dx, u, e, h1, h2, r⟩ := h
  exact ⟨a, dx, u, e, k _ _ _ h1, h2.mono s, r⟩
theorem RuleAt.same {v : V} {T : Tr} (h : RuleAt K C H v T) (s : Same H H') : RuleAt K C H' v T := h.mono (Tups.same s) fun _ _ _ e => s _ _ e
theorem RuleAt.kp {v : V} {T : Tr} {b : Addr} {ys : List V} (h : RuleAt K C H v T) (k : Kp b H H') (hb : H b = some (.lst ys)) : RuleAt K C H' v T := h.mono (Tups.kp k hb) fun _ _ _ e => k _ _ e (ne_of e hb fun z => nomatch z)
def sp_Rule___init__ (K : PySem.W.Frag) (C : Cs) : Sp := fun vs H Q _ => ∃ p dx u T, vs = [.ref p, u] ∧ H p = some (.ins C.Rule dx []) ∧ TrAt K H u T ∧ T.ok ∧ T.lv ≤ 6 ∧ FxRule K C ∧
  ∀ H', H' p = some (.ins C.Rule dx [("_tree", u)]) → (∀ b o, H b = some o → b ≠ p → H' b = some o) → Q .non H'
def t_Rule___init__ (K : PySem.W.Frag) : TS :=
  (tSeq (tIfS (tNot (tB (tCall (sp_is_tree K) [] E0 (tCons (tVar 1) tNil)))) tNever tNext)
    (sFld K (tVar 0) (tVar 1) "_tree"))
theorem ln_Rule___init__ (h : sp_Rule___init__ K C vs H Q E) : vs.length = 2 := by obtain ⟨_, _, _, _, rfl, _⟩ := h; rfl
theorem rd_Rule___init__ (h : sp_Rule___init__ K C vs H Q E) : t_Rule___init__ K (EndsOf Q) (start ["", ""] vs) H := by
  obtain ⟨p, dx, u, T, rfl, hp, hT, ok, l6, fx, k⟩ := h
  refine ⟨_, rfl, u, T, rfl, hT, ok, l6, fun H1 s => ⟨true, rfl, ?_⟩⟩
  refine ⟨_, rfl, _, rfl, p, _, dx, _, rfl, s _ _ hp, fx.cl, fx.no, by show 0 < 1000; decide, ?_⟩
  refine k _ upd_same fun b o e n => ?_
  rw [upd_ne n]
  exact s b o e
/-- what Rule(tree) makes -/
theorem make_rule {t : TA} {σ : L2.St} {u : V} {T : Tr} {G : Hp} (fx : FxRule K C) (ok : T.ok) (l6 : T.lv ≤ 6) (hT : TrAt K G u T) (k : ∀ x H', G x = none → Same G H' → RuleAt K C H' (.ref x) T → Q (.ref x) H') :
    ∀ x dx, G x = none → G dx = none → dx ≠ x → sp_Rule___init__ K C (.ref x :: ([u] ++ [])) (upd (upd G dx (.own x)) x (.ins C.Rule dx [])) (fun v H2 => v = .non ∧ Q (.ref x) H2) E := by
  intro x dx hx hd ne
  have s : Same G (upd (upd G dx (.own x)) x (.ins C.Rule dx [])) := fun b o e => by
    rw [upd_ne (ne_of_none e hx), upd_ne (ne_of_none e hd)]
    exact e
  refine ⟨x, dx, u, T, rfl, upd_same, hT.mono (Tups.same s), ok, l6, fx, fun H' h1 h2 => ⟨rfl, ?_⟩⟩
  have s2 : Same G H' := fun b o e => h2 b o (s b o e) (ne_of_none e hx)
  exact k x H' hx s2 ⟨x, dx, u, rfl, h1, hT.mono (Tups.same s2), ok, l6, fx⟩
theorem Tr.dp6 {T : Tr} (h : T.lv ≤ 6) : T.dp ≤ 7 := by have := T.dp_le; omega
def sp_Rule___call__ (K : PySem.W.Frag) (C : Cs) : Sp := fun vs H Q _ => ∃ v T i, vs = [v, .int i] ∧ RuleAt K C H v T ∧ Q (.int (T.give i)) H
def t_Rule___call__ (K : PySem.W.Frag) : TS :=
  (tRet (tCall (sp_given K 7) [] E0 (tCons (tFld K (tVar 0) "_tree") (tCons (tVar 1) tNil))))
theorem ln_Rule___call__ (h : sp_Rule___call__ K C vs H Q E) : vs.length = 2 := by obtain ⟨_, _, _, rfl, _⟩ := h; rfl
theorem rd_Rule___call__ (h : sp_Rule___call__ K C vs H Q E) : t_Rule___call__ K (EndsOf Q) (start ["", ""] vs) H := by
  obtain ⟨v, T, i, rfl, ⟨a, dx, u, rfl, ha, hT, ok, l6, fx⟩, k⟩ := h
  exact ⟨_, rfl, a, _, dx, _, u, rfl, ha, fx.cl, fx.no, rfl, _, rfl, u, T, i, rfl, hT, ok, Tr.dp6 l6, k⟩
def sp_Rule_rest (K : PySem.W.Frag) (C : Cs) : Sp := fun vs H Q _ => ∃ v T i, vs = [v, .int i] ∧ RuleAt K C H v T ∧ Q (.int (i - T.give i)) H
def t_Rule_rest (K : PySem.W.Frag) : TS :=
  (tRet (tOp (rSubI) (tVar 1) (tCall (sp_given K 7) [] E0 (tCons (tFld K (tVar 0) "_tree") (tCons (tVar 1) tNil)))))
theorem ln_Rule_rest (h : sp_Rule_rest K C vs H Q E) : vs.length = 2 := by obtain ⟨_, _, _, rfl, _⟩ := h; rfl
theorem rd_Rule_rest (h : sp_Rule_rest K C vs H Q E) : t_Rule_rest K (EndsOf Q) (start ["", ""] vs) H := by
  obtain ⟨v, T, i, rfl, ⟨a, dx, u, rfl, ha, hT, ok, l6, fx⟩, k⟩ := h
  exact ⟨_, rfl, _, rfl, a, _, dx, _, u, rfl, ha, fx.cl, fx.no, rfl, _, rfl, u, T, i, rfl, hT, ok, Tr.dp6 l6, _, _, rfl, rfl, k⟩
def sp_Rule_tree (K : PySem.W.Frag) (C : Cs) : Sp := fun vs H Q _ => ∃ v T, vs = [v] ∧ RuleAt K C H v T ∧ ∀ u, TrAt K H u T → Q u H
def t_Rule_tree (K : PySem.W.Frag) : TS :=
  (tRet (tFld K (tVar 0) "_tree"))
theorem ln_Rule_tree (h : sp_Rule_tree K C vs H Q E) : vs.length = 1 := by obtain ⟨_, _, rfl, _⟩ := h; rfl
theorem rd_Rule_tree (h : sp_Rule_tree K C vs H Q E) : t_Rule_tree K (EndsOf Q) (start [""] vs) H := by
  obtain ⟨v, T, rfl, ⟨a, dx, u, rfl, ha, hT, ok, l6, fx⟩, k⟩ := h
  exact ⟨_, rfl, a, _, dx, _, u, rfl, ha, fx.cl, fx.no, rfl, k u hT⟩
def Tr.join (w : Str) (A B : Tr) : Tr := if w = "or" then .or A B else .and A B
theorem Tr.join_lv (w : Str) (A B : Tr) : (Tr.join w A B).lv = A.lv + B.lv := by unfold Tr.join; split <;> rfl
theorem Tr.join_ok {w : Str} {A B : Tr} (a : A.ok) (b : B.ok) : (Tr.join w A B).ok := by unfold Tr.join; split <;> exact ⟨a, b⟩
def sp_joined (K : PySem.W.Frag) (C : Cs) : Sp := fun vs H Q _ => ∃ (w : Str) (u v : V) (A B : Tr), vs = [.str w, u, v] ∧ (w = "or" ∨ w = "and") ∧ TrAt K H u A ∧ TrAt K H v B ∧ A.ok ∧ B.ok ∧ A.lv + B.lv ≤ 6 ∧ FxRule K C ∧
  ∀ x H', H x = none → Same H H' → RuleAt K C H' (.ref x) (Tr.join w A B) → Q (.ref x) H'
def t_joined (K : PySem.W.Frag) (C : Cs) : TS :=
  (tSeq (tIfS (tTest (tOp (rGtI) (tOp (rAddU K) (tCB (rLenU K) (tCons (tCall (sp_starts_of K) [] E0 (tCons (tVar 1) tNil)) tNil)) (tCB (rLenU K) (tCons (tCall (sp_starts_of K) [] E0 (tCons (tVar 2) tNil)) tNil))) (tC (.int 6)))) tNever tNext)
    (tRet (tMake C.Rule (sp_Rule___init__ K C) [] E0 (tCons (tTup (tCons (tVar 0) (tCons (tVar 1) (tCons (tVar 2) tNil)))) tNil))))
theorem ln_joined (h : sp_joined K C vs H Q E) : vs.length = 3 := by obtain ⟨_, _, _, _, _, rfl, _⟩ := h; rfl
theorem rd_joined (h : sp_joined K C vs H Q E) : t_joined K C (EndsOf Q) (start ["", "", ""] vs) H := by
  obtain ⟨w, u, v, A, B, rfl, hw, hA, hB, oA, oB, l6, fx, k⟩ := h
  refine ⟨_, rfl, u, A, rfl, hA, Tr.dp6 (by omega), by omega, fun p H1 hp s1 h1 => ?_⟩
  refine .inl ⟨_, _, rfl, .inl ⟨_, SqL.of h1, rfl⟩, ?_⟩
  refine ⟨_, rfl, v, B, rfl, hB.mono (Tups.same s1), Tr.dp6 (by omega), by omega, fun p2 H2 hp2 s2 h2 => ?_⟩
  refine .inl ⟨_, _, rfl, .inl ⟨_, SqL.of h2, rfl⟩, .inl ⟨_, _, rfl, rfl, _, _, rfl, rfl, _, rfl, ?_⟩⟩
  rw [List.length_map, List.length_map, A.starts_len, B.starts_len]
  refine iteF' (decide_eq_false (by omega)) ?_
  have s := s1.trans s2
  refine ⟨_, rfl, _, rfl, _, rfl, two_fit.2.2.1, fun q hq => ?_⟩
  have s3 := same_new (o := .tup [.str w, u, v]) hq
  have hT : TrAt K (upd H2 q (.tup [.str w, u, v])) (.ref q) (Tr.join w A B) := by
    unfold Tr.join
    rcases hw with rfl | rfl
    · rw [if_pos rfl]
      exact ⟨q, u, v, rfl, SqT.of upd_same, hA.mono (Tups.same (s.trans s3)), hB.mono (Tups.same (s.trans s3))⟩
    · rw [if_neg and_or]
      exact ⟨q, u, v, rfl, SqT.of upd_same, hA.mono (Tups.same (s.trans s3)), hB.mono (Tups.same (s.trans s3))⟩
  exact make_rule (t := tNil) (σ := []) fx (Tr.join_ok oA oB) (by rw [Tr.join_lv]; exact l6) hT fun x H' hx s4 r => k x H' ((s.trans s3).free hx) ((s.trans s3).trans s4) r
def sp_Rule___or__ (K : PySem.W.Frag) (C : Cs) : Sp := fun vs H Q _ => ∃ u v A B, vs = [u, v] ∧ RuleAt K C H u A ∧ RuleAt K C H v B ∧ A.lv + B.lv ≤ 6 ∧ ∀ x H', H x = none → Same H H' → RuleAt K C H' (.ref x) (.or A B) → Q (.ref x) H'
def sp_Rule___and__ (K : PySem.W.Frag) (C : Cs) : Sp := fun vs H Q _ => ∃ u v A B, vs = [u, v] ∧ RuleAt K C H u A ∧ RuleAt K C H v B ∧ A.lv + B.lv ≤ 6 ∧ ∀ x H', H x = none → Same H H' → RuleAt K C H' (.ref x) (.and A B) → Q (.ref x) H'
def t_Rule___or__ (K : PySem.W.Frag) (C : Cs) : TS :=
  (tRet (tCall (sp_joined K C) [] E0 (tCons (tC (.str "or")) (tCons (tFld K (tVar 0) "_tree") (tCons (tFld K (tVar 1) "_tree") tNil)))))
def t_Rule___and__ (K : PySem.W.Frag) (C : Cs) : TS :=
  (tRet (tCall (sp_joined K C) [] E0 (tCons (tC (.str "and")) (tCons (tFld K (tVar 0) "_tree") (tCons (tFld K (tVar 1) "_tree") tNil)))))
theorem ln_Rule___or__ (h : sp_Rule___or__ K C vs H Q E) : vs.length = 2 := by obtain ⟨_, _, _, _, rfl, _⟩ := h; rfl
theorem ln_Rule___and__ (h : sp_Rule___and__ K C vs H Q E) : vs.length = 2 := by obtain ⟨_, _, _, _, rfl, _⟩ := h; rfl
theorem rd_Rule___or__ (h : sp_Rule___or__ K C vs H Q E) : t_Rule___or__ K C (EndsOf Q) (start ["", ""] vs) H := by
  obtain ⟨u, v, A, B, rfl, ⟨a, dx, x, rfl, ha, hA, oA, _, fx⟩, ⟨b, dy, y, rfl, hb, hB, oB, _, _⟩, l6, k⟩ := h
  refine ⟨_, rfl, a, _, dx, _, x, rfl, ha, fx.cl, fx.no, rfl, _, rfl, b, _, dy, _, y, rfl, hb, fx.cl, fx.no, rfl, ?_⟩
  exact ⟨"or", x, y, A, B, rfl, .inl rfl, hA, hB, oA, oB, l6, fx, fun r H' hr s q => k r H' hr s (by unfold Tr.join at q; rw [if_pos rfl] at q; exact q)⟩
theorem rd_Rule___and__ (h : sp_Rule___and__ K C vs H Q E) : t_Rule___and__ K C (EndsOf Q) (start ["", ""] vs) H := by
  obtain ⟨u, v, A, B, rfl, ⟨a, dx, x, rfl, ha, hA, oA, _, fx⟩, ⟨b, dy, y, rfl, hb, hB, oB, _, _⟩, l6, k⟩ := h
  refine ⟨_, rfl, a, _, dx, _, x, rfl, ha, fx.cl, fx.no, rfl, _, rfl, b, _, dy, _, y, rfl, hb, fx.cl, fx.no, rfl, ?_⟩
  exact ⟨"and", x, y, A, B, rfl, .inr rfl, hA, hB, oA, oB, l6, fx, fun r H' hr s q => k r H' hr s (by unfold Tr.join at q; rw [if_neg and_or] at q; exact q)⟩
def sp_at_least (K : PySem.W.Frag) (C : Cs) : Sp := fun vs H Q _ => ∃ t q, vs = [.int t, .int q] ∧ (Tr.at t q).ok ∧ FxRule K C ∧ ∀ x H', H x = none → Same H H' → RuleAt K C H' (.ref x) (.at t q) → Q (.ref x) H'
def t_at_least (K : PySem.W.Frag) (C : Cs) : TS :=
  (tSeq (tIfS (tNot (tB (tCall (sp_is_number K) [] E0 (tCons (tC (.int 1)) (tCons (tVar 0) tNil))))) tNever tNext)
    (tSeq (tIfS (tNot (tB (tCall (sp_is_by K) [] E0 (tCons (tVar 1) tNil)))) tNever tNext)
    (tRet (tMake C.Rule (sp_Rule___init__ K C) [] E0 (tCons (tTup (tCons (tC (.str "at")) (tCons (tVar 0) (tCons (tVar 1) tNil)))) tNil)))))
theorem ln_at_least (h : sp_at_least K C vs H Q E) : vs.length = 2 := by obtain ⟨_, _, rfl, _⟩ := h; rfl
theorem rd_at_least (h : sp_at_least K C vs H Q E) : t_at_least K C (EndsOf Q) (start ["", ""] vs) H := by
  obtain ⟨t, q, rfl, ok, fx, k⟩ := h
  obtain ⟨o1, o2, o3, o4⟩ := id ok
  refine ⟨_, rfl, 1, t, rfl, _, rfl, ?_⟩
  rw [decide_eq_true o1]
  refine ⟨_, rfl, q, rfl, _, rfl, ?_⟩
  rw [decide_eq_true o3, decide_eq_true o4]
  refine ⟨_, rfl, _, rfl, two_fit.2.2.1, fun p hp => ?_⟩
  have s := same_new (o := .tup [.str "at", .int t, .int q]) hp
  exact make_rule (t := tNil) (σ := []) fx ok (by show 1 ≤ 6; decide) ⟨p, rfl, SqT.of upd_same⟩ fun x H' hx s2 r => k x H' (s.free hx) (s.trans s2) r
end
end Pk
set_option Elab.async false
set_option linter.all false
set_option maxRecDepth 100000
set_option maxHeartbeats 2000000
namespace Pk
open PySem PySem.Spec L2 PyProof.Rows
section
variable {K : PySem.W.Frag} {C : Cs} {vs : List V} {H H' : Hp} {Q : VK} {E : XK} {n : Nat}
def sp_law_alike (K : PySem.W.Frag) : Sp := fun vs H Q _ => ∃ x y d, vs = [x, y] ∧ Dp K H x d ∧ Dp K H y d ∧ Good d ∧ Q (.bl true) H
def t_law_alike (K : PySem.W.Frag) : TS :=
  (tRet (tAndV (tOp (rEqU K) (tVar 0) (tVar 1)) (tOp (rEqU K) (tCB (rRepr K) (tCons (tVar 0) tNil)) (tCB (rRepr K) (tCons (tVar 1) tNil)))))
theorem ln_law_alike (h : sp_law_alike K vs H Q E) : vs.length = 2 := by obtain ⟨_, _, _, rfl, _⟩ := h; rfl
theorem rd_law_alike (h : sp_law_alike K vs H Q E) : t_law_alike K (EndsOf Q) (start ["", ""] vs) H := by
  obtain ⟨x, y, d, rfl, hx, hy, g, k⟩ := h
  refine ⟨_, rfl, _, rfl, .inr ⟨d, d, hx, hy, g.sh, g.sh, _, rfl, ?_⟩⟩
  rw [g.same]
  refine ⟨_, rfl, x, d, rfl, hx, g, _, rfl, y, d, rfl, hy, g, .inl ⟨rfl, ?_⟩⟩
  rw [decide_eq_true rfl]
  exact k
theorem pick2 {x y : V} {v : Int} (h0 : 0 ≤ v) (h1 : v < 2) : ∃ z, atI [x, y] v = some z ∧ ((v = 0 ∧ z = x) ∨ (v = 1 ∧ z = y)) := by
  rcases (by omega : v = 0 ∨ v = 1) with rfl | rfl
  · exact ⟨x, rfl, .inl ⟨rfl, rfl⟩⟩
  · exact ⟨y, rfl, .inr ⟨rfl, rfl⟩⟩
def sp_law_draw_size (K : PySem.W.Frag) : Sp := fun vs H Q _ => ∃ b l top sc, vs = [.ref b, .int top, .int sc] ∧ Bag H b l ∧ 1 ≤ top ∧ top ≤ 1000 ∧ 1 ≤ sc ∧ ∀ v H', 1 ≤ v → v ≤ top * sc → Bag H' b l → Kp b H H' → Q (.int v) H'
def t_law_draw_size (K : PySem.W.Frag) : TS :=
  (tRet (tOp (rMulU K) (tOp (rAddU K) (tC (.int 1)) (tCall (sp_law_take K) [] E0 (tCons (tVar 0) (tCons (tVar 1) tNil)))) (tOp (rIx K) (tLst (tCons (tC (.int 1)) (tCons (tVar 2) tNil))) (tCall (sp_law_take K) [] E0 (tCons (tVar 0) (tCons (tC (.int 2)) tNil))))))
theorem ln_law_draw_size (h : sp_law_draw_size K vs H Q E) : vs.length = 3 := by obtain ⟨_, _, _, _, rfl, _⟩ := h; rfl
theorem rd_law_draw_size (h : sp_law_draw_size K vs H Q E) : t_law_draw_size K (EndsOf Q) (start ["", "", ""] vs) H := by
  obtain ⟨b, l, top, sc, rfl, B, t1, t2, s1, k⟩ := h
  refine ⟨_, rfl, _, rfl, b, l, top, rfl, B, by omega, by omega, fun r H1 r0 r1 B1 k1 => ?_⟩
  refine .inl ⟨_, _, rfl, rfl, _, rfl, two_fit.2.1, fun p hp => ?_⟩
  have k2 := k1.laid (o := .lst [.int 1, .int sc]) hp
  refine ⟨_, rfl, b, l, 2, rfl, B1.same (same_new hp), by decide, by decide, fun j H2 j0 j1 B2 k3 => ?_⟩
  have hp2 : H2 p = some (.lst [.int 1, .int sc]) := by
    refine k3 p _ upd_same ?_
    obtain ⟨ys, hb⟩ := B1.at
    exact (ne_of_none hb hp).symm
  obtain ⟨z, hz, cz⟩ := pick2 (x := .int 1) (y := .int sc) j0 j1
  refine .inl ⟨p, _, j, z, rfl, rfl, SqL.of hp2, hz, ?_⟩
  rcases cz with ⟨_, rfl⟩ | ⟨_, rfl⟩
  · refine .inl ⟨_, _, rfl, rfl, .inl (.inl (by omega)), ?_⟩
    refine k _ _ (by omega) ?_ B2 (k2.trans k3)
    have : top * 1 ≤ top * sc := Int.mul_le_mul_of_nonneg_left s1 (by omega)
    omega
  · refine .inl ⟨_, _, rfl, rfl, .inl (.inl (by omega)), ?_⟩
    have h1 : (1 + r) * sc ≤ top * sc := Int.mul_le_mul_of_nonneg_right (by omega) (by omega)
    have h2 : 1 * 1 ≤ (1 + r) * sc := Int.mul_le_mul (by omega) s1 (by omega) (by omega)
    exact k _ _ (by omega) h1 B2 (k2.trans k3)
theorem Tr.give_or (a b : Tr) (i : Int) : (Tr.or a b).give i = if b.give i > a.give i then b.give i else a.give i := rfl
theorem Tr.give_and (a b : Tr) (i : Int) : (Tr.and a b).give i = if b.give i < a.give i then b.give i else a.give i := rfl
def sp_law_give (K : PySem.W.Frag) (n : Nat) : Sp := fun vs H Q _ => ∃ v T i, vs = [v, .int i] ∧ TrAt K H v T ∧ T.ok ∧ T.dp ≤ n ∧ ∀ H', Same H H' → Q (.int (T.give i)) H'
def t_law_give (K : PySem.W.Frag) (n : Nat) : TS :=
  (tSeq (tAsg (tVar 0) (gTup K 3 (gCons (gName 2) (gCons (gName 3) (gCons (gName 4) gNil)))))
    (tSeq (tIfS (tTest (tOp (rEqU K) (tVar 2) (tC (.str "at")))) (tRet (tIf (tTest (tOp (rGeI) (tVar 1) (tVar 3))) (tOp (rSubI) (tVar 1) (tOp (rModI) (tCB (rIntU) (tCons (tVar 1) tNil)) (tVar 4))) (tC (.int 0)))) tNext)
    (tSeq (tAsg (tLst (tCons (tCall (sp_law_give K n) [] E0 (tCons (tVar 3) (tCons (tVar 1) tNil))) (tCons (tCall (sp_law_give K n) [] E0 (tCons (tVar 4) (tCons (tVar 1) tNil))) tNil))) (gName 5))
    (tRet (tIf (tTest (tOp (rEqU K) (tVar 2) (tC (.str "or")))) (tCB (rMax K) (tCons (tVar 5) tNil)) (tCB (rMin K) (tCons (tVar 5) tNil)))))))
theorem no_law_give (h : sp_law_give K 0 vs H Q E) : False := by
  obtain ⟨_, T, _, _, _, _, h, _⟩ := h
  have := T.dp_pos
  omega
theorem ln_law_give (h : sp_law_give K n vs H Q E) : vs.length = 2 := by obtain ⟨_, _, _, rfl, _⟩ := h; rfl
theorem rd_law_give (h : sp_law_give K (n + 1) vs H Q E) : t_law_give K n (EndsOf Q) (start ["", "", "", "", "", ""] vs) H := by
  obtain ⟨v, T, i, rfl, hT, ok, hd, k⟩ := h
  obtain ⟨a, w, x, y, rfl, s, cw⟩ := hT.tuple
  refine ⟨_, rfl, g3 s ?_⟩
  refine ⟨_, rfl, .inl ⟨rfl, _, rfl, ?_⟩⟩
  rcases cw with ⟨rfl, t, q, rfl, rfl, rfl⟩ | ⟨rfl, A, B, rfl, hA, hB⟩ | ⟨rfl, A, B, rfl, hA, hB⟩
  · refine ifS (fun _ => ?_) (fun z => absurd rfl z)
    obtain ⟨o1, o2, o3, o4⟩ := ok
    have k := k H (Same.refl H)
    have e : (Tr.at t q).give i = if t ≤ i then i - i % q else 0 := rfl
    rw [e] at k
    refine ⟨_, rfl, _, rfl, _, _, rfl, rfl, _, rfl, ?_⟩
    refine ifD (fun c => ?_) (fun c => ?_)
    · rw [if_pos c] at k
      exact ⟨_, rfl, _, rfl, .inl (.inl ⟨_, rfl, _, rfl, _, _, rfl, rfl, (by show (0 : Int) < q; omega), _, _, rfl, rfl, k⟩)⟩
    · rw [if_neg c] at k
      exact k
  · refine ifS (fun z => absurd z or_at) (fun _ => ?_)
    have hd' : max A.dp B.dp + 1 ≤ n + 1 := hd
    refine ⟨_, rfl, _, rfl, x, A, i, rfl, hA, ok.1, by omega, fun H1 s1 => ?_⟩
    refine ⟨_, rfl, _, rfl, y, B, i, rfl, hB.mono (Tups.same s1), ok.2, by omega, fun H2 s2 => ⟨two_fit.2.1, fun p hp => ?_⟩⟩
    refine ⟨_, rfl, .inl ⟨rfl, _, rfl, ?_⟩⟩
    refine ifS (fun _ => ?_) (fun z => absurd rfl z)
    refine ⟨_, rfl, p, [A.give i, B.give i], rfl, SqL.of upd_same, Nat.succ_pos _, fun m hm hy => ?_⟩
    have e : m = (Tr.or A B).give i := by
      rw [Tr.give_or]
      have h1 := hy (A.give i) (List.mem_cons_self ..)
      have h2 := hy (B.give i) (List.mem_cons_of_mem _ (List.mem_cons_self ..))
      rcases List.mem_cons.mp hm with rfl | hm
      · split <;> omega
      · have := List.mem_singleton.mp hm
        split <;> omega
    rw [e]
    exact k _ ((s1.trans s2).trans (same_new hp))
  · refine ifS (fun z => absurd z and_at) (fun _ => ?_)
    have hd' : max A.dp B.dp + 1 ≤ n + 1 := hd
    refine ⟨_, rfl, _, rfl, x, A, i, rfl, hA, ok.1, by omega, fun H1 s1 => ?_⟩
    refine ⟨_, rfl, _, rfl, y, B, i, rfl, hB.mono (Tups.same s1), ok.2, by omega, fun H2 s2 => ⟨two_fit.2.1, fun p hp => ?_⟩⟩
    refine ⟨_, rfl, .inl ⟨rfl, _, rfl, ?_⟩⟩
    refine ifS (fun z => absurd z and_or) (fun _ => ?_)
    refine ⟨_, rfl, p, [A.give i, B.give i], rfl, SqL.of upd_same, Nat.succ_pos _, fun m hm hy => ?_⟩
    have e : m = (Tr.and A B).give i := by
      rw [Tr.give_and]
      have h1 := hy (A.give i) (List.mem_cons_self ..)
      have h2 := hy (B.give i) (List.mem_cons_of_mem _ (List.mem_cons_self ..))
      rcases List.mem_cons.mp hm with rfl | hm
      · split <;> omega
      · have := List.mem_singleton.mp hm
        split <;> omega
    rw [e]
    exact k _ ((s1.trans s2).trans (same_new hp))
/-! ### a drawn rule -/
def Tr.le (m : Int) : Tr → Prop
  | .at t _ => t ≤ m
  | .or a b => le m a ∧ le m b
  | .and a b => le m a ∧ le m b
theorem Bag.nb {b l D : Addr} (B : Bag H b l) (h : H D = none) : D ≠ b := by
  obtain ⟨ys, hb⟩ := B.at
  exact (ne_of_none hb h).symm
theorem Bag.nl {b l D : Addr} (B : Bag H b l) (h : H D = none) : D ≠ l := by
  obtain ⟨ys, hb⟩ := B.at2
  exact (ne_of_none hb h).symm
theorem Bag.tups {b l : Addr} (B : Bag H b l) (k : Kp b H H') : Tups K H H' := by
  obtain ⟨ys, hb⟩ := B.at
  exact Tups.kp k hb
def Ps.Ok (K : PySem.W.Frag) (H : Hp) (m : Int) (zs : Ps) : Prop := ∀ z ∈ zs, TrAt K H z.1 z.2 ∧ z.2.ok ∧ z.2.le m
theorem Ps.Ok.mono {zs : Ps} {m : Int} (h : Ps.Ok K H m zs) (s : Tups K H H') : Ps.Ok K H' m zs := fun z hz => ⟨(h z hz).1.mono s, (h z hz).2⟩
theorem Tups.add {p : Addr} {o u : HO} (h : H p = some u) (nt : ∀ xs, u ≠ .tup xs) (nf : ∀ ob xs, u ≠ .frz ob (.tup xs)) : Tups K H (upd H p o) := Tups.put h nt nf
theorem lst_tups {p : Addr} {o : HO} {xs : List V} (h : H p = some (.lst xs)) : Tups K H (upd H p o) := Tups.put h (fun _ z => nomatch z) fun _ _ z => nomatch z
def sp_law_draw_rule (K : PySem.W.Frag) : Sp := fun vs H Q _ => ∃ b l top sc many, vs = [.ref b, .int top, .int sc, .int many] ∧ Bag H b l ∧ 1 ≤ top ∧ top ≤ 1000 ∧ 1 ≤ sc ∧ top * sc ≤ 10 ^ 50 ∧ 1 ≤ many ∧ many ≤ 100 ∧
  ∀ v T H', TrAt K H' v T → T.ok → T.le (top * sc) → (T.lv : Int) = many → Bag H' b l → Kp b H H' → Q v H'
def t_law_draw_rule (K : PySem.W.Frag) : TS :=
  (tSeq (tAsg (tLc (iRng1 (tCons (tVar 3) tNil)) (gName 6) tYes (tTup (tCons (tC (.str "at")) (tCons (tCall (sp_law_draw_size K) [] E0 (tCons (tVar 0) (tCons (tVar 1) (tCons (tVar 2) tNil)))) (tCons (tOp (rAddU K) (tC (.int 1)) (tCall (sp_law_take K) [] E0 (tCons (tVar 0) (tCons (tC (.int 6)) tNil)))) tNil)))) [6]) (gName 4))
    (tSeq (tWhile (tTest (tOp (rGtI) (tCB (rLenU K) (tCons (tVar 4) tNil)) (tC (.int 1)))) (tSeq (tAsg (tCall (sp_law_take K) [] E0 (tCons (tVar 0) (tCons (tOp (rSubI) (tCB (rLenU K) (tCons (tVar 4) tNil)) (tC (.int 1))) tNil))) (gName 5))
    (tAsg (tOp (rAddU K) (tOp (rAddU K) (tSl (rSlU K) (tVar 4) tNoPart (tPart (tVar 5))) (tLst (tCons (tTup (tCons (tOp (rIx K) (tLst (tCons (tC (.str "or")) (tCons (tC (.str "and")) tNil))) (tCall (sp_law_take K) [] E0 (tCons (tVar 0) (tCons (tC (.int 2)) tNil)))) (tCons (tOp (rIx K) (tVar 4) (tVar 5)) (tCons (tOp (rIx K) (tVar 4) (tOp (rAddU K) (tVar 5) (tC (.int 1)))) tNil)))) tNil))) (tSl (rSlU K) (tVar 4) (tPart (tOp (rAddU K) (tVar 5) (tC (.int 2)))) tNoPart)) (gName 4))))
    (tRet (tOp (rIx K) (tVar 4) (tC (.int 0))))))
theorem ln_law_draw_rule (h : sp_law_draw_rule K vs H Q E) : vs.length = 4 := by obtain ⟨_, _, _, _, _, rfl, _⟩ := h; rfl
theorem split2 {α : Type} {l : List α} {j : Nat} (h : j + 1 < l.length) : l = l.take j ++ (l[j] :: l[j + 1] :: l.drop (j + 2)) := by
  rw [← List.drop_eq_getElem_cons (by omega), ← List.drop_eq_getElem_cons (by omega), List.take_append_drop]
theorem rd_law_draw_rule (h : sp_law_draw_rule K vs H Q E) : t_law_draw_rule K (EndsOf Q) (start ["", "", "", "", "", "", ""] vs) H := by
  obtain ⟨b, l, top, sc, many, rfl, B, t1, t2, s1, ts, m1, m2, k⟩ := h
  have nb : ∀ {D : Addr}, H D = none → D ≠ b := fun h => B.nb h
  refine ⟨_, rfl, many, rfl, by omega, by omega, fun D hD => ?_⟩
  refine lc_range (lo := 0) (n := many.toNat) (fun i H' => Bag H' b l ∧ Kp b H H' ∧ ∃ zs : Ps, zs.length = i ∧ zs.lvs = i ∧ H' D = some (.lst (zs.map (·.1))) ∧ Ps.Ok K H' (top * sc) zs) ⟨B.same (same_new hD), kp_new hD, [], rfl, rfl, upd_same, fun z hz => nomatch hz⟩ ?_ ?_
  · rintro i G hi ⟨B1, k1, zs, hl, hv, hz, ok⟩
    refine ⟨rfl, ?_⟩
    refine ⟨_, rfl, _, rfl, _, rfl, b, l, top, sc, rfl, B1, t1, t2, s1, fun t G1 a0 a1 B2 k2 => ?_⟩
    refine ⟨_, rfl, b, l, 6, rfl, B2, by decide, by decide, fun q G2 q0 q1 B3 k3 => .inl ⟨_, _, rfl, rfl, two_fit.2.2.1, fun p hp => ?_⟩⟩
    have k23 := k2.trans k3
    have hz2 := k23 D _ hz (nb hD)
    have s4 := same_new (o := .tup [.str "at", .int t, .int (1 + q)]) hp
    have tp : Tups K G (upd G2 p (.tup [.str "at", .int t, .int (1 + q)])) := (B1.tups k23).trans (Tups.same s4)
    refine ⟨_, s4 _ _ hz2, small1000 (by rw [List.length_map]; omega), ?_, (k1.trans (k23.trans (Kp.of s4))).other hD, zs ++ [(.ref p, .at t (1 + q))], ?_, ?_, ?_, ?_⟩
    · exact (B3.same s4).put (nb hD).symm (B.nl hD).symm
    · rw [List.length_append, hl]; rfl
    · rw [Ps.lvs_app, hv]; rfl
    · rw [upd_same, List.map_append]; rfl
    · intro z q
      have tD := lst_tups (K := K) (o := .lst (zs.map (·.1) ++ [V.ref p])) (s4 _ _ hz2)
      rcases List.mem_append.mp q with q | q
      · exact ⟨((ok z q).1.mono tp).mono tD, (ok z q).2⟩
      · rw [List.mem_singleton.mp q]
        exact ⟨⟨p, rfl, tD _ _ (SqT.of upd_same)⟩, ⟨a0, by omega, by omega, by omega⟩, a1⟩
  rintro G ⟨B1, k1, zs, hl, hv, hz, ok⟩
  refine ⟨fun m σ' H' => ∃ (zs : Ps) (D : Addr) (at' : Option V), σ' = [some (.ref b), some (.int top), some (.int sc), some (.int many), some (.ref D), at', none] ∧ H D = none ∧ H' D = some (.lst (zs.map (·.1))) ∧ Ps.Ok K H' (top * sc) zs ∧
    zs.lvs = many.toNat ∧ 1 ≤ zs.length ∧ zs.length ≤ 100 ∧ Bag H' b l ∧ Kp b H H' ∧ m = zs.length, ⟨_, zs, D, none, rfl, hD, hz, ok, hv, by omega, by omega, B1, k1, rfl⟩, ?_⟩
  clear hl hv hz ok zs B1 k1 hD
  rintro m σ' G ⟨zs, D, at', rfl, hD, hz, ok, hv, l1, l2, B1, k1, rfl⟩
  refine ⟨_, rfl, .inl ⟨_, _, rfl, .inl ⟨_, SqL.of hz, rfl⟩, _, _, rfl, rfl, _, rfl, ?_⟩⟩
  rw [List.length_map]
  refine ifD (fun c => ?_) (fun c => ?_)
  · -- two neighbours become one
    refine ⟨fun σ2 H2 => ∃ (zs2 : Ps) (D2 : Addr) (at' : Option V), σ2 = [some (.ref b), some (.int top), some (.int sc), some (.int many), some (.ref D2), at', none] ∧ H D2 = none ∧ H2 D2 = some (.lst (zs2.map (·.1))) ∧ Ps.Ok K H2 (top * sc) zs2 ∧
      zs2.lvs = many.toNat ∧ 1 ≤ zs2.length ∧ zs2.length ≤ 100 ∧ Bag H2 b l ∧ Kp b H H2 ∧ zs2.length < zs.length, fun σ2 H2 ⟨zs2, D2, at', a1, a2, a3, a4, a5, a6, a7, a8, a9, a10⟩ => ⟨_, a10, zs2, D2, at', a1, a2, a3, a4, a5, a6, a7, a8, a9, rfl⟩, ?_⟩
    refine ⟨_, rfl, _, rfl, .inl ⟨_, _, rfl, .inl ⟨_, SqL.of hz, rfl⟩, _, _, rfl, rfl, ?_⟩⟩
    rw [List.length_map]
    refine ⟨b, l, _, rfl, B1, by omega, by omega, fun at' G1 a0 a1 B2 k2 => ?_⟩
    have hz1 := k2 D _ hz (nb hD)
    obtain ⟨j, rfl⟩ : ∃ j : Nat, at' = (j : Int) := ⟨at'.toNat, by omega⟩
    have hj : j + 1 < zs.length := by omega
    have t1 := B1.tups (K := K) k2
    have kp1 := k1.trans k2
    have ok1 := ok.mono t1
    clear hz ok B1 k1 t1
    -- some[:at]
    refine ⟨_, rfl, _, rfl, _, rfl, .inl ⟨D, _, rfl, SqL.of hz1, fun p1 hp1 => ?_⟩⟩
    rw [cutV_to]
    have e1 := same_new (o := .lst ((zs.map (·.1)).take j)) hp1
    -- ['or', 'and'][..]
    refine ⟨two_fit.2.1, fun p2 hp2 => ?_⟩
    have e2 := same_new (o := .lst [.str "or", .str "and"]) hp2
    have e12 := e1.trans e2
    refine ⟨_, rfl, b, l, 2, rfl, B2.same e12, by decide, by decide, fun w G2 w0 w1 B3 k3 => ?_⟩
    have np2 : p2 ≠ b := (B2.same e1).nb hp2
    have np1 : p1 ≠ b := B2.nb hp1
    obtain ⟨wd, hw, cw⟩ := pick2 (x := .str "or") (y := .str "and") w0 w1
    have h2 := k3 p2 _ upd_same np2
    have h1 := k3 p1 _ (e2 _ _ upd_same) np1
    have hz2 := k3 D _ (e12 _ _ hz1) (nb hD)
    have tt : Tups K G1 G2 := (Tups.same e12).trans ((B2.same e12).tups k3)
    have ok2 := ok1.mono tt
    have kp2 := kp1.trans ((Kp.of e12).trans k3)
    refine .inl ⟨p2, _, w, wd, rfl, rfl, SqL.of h2, hw, ?_⟩
    -- some[at], some[at + 1]
    have g1 : (zs.map (·.1))[j]? = some (zs[j].1) := by rw [List.getElem?_map, List.getElem?_eq_getElem (by omega)]; rfl
    have g2 : (zs.map (·.1))[j + 1]? = some (zs[j + 1].1) := by rw [List.getElem?_map, List.getElem?_eq_getElem hj]; rfl
    refine ⟨_, rfl, _, rfl, .inl ⟨D, _, _, _, rfl, rfl, SqL.of hz2, at_of rfl g1, ?_⟩⟩
    refine ⟨_, rfl, _, rfl, .inl ⟨_, _, rfl, rfl, .inl ⟨D, _, _, _, rfl, rfl, SqL.of hz2, at_of (by omega) g2, ?_⟩⟩⟩
    refine ⟨two_fit.2.2.1, fun p3 hp3 => ?_⟩
    have e3 := same_new (o := .tup [wd, zs[j].1, zs[j + 1].1]) hp3
    refine ⟨two_fit.1, fun p4 hp4 => ?_⟩
    have e4 := same_new (o := .lst [.ref p3]) hp4
    have e34 := e3.trans e4
    refine .inr (.inr (.inl ⟨p1, p4, _, _, rfl, rfl, e34 _ _ h1, upd_same, ?_, fun p5 hp5 => ?_⟩))
    · rw [List.length_take, List.length_map, List.length_singleton]
      exact Nat.le_of_lt (small1000 (by omega))
    have e5 := same_new (o := .lst ((zs.map (·.1)).take j ++ [.ref p3])) hp5
    have e35 := e34.trans e5
    refine ⟨_, rfl, _, rfl, .inl ⟨_, _, rfl, rfl, _, rfl, .inl ⟨D, _, rfl, SqL.of (e35 _ _ hz2), fun p6 hp6 => ?_⟩⟩⟩
    rw [show ((j : Int) + 2) = ((j + 2 : Nat) : Int) from rfl, cutV_from]
    have e6 := same_new (o := .lst ((zs.map (·.1)).drop (j + 2))) hp6
    refine .inr (.inr (.inl ⟨p5, p6, _, _, rfl, rfl, e6 _ _ upd_same, upd_same, ?_, fun p7 hp7 => ?_⟩))
    · rw [List.length_append, List.length_take, List.length_drop, List.length_map, List.length_singleton]
      exact Nat.le_of_lt (small1000 (by omega))
    have e7 := same_new (o := .lst ((zs.map (·.1)).take j ++ [.ref p3] ++ (zs.map (·.1)).drop (j + 2))) hp7
    have all : Same G2 _ := e35.trans (e6.trans e7)
    obtain ⟨A, hA⟩ : ∃ A, A = (zs[j]).2 := ⟨_, rfl⟩
    obtain ⟨Z, hZ⟩ : ∃ Z, Z = (zs[j + 1]).2 := ⟨_, rfl⟩
    obtain ⟨q1, q2, q3⟩ := ok2 _ (List.getElem_mem (show j < zs.length by omega))
    obtain ⟨r1, r2, r3⟩ := ok2 _ (List.getElem_mem hj)
    rw [← hA] at q1 q2 q3
    rw [← hZ] at r1 r2 r3
    -- the tree of both
    obtain ⟨W, hW, oW, lW, vW⟩ : ∃ W : Tr, (∀ G', Same G2 G' → G' p3 = some (.tup [wd, zs[j].1, zs[j + 1].1]) → TrAt K G' (.ref p3) W) ∧ W.ok ∧ W.le (top * sc) ∧ W.lv = A.lv + Z.lv := by
      rcases cw with ⟨_, rfl⟩ | ⟨_, rfl⟩
      · exact ⟨.or A Z, fun G' s h => ⟨p3, _, _, rfl, SqT.of h, q1.mono (Tups.same s), r1.mono (Tups.same s)⟩, ⟨q2, r2⟩, ⟨q3, r3⟩, rfl⟩
      · exact ⟨.and A Z, fun G' s h => ⟨p3, _, _, rfl, SqT.of h, q1.mono (Tups.same s), r1.mono (Tups.same s)⟩, ⟨q2, r2⟩, ⟨q3, r3⟩, rfl⟩
    have hp3' := (e4.trans (e5.trans (e6.trans e7))) p3 _ upd_same
    refine ⟨zs.take j ++ [(.ref p3, W)] ++ zs.drop (j + 2), p7, _, rfl, ?_, ?_, ?_, ?_, ?_, ?_, B3.same all, kp2.trans (Kp.of all), ?_⟩
    · cases e : H p7 with
      | none => rfl
      | some o =>
        have z1 := (kp2.trans (Kp.of (e35.trans e6))) p7 o e
        by_cases hb : p7 = b
        · obtain ⟨ys, hb'⟩ := (B3.same (e35.trans e6)).at
          rw [hb, hb'] at hp7
          cases hp7
        · rw [z1 hb] at hp7
          cases hp7
    · rw [upd_same, List.map_append, List.map_append, List.map_take, List.map_drop]
      rfl
    · intro z hz
      rcases List.mem_append.mp hz with hz | hz
      · rcases List.mem_append.mp hz with hz | hz
        · exact (ok2.mono (Tups.same all)) z (List.mem_of_mem_take hz)
        · rw [List.mem_singleton.mp hz]
          exact ⟨hW _ all hp3', oW, lW⟩
      · exact (ok2.mono (Tups.same all)) z (List.mem_of_mem_drop hz)
    · have e0 : Ps.lvs zs = Ps.lvs (zs.take j) + (A.lv + (Z.lv + Ps.lvs (zs.drop (j + 2)))) := by
        conv => lhs; rw [split2 hj, Ps.lvs_app]
        rw [hA, hZ]
        rfl
      have e1 : Ps.lvs [((.ref p3 : V), W)] = W.lv := by show W.lv + 0 = W.lv; omega
      rw [Ps.lvs_app, Ps.lvs_app, e1, vW]
      omega
    all_goals
      rw [List.length_append, List.length_append, List.length_take, List.length_drop, List.length_singleton]
      omega
  · -- one is left
    obtain ⟨⟨v, T⟩, rfl⟩ : ∃ z, zs = [z] := by
      cases zs with
      | nil => exact absurd l1 (by decide)
      | cons z r =>
        cases r with
        | nil => exact ⟨z, rfl⟩
        | cons y r => exact absurd (by rw [List.length_cons, List.length_cons]; omega) c
    obtain ⟨a1, a2, a3⟩ := ok (v, T) (List.mem_singleton.mpr rfl)
    have e : T.lv = many.toNat := hv
    exact ⟨_, rfl, .inl ⟨D, _, 0, v, rfl, rfl, SqL.of hz, rfl, k v T G a1 a2 a3 (by omega) B1 k1⟩⟩
end
end Pk
set_option Elab.async false
set_option linter.all false
set_option maxRecDepth 100000
set_option maxHeartbeats 2000000
namespace Pk
open PySem PySem.Spec L2 PyProof.Rows
section
variable {K : PySem.W.Frag} {C : Cs} {vs : List V} {H H' : Hp} {Q : VK} {E : XK} {n : Nat}
theorem RuleAt.kpB {v : V} {T : Tr} {b l : Addr} (h : RuleAt K C H v T) (B : Bag H b l) (k : Kp b H H') : RuleAt K C H' v T := by
  obtain ⟨ys, hb⟩ := B.at
  exact h.kp k hb
def sp_law_made (K : PySem.W.Frag) (C : Cs) (n : Nat) : Sp := fun vs H Q _ => ∃ b l v T, vs = [.ref b, v] ∧ Bag H b l ∧ TrAt K H v T ∧ T.ok ∧ T.lv ≤ 6 ∧ T.dp ≤ n ∧ FxRule K C ∧ ∀ x H', RuleAt K C H' x T → Bag H' b l → Kp b H H' → Q x H'
def t_law_made (K : PySem.W.Frag) (C : Cs) (n : Nat) : TS :=
  (tSeq (tAsg (tVar 1) (gTup K 3 (gCons (gName 2) (gCons (gName 3) (gCons (gName 4) gNil)))))
    (tSeq (tIfS (tTest (tOp (rEqU K) (tCall (sp_law_take K) [] E0 (tCons (tVar 0) (tCons (tC (.int 2)) tNil))) (tC (.int 0)))) (tRet (tMake C.Rule (sp_Rule___init__ K C) [] E0 (tCons (tVar 1) tNil))) tNext)
    (tSeq (tIfS (tTest (tOp (rEqU K) (tVar 2) (tC (.str "at")))) (tRet (tIf (tTest (tOp (rEqU K) (tVar 4) (tC (.int 1)))) (tCall (sp_at_least K C) [.int 1] E0 (tCons (tVar 3) tNil)) (tCall (sp_at_least K C) [] E0 (tCons (tVar 3) (tCons (tVar 4) tNil))))) tNext)
    (tSeq (tPar 5 6 (tCons (tCall (sp_law_made K C n) [] E0 (tCons (tVar 0) (tCons (tVar 3) tNil))) (tCons (tCall (sp_law_made K C n) [] E0 (tCons (tVar 0) (tCons (tVar 4) tNil))) tNil)))
    (tRet (tIf (tTest (tOp (rEqU K) (tVar 2) (tC (.str "or")))) (tOp (rOwnB C.Rule (sp_Rule___or__ K C) E0) (tVar 5) (tVar 6)) (tOp (rOwnB C.Rule (sp_Rule___and__ K C) E0) (tVar 5) (tVar 6))))))))
theorem no_law_made (h : sp_law_made K C 0 vs H Q E) : False := by
  obtain ⟨_, _, _, T, _, _, _, _, _, h, _⟩ := h
  have := T.dp_pos
  omega
theorem ln_law_made (h : sp_law_made K C n vs H Q E) : vs.length = 2 := by obtain ⟨_, _, _, _, rfl, _⟩ := h; rfl
theorem rd_law_made (h : sp_law_made K C (n + 1) vs H Q E) : t_law_made K C n (EndsOf Q) (start ["", "", "", "", "", "", ""] vs) H := by
  obtain ⟨b, l, v, T, rfl, B, hT, ok, l6, hd, fx, k⟩ := h
  obtain ⟨a, w, x, y, rfl, s, cw⟩ := hT.tuple
  refine ⟨_, rfl, g3 s ?_⟩
  refine ⟨_, rfl, b, l, 2, rfl, B, by decide, by decide, fun r G r0 r1 B1 k1 => .inl ⟨rfl, _, rfl, ?_⟩⟩
  have tt := B.tups (K := K) k1
  refine ifI (fun _ => ?_) (fun _ => ?_)
  · refine ⟨_, rfl, make_rule (t := tNil) (σ := []) fx ok l6 (hT.mono tt) fun x H' hx s2 r => k (.ref x) H' r (B1.same s2) (k1.trans (Kp.of s2))⟩
  refine ⟨_, rfl, .inl ⟨rfl, _, rfl, ?_⟩⟩
  have two : ∀ {A Z : Tr} {w : Str}, T.ok → max A.dp Z.dp + 1 ≤ n + 1 → A.lv + Z.lv ≤ 6 → A.ok → Z.ok → TrAt K H x A → TrAt K H y Z → ((w = "or" ∧ T = .or A Z) ∨ (w = "and" ∧ T = .and A Z)) →
      tSeq (tPar 5 6 (tCons (tCall (sp_law_made K C n) [] E0 (tCons (tVar 0) (tCons (tVar 3) tNil))) (tCons (tCall (sp_law_made K C n) [] E0 (tCons (tVar 0) (tCons (tVar 4) tNil))) tNil)))
        (tRet (tIf (tTest (tOp (rEqU K) (tVar 2) (tC (.str "or")))) (tOp (rOwnB C.Rule (sp_Rule___or__ K C) E0) (tVar 5) (tVar 6)) (tOp (rOwnB C.Rule (sp_Rule___and__ K C) E0) (tVar 5) (tVar 6)))) (EndsOf Q)
        [some (.ref b), some (.ref a), some (.str w), some x, some y, none, none] G := by
    intro A Z w _ hd' l6 oA oZ hA hZ c
    refine ⟨_, rfl, _, rfl, b, l, x, A, rfl, B1, hA.mono tt, oA, by omega, by omega, fx, fun u G1 R1 B2 k2 => ?_⟩
    refine ⟨_, rfl, _, rfl, b, l, y, Z, rfl, B2, (hZ.mono tt).mono (B1.tups k2), oZ, by omega, by omega, fx, fun z G2 R2 B3 k3 => ⟨_, _, rfl, ?_⟩⟩
    have R1' := R1.kpB B2 k3
    have kk := k1.trans (k2.trans k3)
    obtain ⟨ru, du, xu, rfl, hu, ru'⟩ := id R1'
    obtain ⟨rz, dz, xz, rfl, hz, rz'⟩ := id R2
    refine ⟨_, rfl, .inl ⟨rfl, _, rfl, ?_⟩⟩
    rcases c with ⟨rfl, rfl⟩ | ⟨rfl, rfl⟩
    · refine ifS (fun _ => ?_) (fun z => absurd rfl z)
      exact ⟨_, rfl, _, rfl, ru, rz, du, _, dz, _, rfl, rfl, hu, hz, _, _, A, Z, rfl, R1', R2, l6, fun q G3 hq s3 R3 => k _ G3 R3 (B3.same s3) (kk.trans (Kp.of s3))⟩
    · refine ifS (fun z => absurd z and_or) (fun _ => ?_)
      exact ⟨_, rfl, _, rfl, ru, rz, du, _, dz, _, rfl, rfl, hu, hz, _, _, A, Z, rfl, R1', R2, l6, fun q G3 hq s3 R3 => k _ G3 R3 (B3.same s3) (kk.trans (Kp.of s3))⟩
  rcases cw with ⟨rfl, t, q, rfl, rfl, rfl⟩ | ⟨rfl, A, Z, rfl, hA, hZ⟩ | ⟨rfl, A, Z, rfl, hA, hZ⟩
  · refine ifS (fun _ => ?_) (fun z => absurd rfl z)
    refine ⟨_, rfl, .inl ⟨rfl, _, rfl, ?_⟩⟩
    refine ifI (fun e => ?_) (fun _ => ?_)
    · subst e
      exact ⟨_, rfl, t, 1, rfl, ok, fx, fun x G1 hx s2 r => k _ G1 r (B1.same s2) (k1.trans (Kp.of s2))⟩
    · exact ⟨_, rfl, _, rfl, t, q, rfl, ok, fx, fun x G1 hx s2 r => k _ G1 r (B1.same s2) (k1.trans (Kp.of s2))⟩
  · refine ifS (fun z => absurd z or_at) (fun _ => ?_)
    exact two ok hd l6 ok.1 ok.2 hA hZ (.inl ⟨rfl, rfl⟩)
  · refine ifS (fun z => absurd z and_at) (fun _ => ?_)
    exact two ok hd l6 ok.1 ok.2 hA hZ (.inr ⟨rfl, rfl⟩)
/-! ### amounts near the thresholds -/
def imax (i j : Int) : Int := if j > i then j else i
def Tr.tops : Tr → List Int
  | .at t q => [imax t q]
  | .or a b => tops a ++ tops b
  | .and a b => tops a ++ tops b
theorem Tr.tops_len : ∀ T : Tr, T.tops.length = T.lv
  | .at _ _ => rfl
  | .or a b => by show (tops a ++ tops b).length = _; rw [List.length_append, tops_len a, tops_len b]; rfl
  | .and a b => by show (tops a ++ tops b).length = _; rw [List.length_append, tops_len a, tops_len b]; rfl
theorem Tr.tops_ok : ∀ {T : Tr}, T.ok → ∀ i ∈ T.tops, 1 ≤ i ∧ i ≤ 10 ^ 50
  | .at t q, h, i, hi => by
    obtain ⟨h1, h2, h3, h4⟩ := h
    rw [List.mem_singleton.mp hi]
    unfold imax
    split <;> omega
  | .or a b, h, i, hi => (List.mem_append.mp hi).elim (tops_ok h.1 i) (tops_ok h.2 i)
  | .and a b, h, i, hi => (List.mem_append.mp hi).elim (tops_ok h.1 i) (tops_ok h.2 i)
def sp_law_bounds (K : PySem.W.Frag) (n : Nat) : Sp := fun vs H Q _ => ∃ v T, vs = [v] ∧ TrAt K H v T ∧ T.dp ≤ n ∧ T.lv ≤ 100 ∧ ∀ p H', H p = none → Same H H' → H' p = some (.lst (T.tops.map V.int)) → Q (.ref p) H'
def t_law_bounds (K : PySem.W.Frag) (n : Nat) : TS :=
  (tSeq (tAsg (tVar 0) (gTup K 3 (gCons (gName 1) (gCons (gName 2) (gCons (gName 3) gNil)))))
    (tRet (tIf (tTest (tOp (rEqU K) (tVar 1) (tC (.str "at")))) (tLst (tCons (tCB (rMax2) (tCons (tVar 2) (tCons (tVar 3) tNil))) tNil)) (tOp (rAddU K) (tCall (sp_law_bounds K n) [] E0 (tCons (tVar 2) tNil)) (tCall (sp_law_bounds K n) [] E0 (tCons (tVar 3) tNil))))))
theorem no_law_bounds (h : sp_law_bounds K 0 vs H Q E) : False := by
  obtain ⟨_, T, _, _, h, _⟩ := h
  have := T.dp_pos
  omega
theorem ln_law_bounds (h : sp_law_bounds K n vs H Q E) : vs.length = 1 := by obtain ⟨_, _, rfl, _⟩ := h; rfl
theorem rd_law_bounds (h : sp_law_bounds K (n + 1) vs H Q E) : t_law_bounds K n (EndsOf Q) (start ["", "", "", ""] vs) H := by
  obtain ⟨v, T, rfl, hT, hd, hl, k⟩ := h
  obtain ⟨a, w, x, y, rfl, s, cw⟩ := hT.tuple
  refine ⟨_, rfl, g3 s ?_⟩
  refine ⟨_, rfl, .inl ⟨rfl, _, rfl, ?_⟩⟩
  have two : ∀ {A B : Tr}, T.tops = A.tops ++ B.tops → T.lv = A.lv + B.lv → max A.dp B.dp + 1 ≤ n + 1 → TrAt K H x A → TrAt K H y B →
      tOp (rAddU K) (tCall (sp_law_bounds K n) [] E0 (tCons (tVar 2) tNil)) (tCall (sp_law_bounds K n) [] E0 (tCons (tVar 3) tNil)) [some (.ref a), some (.str w), some x, some y] H Q := by
    intro A B e1 e2 hd' hA hB
    refine ⟨_, rfl, x, A, rfl, hA, by omega, by omega, fun p H1 hp s1 h1 => ?_⟩
    refine ⟨_, rfl, y, B, rfl, hB.mono (Tups.same s1), by omega, by omega, fun p2 H2 hp2 s2 h2 => ?_⟩
    refine .inr (.inr (.inl ⟨p, p2, _, _, rfl, rfl, s2 _ _ h1, h2, ?_, fun r hr => ?_⟩))
    · rw [List.length_map, List.length_map, A.tops_len, B.tops_len]
      exact Nat.le_of_lt (small1000 (by omega))
    · refine k r _ ((s1.trans s2).free hr) ((s1.trans s2).trans (same_new hr)) ?_
      rw [upd_same, e1, List.map_append]
  rcases cw with ⟨rfl, t, q, rfl, rfl, rfl⟩ | ⟨rfl, A, B, rfl, hA, hB⟩ | ⟨rfl, A, B, rfl, hA, hB⟩
  · refine ifS (fun _ => ?_) (fun z => absurd rfl z)
    exact ⟨_, rfl, _, rfl, _, _, rfl, two_fit.1, fun p hp => k p _ hp (same_new hp) upd_same⟩
  · refine ifS (fun z => absurd z or_at) (fun _ => ?_)
    exact two rfl rfl hd hA hB
  · refine ifS (fun z => absurd z and_at) (fun _ => ?_)
    exact two rfl rfl hd hA hB
theorem pick3 {x y z : V} {v : Int} (h0 : 0 ≤ v) (h1 : v < 3) : ∃ u, atI [x, y, z] v = some u ∧ (u = x ∨ u = y ∨ u = z) := by
  rcases (by omega : v = 0 ∨ v = 1 ∨ v = 2) with rfl | rfl | rfl
  · exact ⟨x, rfl, .inl rfl⟩
  · exact ⟨y, rfl, .inr (.inl rfl)⟩
  · exact ⟨z, rfl, .inr (.inr rfl)⟩
theorem kp_keep {b p : Addr} {xs : List V} (k : Kp b H H') (h : H p = some (.lst xs)) (n : p ≠ b) : H' p = some (.lst xs) := k p _ h n
/-- a number of amounts, none below nought -/
def sp_law_amounts (K : PySem.W.Frag) : Sp := fun vs H Q _ => ∃ b l v T many, vs = [.ref b, v, .int many] ∧ Bag H b l ∧ TrAt K H v T ∧ T.ok ∧ T.lv ≤ 6 ∧ 0 ≤ many ∧ many ≤ 100 ∧
  ∀ (p : Addr) (ns : List Int) (H' : Hp), H p = none → H' p = some (.lst (ns.map V.int)) → ns.length = many.toNat + 2 → (∀ i ∈ ns, 0 ≤ i ∧ i ≤ 10 ^ 60) → Bag H' b l → Kp b H H' → Q (.ref p) H'
def t_law_amounts (K : PySem.W.Frag) : TS :=
  (tSeq (tPar 3 4 (tCons (tCall (sp_law_bounds K 7) [] E0 (tCons (tVar 1) tNil)) (tCons (tLst (tCons (tC (.int 0)) (tCons (tC (.int 1)) tNil))) tNil)))
    (tSeq (tFor (iRng1 (tCons (tVar 2) tNil)) (gName 5) (tSeq (tAsg (tOp (rSubI) (tOp (rAddU K) (tOp (rIx K) (tVar 3) (tCall (sp_law_take K) [] E0 (tCons (tVar 0) (tCons (tCB (rLenU K) (tCons (tVar 3) tNil)) tNil)))) (tCall (sp_law_take K) [] E0 (tCons (tVar 0) (tCons (tC (.int 70)) tNil)))) (tC (.int 9))) (gName 6))
    (tDrop (tBM K "list" rAppend (tVar 4) (tCons (tOp (rIx K) (tLst (tCons (tCB (rMax2) (tCons (tC (.int 0)) (tCons (tVar 6) tNil))) (tCons (tCall (sp_law_take K) [] E0 (tCons (tVar 0) (tCons (tOp (rPowI) (tC (.int 10)) (tC (.int 30))) tNil))) (tCons (tCall (sp_law_take K) [] E0 (tCons (tVar 0) (tCons (tC (.int 80)) tNil))) tNil)))) (tCall (sp_law_take K) [] E0 (tCons (tVar 0) (tCons (tC (.int 3)) tNil)))) tNil)))))
    (tRet (tVar 4))))
theorem ln_law_amounts (h : sp_law_amounts K vs H Q E) : vs.length = 3 := by obtain ⟨_, _, _, _, _, rfl, _⟩ := h; rfl
theorem rd_law_amounts (h : sp_law_amounts K vs H Q E) : t_law_amounts K (EndsOf Q) (start ["", "", "", "", "", "", ""] vs) H := by
  obtain ⟨b, l, v, T, many, rfl, B, hT, ok, l6, m0, m1, k⟩ := h
  refine ⟨_, rfl, v, T, rfl, hT, Tr.dp6 l6, by omega, fun p H1 hp s1 h1 => ?_⟩
  refine ⟨two_fit.2.1, fun f hf => ⟨_, _, rfl, ?_⟩⟩
  have s2 := same_new (o := .lst [.int 0, .int 1]) hf
  have s12 := s1.trans s2
  have nb : ∀ {D : Addr}, H D = none → D ≠ b := fun h => B.nb h
  have hf0 : H f = none := s1.free hf
  have hp2 := s2 _ _ h1
  have hf2 : (upd H1 f (.lst [.int 0, .int 1])) f = some (.lst [.int 0, .int 1]) := upd_same
  have npf : p ≠ f := ne_of_none h1 hf
  generalize upd H1 f (.lst [.int 0, .int 1]) = G at s12 hp2 hf2 ⊢
  refine ⟨_, rfl, many, rfl, by omega, by omega, ?_⟩
  refine for_range (lo := 0) (n := many.toNat) (fun i σ' G' => ∃ (c1 c2 : Option V) (ns : List Int), σ' = [some (.ref b), some v, some (.int many), some (.ref p), some (.ref f), c1, c2] ∧ Bag G' b l ∧ Kp b H G' ∧ G' p = some (.lst (T.tops.map V.int)) ∧
    G' f = some (.lst (ns.map V.int)) ∧ ns.length = i + 2 ∧ ∀ z ∈ ns, 0 ≤ z ∧ z ≤ 10 ^ 60) ⟨none, none, [0, 1], rfl, B.same s12, Kp.of s12, hp2, hf2, rfl, ?_⟩ ?_ ?_
  · intro z hz
    rcases List.mem_cons.mp hz with rfl | hz
    · decide
    · rw [List.mem_singleton.mp hz]; decide
  · rintro i σ' G' hi ⟨c1, c2, ns, rfl, B1, k1, hp1, hf1, hl, hn⟩
    refine ⟨_, rfl, _, rfl, _, rfl, .inl ⟨_, _, rfl, .inl ⟨_, SqL.of hp1, rfl⟩, ?_⟩⟩
    have tl := T.tops_len
    have lp := T.lv_pos
    rw [List.length_map, tl]
    refine ⟨b, l, _, rfl, B1, by omega, by omega, fun j G1 j0 j1 B2 k2 => ?_⟩
    have hp2 := k2 p _ hp1 (nb hp)
    have hj : j.toNat < T.tops.length := by omega
    have g : (T.tops.map V.int)[j.toNat]? = some (.int (T.tops[j.toNat])) := by rw [List.getElem?_map, List.getElem?_eq_getElem hj]; rfl
    obtain ⟨t1, t2⟩ := Tr.tops_ok ok _ (List.getElem_mem hj)
    generalize T.tops[j.toNat] = tj at g t1 t2
    refine .inl ⟨p, _, j, .int tj, rfl, rfl, SqL.of hp2, at_of (by omega) g, ?_⟩
    refine ⟨_, rfl, b, l, 70, rfl, B2, by decide, by decide, fun r G2 r0 r1 B3 k3 => .inl ⟨_, _, rfl, rfl, _, _, rfl, rfl, ?_⟩⟩
    have k13 := k1.trans (k2.trans k3)
    have hf3 := k3 f _ (k2 f _ hf1 (nb hf0)) (nb hf0)
    have hp3 := k3 p _ hp2 (nb hp)
    -- found.append(..)
    refine ⟨_, rfl, .inl ⟨rfl, _, SqL.of hf3⟩, _, rfl, _, _, rfl, _, rfl, _, _, rfl, rfl, ⟨by decide, by decide, by decide⟩, ?_⟩
    refine ⟨b, l, _, rfl, B3, by decide, by decide, fun y1 G3 y0 y2 B4 k4 => ?_⟩
    refine ⟨_, rfl, b, l, 80, rfl, B4, by decide, by decide, fun y3 G4 y4 y5 B5 k5 => ⟨two_fit.2.2.1, fun q hq => ?_⟩⟩
    refine ⟨_, rfl, b, l, 3, rfl, B5.same (same_new hq), by decide, by decide, fun y6 G5 y7 y8 B6 k6 => ?_⟩
    have nq : q ≠ b := B5.nb hq
    have hq5 := k6 q _ upd_same nq
    obtain ⟨u, hu, cu⟩ := pick3 (x := .int (if tj + r - 9 > 0 then tj + r - 9 else 0)) (y := .int y1) (z := .int y3) y7 y8
    refine .inl ⟨q, _, y6, u, rfl, rfl, SqL.of hq5, hu, ?_⟩
    have k46 := k4.trans (k5.trans ((kp_new hq).trans k6))
    have hf6 := k46 f _ hf3 (nb hf0)
    have hp6 := k46 p _ hp3 (nb hp)
    refine ⟨f, _, u, rfl, rfl, hf6, small1000 (by rw [List.length_map]; omega), ?_⟩
    have e10 : (10 : Int) ^ (30 : Int).toNat = 10 ^ 30 := rfl
    have lim : (10 : Int) ^ 30 ≤ 10 ^ 60 := by decide
    have lim2 : (10 : Int) ^ 50 + 100 ≤ 10 ^ 60 := by decide
    obtain ⟨z, rfl, hz⟩ : ∃ z, u = .int z ∧ 0 ≤ z ∧ z ≤ 10 ^ 60 := by
      rcases cu with rfl | rfl | rfl
      · refine ⟨_, rfl, ?_⟩
        split <;> omega
      · exact ⟨_, rfl, y0, by rw [e10] at y2; omega⟩
      · exact ⟨_, rfl, y4, by omega⟩
    refine ⟨_, _, ns ++ [z], rfl, (B6).put (nb hf0).symm (B.nl hf0).symm, (k13.trans k46).other hf0, by rw [upd_ne npf]; exact hp6, ?_, ?_, ?_⟩
    · rw [upd_same, List.map_append]; rfl
    · rw [List.length_append, hl]; rfl
    · intro y hy
      rcases List.mem_append.mp hy with hy | hy
      · exact hn y hy
      · rw [List.mem_singleton.mp hy]; exact hz
  · rintro σ' G' ⟨c1, c2, ns, rfl, B1, k1, hp1, hf1, hl, hn⟩
    exact ⟨_, rfl, k f ns G' hf0 hf1 hl hn B1 k1⟩
end
end Pk
set_option Elab.async false
set_option linter.all false
set_option maxRecDepth 100000
set_option maxHeartbeats 2000000
namespace Pk
open PySem PySem.Spec L2 PyProof.Rows
/-- the law: of a list of at most 63 ints it gives True -/
def sp_law (K : PySem.W.Frag) : Sp := fun vs H Q _ => ∃ (a : Addr) (ns : List Int), vs = [.ref a] ∧ SqL K H a (ns.map V.int) ∧ ns.length ≤ 63 ∧ ∀ H', Q (.bl true) H'
theorem ln_law {K : PySem.W.Frag} {vs : List V} {H : Hp} {Q : VK} {E : XK} (h : sp_law K vs H Q E) : vs.length = 1 := by obtain ⟨_, _, rfl, _⟩ := h; rfl
/-! ### data that is shown -/
theorem small_log {n : Int} (h : n.natAbs ≤ 10 ^ 100) : decide (n.natAbs.log2 < 1920) = true := by
  refine decide_eq_true ?_
  have h2 : n.natAbs < 2 ^ 1920 := by
    have z2 : (10 : Nat) ^ 100 < 2 ^ 1920 := by decide +kernel
    omega
  by_cases e : n.natAbs = 0
  · rw [e]; decide
  · exact (Nat.log2_lt e).mpr h2
theorem good_int {n : Int} (h : n.natAbs ≤ 10 ^ 100) : Good (.int n) := ⟨rfl, small_log h, by simp [siz]⟩
theorem good_bool (b : Bool) : Good (.bool b) := ⟨rfl, rfl, by cases b <;> decide⟩
theorem good_none : Good .none := ⟨rfl, rfl, by decide⟩
theorem shaped_iff {d : PyData} : SeqAt.shaped d = true ↔ d.canLay0 = true ∧ d.depth ≤ 64 := by
  constructor
  · intro h; exact ⟨SeqAt.canLay_of_shaped h, SeqAt.depth_of_shaped h⟩
  · rintro ⟨h1, h2⟩
    show (d.canLay0 && decide (d.depth ≤ 64)) = true
    rw [h1, decide_eq_true h2]; rfl
/-- items of a list or tuple: each one good to a depth and a size -/
structure GoodTo (n m : Nat) (d : PyData) : Prop where
  lay : d.canLay0 = true
  dep : d.depth ≤ n
  wr : d.showable = true
  sz : siz d ≤ m
theorem GoodTo.good {n m : Nat} {d : PyData} (g : GoodTo n m d) (h1 : n ≤ 64 := by decide) (h2 : m ≤ 16000000 := by decide) : Good d :=
  ⟨shaped_iff.mpr ⟨g.lay, Nat.le_trans g.dep h1⟩, g.wr, Nat.le_trans g.sz h2⟩
theorem GoodTo.mono {n m n' m' : Nat} {d : PyData} (g : GoodTo n m d) (h1 : n ≤ n' := by omega) (h2 : m ≤ m' := by omega) : GoodTo n' m' d := ⟨g.lay, Nat.le_trans g.dep h1, g.wr, Nat.le_trans g.sz h2⟩
theorem gt_int {n : Int} (h : n.natAbs ≤ 10 ^ 100) : GoodTo 0 2000 (.int n) := ⟨rfl, by simp [PyData.depth], small_log h, by simp [siz]⟩
theorem gt_bool (b : Bool) : GoodTo 0 8 (.bool b) := ⟨rfl, by simp [PyData.depth], rfl, by simp [siz]⟩
theorem gt_none : GoodTo 0 8 .none := ⟨rfl, by simp [PyData.depth], rfl, by simp [siz]⟩
theorem gt_tree {T : Tr} (h : T.ok) : GoodTo T.lv (5000 * T.lv) T.pd := ⟨T.pd_lay, Nat.le_trans T.pd_depth T.dp_le, T.pd_show h, by have := T.pd_siz; omega⟩
/-- all items of a list good -/
structure AllTo (n m : Nat) (ds : List PyData) : Prop where
  lay : PyData.canLayAll0 ds = true
  dep : PyData.depthAll ds ≤ n
  wr : PyData.showableAll ds = true
  sz : sizL ds ≤ m
theorem at_nil : AllTo 0 0 [] := ⟨rfl, by simp [PyData.depthAll], rfl, by simp [sizL]⟩
theorem at_cons {n m k j : Nat} {d : PyData} {ds : List PyData} (g : GoodTo n m d) (a : AllTo k j ds) : AllTo (max n k) (m + 4 + j) (d :: ds) := by
  refine ⟨?_, ?_, ?_, ?_⟩
  · simp only [PyData.canLayAll0, g.lay, a.lay, Bool.and_self]
  · have h1 := g.dep
    have h2 := a.dep
    simp only [PyData.depthAll]
    omega
  · simp only [PyData.showableAll, g.wr, a.wr, Bool.and_self]
  · have h1 := g.sz
    have h2 := a.sz
    simp only [sizL]
    omega
theorem gt_list {n m : Nat} {ds : List PyData} (a : AllTo n m ds) : GoodTo (n + 1) (8 + m) (.list ds) := by
  refine ⟨?_, ?_, ?_, ?_⟩
  · simp only [PyData.canLay0]; exact a.lay
  · have := a.dep
    simp only [PyData.depth]; omega
  · simp only [PyData.showable]; exact a.wr
  · have := a.sz
    simp only [siz]; omega
theorem gt_tuple {n m : Nat} {ds : List PyData} (a : AllTo n m ds) : GoodTo (n + 1) (8 + m) (.tuple ds) := by
  refine ⟨?_, ?_, ?_, ?_⟩
  · simp only [PyData.canLay0]; exact a.lay
  · have := a.dep
    simp only [PyData.depth]; omega
  · simp only [PyData.showable]; exact a.wr
  · have := a.sz
    simp only [siz]; omega
theorem Tr.give_le : ∀ {T : Tr} {i : Int}, T.ok → 0 ≤ i → 0 ≤ T.give i ∧ T.give i ≤ i
  | .at t q, i, h, h0 => by
    obtain ⟨h1, h2, h3, h4⟩ := h
    show 0 ≤ (if t ≤ i then i - i % q else 0) ∧ (if t ≤ i then i - i % q else 0) ≤ i
    have e1 := Int.emod_nonneg i (show q ≠ 0 by omega)
    have e2 : 0 ≤ q * (i / q) := Int.mul_nonneg (by omega) (Int.ediv_nonneg h0 (by omega))
    have e3 := Int.emod_def i q
    split <;> omega
  | .or a b, i, h, h0 => by
    have q1 := give_le h.1 h0
    have q2 := give_le h.2 h0
    rw [Tr.give_or]
    split <;> omega
  | .and a b, i, h, h0 => by
    have q1 := give_le h.1 h0
    have q2 := give_le h.2 h0
    rw [Tr.give_and]
    split <;> omega
/-! ### the drawn scale -/
theorem scale_text : ∀ n : Nat, n < 31 → PySem.intText? ("1" ++ Txt.mul "0" (n : Int)) = some (10 ^ n) ∧ (("1" : Str) ++ Txt.mul "0" (n : Int)).length ≤ 640 ∧ (Txt.mul "0" (n : Int)).length ≤ 100 := by decide +kernel
end Pk
set_option Elab.async false
set_option linter.all false
set_option maxRecDepth 100000
set_option maxHeartbeats 2000000
namespace Pk
open PySem PySem.Spec L2 PyProof.Rows
section
variable {K : PySem.W.Frag} {C : Cs} {vs : List V} {H H' G G' : Hp} {Q : VK} {E : XK} {n : Nat}
theorem Kp.free {b D : Addr} {ys : List V} (k : Kp b H G) (hb : G b = some (.lst ys)) (h : G D = none) : H D = none := by
  cases e : H D with
  | none => rfl
  | some o =>
    by_cases q : D = b
    · rw [q, hb] at h; cases h
    · rw [k D o e q] at h; cases h
theorem Kp.freeB {b l D : Addr} (k : Kp b H G) (B : Bag G b l) (h : G D = none) : H D = none := by
  obtain ⟨ys, hb⟩ := B.at
  exact k.free hb h
/-- scale = int('1' + '0' * take(bag, 31)) -/
theorem scale_asg {i j : Nat} {D : Ends} {σ : L2.St} {b l : Addr} (hv : σ[i]? = some (some (.ref b))) (B : Bag H b l) (k : ∀ sc H', 1 ≤ sc → sc ≤ 10 ^ 30 → Bag H' b l → Kp b H H' → D.nx (σ.set j (some (.int sc))) H') :
    tAsg (tCB (rIntU) (tCons (tOp (rAddU K) (tC (.str "1")) (tOp (rMulU K) (tC (.str "0")) (tCall (sp_law_take K) [] E0 (tCons (tVar i) (tCons (tC (.int 31)) tNil))))) tNil)) (gName j) D σ H := by
  refine ⟨_, hv, b, l, 31, rfl, B, by decide, by decide, fun e H2 e0 e1 B1 k1 => ?_⟩
  obtain ⟨m, rfl⟩ : ∃ m : Nat, e = (m : Int) := ⟨e.toNat, by omega⟩
  obtain ⟨q1, q2, q3⟩ := scale_text m (by omega)
  refine .inr (.inl ⟨_, _, rfl, rfl, by decide, by omega, by omega, .inr (.inl ⟨_, _, rfl, rfl, ?_, .inr ⟨_, _, rfl, q1, q2, ?_⟩⟩)⟩)
  · have e : ((Str.ofString "1").length) = 1 := rfl
    exact Nat.le_of_lt (small1000 (by omega))
  have sc1 : (1 : Int) ≤ 10 ^ m := Int.pow_pos (by decide)
  have sc2 : (10 : Int) ^ m ≤ 10 ^ 30 := by
    have h := Nat.pow_le_pow_right (n := 10) (by decide) (show m ≤ 30 by omega)
    exact_mod_cast h
  exact k _ _ sc1 sc2 B1 k1
/-! ### thresholds -/
def imin (i j : Int) : Int := if j < i then j else i
def Tr.top : Tr → Int
  | .at t q => imax t q
  | .or a b => imin (top a) (top b)
  | .and a b => imax (top a) (top b)
def Tr.by_ : Tr → List Int
  | .at _ q => [q]
  | .or a b => by_ a ++ by_ b
  | .and a b => by_ a ++ by_ b
theorem Tr.by_len : ∀ T : Tr, T.by_.length = T.lv
  | .at _ _ => rfl
  | .or a b => by show (by_ a ++ by_ b).length = _; rw [List.length_append, by_len a, by_len b]; rfl
  | .and a b => by show (by_ a ++ by_ b).length = _; rw [List.length_append, by_len a, by_len b]; rfl
theorem Tr.by_ok : ∀ {T : Tr}, T.ok → ∀ q ∈ T.by_, 1 ≤ q ∧ q ≤ 6
  | .at t q, h, i, hi => by
    obtain ⟨h1, h2, h3, h4⟩ := h
    rw [List.mem_singleton.mp hi]
    exact ⟨h3, h4⟩
  | .or a b, h, i, hi => (List.mem_append.mp hi).elim (by_ok h.1 i) (by_ok h.2 i)
  | .and a b, h, i, hi => (List.mem_append.mp hi).elim (by_ok h.1 i) (by_ok h.2 i)
theorem Tr.top_ok : ∀ {T : Tr}, T.ok → 1 ≤ T.top ∧ T.top ≤ 10 ^ 50
  | .at t q, h => by
    obtain ⟨h1, h2, h3, h4⟩ := h
    show 1 ≤ imax t q ∧ imax t q ≤ 10 ^ 50
    unfold imax
    split <;> omega
  | .or a b, h => by
    have h1 := top_ok h.1
    have h2 := top_ok h.2
    show 1 ≤ imin a.top b.top ∧ imin a.top b.top ≤ 10 ^ 50
    unfold imin
    split <;> omega
  | .and a b, h => by
    have h1 := top_ok h.1
    have h2 := top_ok h.2
    show 1 ≤ imax a.top b.top ∧ imax a.top b.top ≤ 10 ^ 50
    unfold imax
    split <;> omega
/-- [5]: what rests is below the threshold; nothing is given just below it -/
theorem Tr.rest_lt : ∀ {T : Tr} {i : Int}, T.ok → 0 ≤ i → i - T.give i < T.top ∧ (T.give i = 0 ↔ i < T.top)
  | .at t q, i, h, h0 => by
    obtain ⟨h1, h2, h3, h4⟩ := h
    have e1 := Int.emod_nonneg i (show q ≠ 0 by omega)
    have e2 := Int.emod_lt_of_pos i (show 0 < q by omega)
    have eg : (Tr.at t q).give i = if t ≤ i then i - i % q else 0 := rfl
    have et : (Tr.at t q).top = imax t q := rfl
    rw [eg, et]
    unfold imax
    by_cases c : t ≤ i
    · rw [if_pos c]
      have e3 : i < q → i % q = i := fun z => Int.emod_eq_of_lt h0 z
      constructor
      · split <;> omega
      · constructor
        · intro z
          split <;> omega
        · intro z
          split at z
          · have := e3 z; omega
          · omega
    · rw [if_neg c]
      constructor
      · split <;> omega
      · constructor
        · intro _
          split <;> omega
        · intro _; rfl
  | .or a b, i, h, h0 => by
    have q1 := rest_lt h.1 h0
    have q2 := rest_lt h.2 h0
    have g1 := Tr.give_le h.1 h0
    have g2 := Tr.give_le h.2 h0
    have et : (Tr.or a b).top = imin a.top b.top := rfl
    rw [Tr.give_or, et]
    unfold imin
    obtain ⟨r1, s1⟩ := q1
    obtain ⟨r2, s2⟩ := q2
    constructor
    · split <;> split <;> omega
    · constructor
      · intro z
        split at z <;> split <;> omega
      · intro z
        split at z <;> split <;> omega
  | .and a b, i, h, h0 => by
    have q1 := rest_lt h.1 h0
    have q2 := rest_lt h.2 h0
    have g1 := Tr.give_le h.1 h0
    have g2 := Tr.give_le h.2 h0
    have et : (Tr.and a b).top = imax a.top b.top := rfl
    rw [Tr.give_and, et]
    unfold imax
    obtain ⟨r1, s1⟩ := q1
    obtain ⟨r2, s2⟩ := q2
    constructor
    · split <;> split <;> omega
    · constructor
      · intro z
        split at z <;> split <;> omega
      · intro z
        split at z <;> split <;> omega
/-- from the threshold on a remainder by one of the multiples rests -/
theorem Tr.rest_by : ∀ {T : Tr} {i : Int}, T.ok → 0 ≤ i → T.top ≤ i → ∃ q ∈ T.by_, i - T.give i = i % q
  | .at t q, i, h, h0, hi => by
    obtain ⟨h1, h2, h3, h4⟩ := h
    have et : (Tr.at t q).top = imax t q := rfl
    have eg : (Tr.at t q).give i = if t ≤ i then i - i % q else 0 := rfl
    rw [et] at hi
    unfold imax at hi
    refine ⟨q, List.mem_singleton.mpr rfl, ?_⟩
    rw [eg, if_pos (by split at hi <;> omega)]
    omega
  | .or a b, i, h, h0, hi => by
    have q1 := rest_lt h.1 h0
    have q2 := rest_lt h.2 h0
    have g1 := Tr.give_le h.1 h0
    have g2 := Tr.give_le h.2 h0
    have et : (Tr.or a b).top = imin a.top b.top := rfl
    rw [et] at hi
    unfold imin at hi
    rw [Tr.give_or]
    have left : a.top ≤ i → ∃ q ∈ (Tr.or a b).by_, i - a.give i = i % q := fun z => by
      obtain ⟨q, m, e⟩ := rest_by h.1 h0 z
      exact ⟨q, List.mem_append_left _ m, e⟩
    have right : b.top ≤ i → ∃ q ∈ (Tr.or a b).by_, i - b.give i = i % q := fun z => by
      obtain ⟨q, m, e⟩ := rest_by h.2 h0 z
      exact ⟨q, List.mem_append_right _ m, e⟩
    obtain ⟨r1, s1⟩ := q1
    obtain ⟨r2, s2⟩ := q2
    by_cases c : b.give i > a.give i
    · rw [if_pos c]
      exact right (by omega)
    · rw [if_neg c]
      refine left ?_
      split at hi <;> omega
  | .and a b, i, h, h0, hi => by
    have g1 := Tr.give_le h.1 h0
    have g2 := Tr.give_le h.2 h0
    have et : (Tr.and a b).top = imax a.top b.top := rfl
    rw [et] at hi
    unfold imax at hi
    rw [Tr.give_and]
    by_cases c : b.give i < a.give i
    · rw [if_pos c]
      obtain ⟨q, m, e⟩ := rest_by h.2 h0 (show b.top ≤ i by split at hi <;> omega)
      exact ⟨q, List.mem_append_right _ m, e⟩
    · rw [if_neg c]
      obtain ⟨q, m, e⟩ := rest_by h.1 h0 (show a.top ≤ i by split at hi <;> omega)
      exact ⟨q, List.mem_append_left _ m, e⟩
def sp_threshold_of (K : PySem.W.Frag) (n : Nat) : Sp := fun vs H Q _ => ∃ v T, vs = [v] ∧ TrAt K H v T ∧ T.dp ≤ n ∧ Q (.int T.top) H
def t_threshold_of (K : PySem.W.Frag) (n : Nat) : TS :=
  (tSeq (tAsg (tVar 0) (gTup K 3 (gCons (gName 1) (gCons (gName 2) (gCons (gName 3) gNil)))))
    (tSeq (tIfS (tTest (tOp (rEqU K) (tVar 1) (tC (.str "at")))) (tRet (tCB (rMax2) (tCons (tVar 2) (tCons (tVar 3) tNil)))) tNext)
    (tSeq (tIfS (tTest (tOp (rEqU K) (tVar 1) (tC (.str "or")))) (tRet (tCB (rMin2) (tCons (tCall (sp_threshold_of K n) [] E0 (tCons (tVar 2) tNil)) (tCons (tCall (sp_threshold_of K n) [] E0 (tCons (tVar 3) tNil)) tNil)))) tNext)
    (tRet (tCB (rMax2) (tCons (tCall (sp_threshold_of K n) [] E0 (tCons (tVar 2) tNil)) (tCons (tCall (sp_threshold_of K n) [] E0 (tCons (tVar 3) tNil)) tNil)))))))
theorem no_threshold_of (h : sp_threshold_of K 0 vs H Q E) : False := by
  obtain ⟨_, T, _, _, h, _⟩ := h
  have := T.dp_pos
  omega
theorem ln_threshold_of (h : sp_threshold_of K n vs H Q E) : vs.length = 1 := by obtain ⟨_, _, rfl, _⟩ := h; rfl
theorem rd_threshold_of (h : sp_threshold_of K (n + 1) vs H Q E) : t_threshold_of K n (EndsOf Q) (start ["", "", "", ""] vs) H := by
  obtain ⟨v, T, rfl, hT, hd, k⟩ := h
  obtain ⟨a, w, x, y, rfl, s, cw⟩ := hT.tuple
  refine ⟨_, rfl, g3 s ?_⟩
  refine ⟨_, rfl, .inl ⟨rfl, _, rfl, ?_⟩⟩
  rcases cw with ⟨rfl, t, q, rfl, rfl, rfl⟩ | ⟨rfl, A, B, rfl, hA, hB⟩ | ⟨rfl, A, B, rfl, hA, hB⟩
  · refine ifS (fun _ => ?_) (fun z => absurd rfl z)
    exact ⟨_, rfl, _, rfl, _, _, rfl, k⟩
  · refine ifS (fun z => absurd z or_at) (fun _ => ?_)
    refine ⟨_, rfl, .inl ⟨rfl, _, rfl, ?_⟩⟩
    refine ifS (fun _ => ?_) (fun z => absurd rfl z)
    have hd' : max A.dp B.dp + 1 ≤ n + 1 := hd
    exact ⟨_, rfl, x, A, rfl, hA, by omega, _, rfl, y, B, rfl, hB, by omega, _, _, rfl, k⟩
  · refine ifS (fun z => absurd z and_at) (fun _ => ?_)
    refine ⟨_, rfl, .inl ⟨rfl, _, rfl, ?_⟩⟩
    refine ifS (fun z => absurd z and_or) (fun _ => ?_)
    have hd' : max A.dp B.dp + 1 ≤ n + 1 := hd
    exact ⟨_, rfl, x, A, rfl, hA, by omega, _, rfl, y, B, rfl, hB, by omega, _, _, rfl, k⟩
def sp_Rule_threshold (K : PySem.W.Frag) (C : Cs) : Sp := fun vs H Q _ => ∃ v T, vs = [v] ∧ RuleAt K C H v T ∧ Q (.int T.top) H
def t_Rule_threshold (K : PySem.W.Frag) : TS :=
  (tRet (tCall (sp_threshold_of K 7) [] E0 (tCons (tFld K (tVar 0) "_tree") tNil)))
theorem ln_Rule_threshold (h : sp_Rule_threshold K C vs H Q E) : vs.length = 1 := by obtain ⟨_, _, rfl, _⟩ := h; rfl
theorem rd_Rule_threshold (h : sp_Rule_threshold K C vs H Q E) : t_Rule_threshold K (EndsOf Q) (start [""] vs) H := by
  obtain ⟨v, T, rfl, ⟨a, dx, u, rfl, ha, hT, ok, l6, fx⟩, k⟩ := h
  exact ⟨_, rfl, a, _, dx, _, u, rfl, ha, fx.cl, fx.no, rfl, u, T, rfl, hT, Tr.dp6 l6, k⟩
def sp_law_threshold (K : PySem.W.Frag) (n : Nat) : Sp := fun vs H Q _ => ∃ v T, vs = [v] ∧ TrAt K H v T ∧ T.dp ≤ n ∧ ∀ H', Same H H' → Q (.int T.top) H'
def t_law_threshold (K : PySem.W.Frag) (n : Nat) : TS :=
  (tSeq (tAsg (tVar 0) (gTup K 3 (gCons (gName 1) (gCons (gName 2) (gCons (gName 3) gNil)))))
    (tSeq (tIfS (tTest (tOp (rEqU K) (tVar 1) (tC (.str "at")))) (tRet (tCB (rMax2) (tCons (tVar 2) (tCons (tVar 3) tNil)))) tNext)
    (tSeq (tAsg (tLst (tCons (tCall (sp_law_threshold K n) [] E0 (tCons (tVar 2) tNil)) (tCons (tCall (sp_law_threshold K n) [] E0 (tCons (tVar 3) tNil)) tNil))) (gName 4))
    (tRet (tIf (tTest (tOp (rEqU K) (tVar 1) (tC (.str "or")))) (tCB (rMin K) (tCons (tVar 4) tNil)) (tCB (rMax K) (tCons (tVar 4) tNil)))))))
theorem no_law_threshold (h : sp_law_threshold K 0 vs H Q E) : False := by
  obtain ⟨_, T, _, _, h, _⟩ := h
  have := T.dp_pos
  omega
theorem ln_law_threshold (h : sp_law_threshold K n vs H Q E) : vs.length = 1 := by obtain ⟨_, _, rfl, _⟩ := h; rfl
theorem two_max {x y m : Int} (hm : m ∈ [x, y]) (hy : ∀ z, z ∈ [x, y] → z ≤ m) : m = imax x y := by
  have h1 := hy x (List.mem_cons_self ..)
  have h2 := hy y (List.mem_cons_of_mem _ (List.mem_cons_self ..))
  unfold imax
  rcases List.mem_cons.mp hm with rfl | hm
  · split <;> omega
  · have := List.mem_singleton.mp hm
    split <;> omega
theorem two_min {x y m : Int} (hm : m ∈ [x, y]) (hy : ∀ z, z ∈ [x, y] → m ≤ z) : m = imin x y := by
  have h1 := hy x (List.mem_cons_self ..)
  have h2 := hy y (List.mem_cons_of_mem _ (List.mem_cons_self ..))
  unfold imin
  rcases List.mem_cons.mp hm with rfl | hm
  · split <;> omega
  · have := List.mem_singleton.mp hm
    split <;> omega
theorem rd_law_threshold (h : sp_law_threshold K (n + 1) vs H Q E) : t_law_threshold K n (EndsOf Q) (start ["", "", "", "", ""] vs) H := by
  obtain ⟨v, T, rfl, hT, hd, k⟩ := h
  obtain ⟨a, w, x, y, rfl, s, cw⟩ := hT.tuple
  refine ⟨_, rfl, g3 s ?_⟩
  refine ⟨_, rfl, .inl ⟨rfl, _, rfl, ?_⟩⟩
  rcases cw with ⟨rfl, t, q, rfl, rfl, rfl⟩ | ⟨rfl, A, B, rfl, hA, hB⟩ | ⟨rfl, A, B, rfl, hA, hB⟩
  · refine ifS (fun _ => ?_) (fun z => absurd rfl z)
    exact ⟨_, rfl, _, rfl, _, _, rfl, k H (Same.refl H)⟩
  · refine ifS (fun z => absurd z or_at) (fun _ => ?_)
    have hd' : max A.dp B.dp + 1 ≤ n + 1 := hd
    refine ⟨_, rfl, x, A, rfl, hA, by omega, fun H1 s1 => ⟨_, rfl, y, B, rfl, hB.mono (Tups.same s1), by omega, fun H2 s2 => ⟨two_fit.2.1, fun p hp => ?_⟩⟩⟩
    refine ⟨_, rfl, .inl ⟨rfl, _, rfl, ?_⟩⟩
    refine ifS (fun _ => ?_) (fun z => absurd rfl z)
    refine ⟨_, rfl, p, [A.top, B.top], rfl, SqL.of upd_same, Nat.succ_pos _, fun m hm hy => ?_⟩
    rw [two_min hm hy]
    exact k _ ((s1.trans s2).trans (same_new hp))
  · refine ifS (fun z => absurd z and_at) (fun _ => ?_)
    have hd' : max A.dp B.dp + 1 ≤ n + 1 := hd
    refine ⟨_, rfl, x, A, rfl, hA, by omega, fun H1 s1 => ⟨_, rfl, y, B, rfl, hB.mono (Tups.same s1), by omega, fun H2 s2 => ⟨two_fit.2.1, fun p hp => ?_⟩⟩⟩
    refine ⟨_, rfl, .inl ⟨rfl, _, rfl, ?_⟩⟩
    refine ifS (fun z => absurd z and_or) (fun _ => ?_)
    refine ⟨_, rfl, p, [A.top, B.top], rfl, SqL.of upd_same, Nat.succ_pos _, fun m hm hy => ?_⟩
    rw [two_max hm hy]
    exact k _ ((s1.trans s2).trans (same_new hp))
def sp_law_parts_of (K : PySem.W.Frag) (n : Nat) : Sp := fun vs H Q _ => ∃ v T, vs = [v] ∧ TrAt K H v T ∧ T.dp ≤ n ∧ T.lv ≤ 100 ∧ ∀ p H', H p = none → Same H H' → H' p = some (.lst (T.by_.map V.int)) → Q (.ref p) H'
def t_law_parts_of (K : PySem.W.Frag) (n : Nat) : TS :=
  (tSeq (tAsg (tVar 0) (gTup K 3 (gCons (gName 1) (gCons (gName 2) (gCons (gName 3) gNil)))))
    (tRet (tIf (tTest (tOp (rEqU K) (tVar 1) (tC (.str "at")))) (tLst (tCons (tVar 3) tNil)) (tOp (rAddU K) (tCall (sp_law_parts_of K n) [] E0 (tCons (tVar 2) tNil)) (tCall (sp_law_parts_of K n) [] E0 (tCons (tVar 3) tNil))))))
theorem no_law_parts_of (h : sp_law_parts_of K 0 vs H Q E) : False := by
  obtain ⟨_, T, _, _, h, _⟩ := h
  have := T.dp_pos
  omega
theorem ln_law_parts_of (h : sp_law_parts_of K n vs H Q E) : vs.length = 1 := by obtain ⟨_, _, rfl, _⟩ := h; rfl
theorem rd_law_parts_of (h : sp_law_parts_of K (n + 1) vs H Q E) : t_law_parts_of K n (EndsOf Q) (start ["", "", "", ""] vs) H := by
  obtain ⟨v, T, rfl, hT, hd, hl, k⟩ := h
  obtain ⟨a, w, x, y, rfl, s, cw⟩ := hT.tuple
  refine ⟨_, rfl, g3 s ?_⟩
  refine ⟨_, rfl, .inl ⟨rfl, _, rfl, ?_⟩⟩
  have two : ∀ {A B : Tr}, T.by_ = A.by_ ++ B.by_ → T.lv = A.lv + B.lv → max A.dp B.dp + 1 ≤ n + 1 → TrAt K H x A → TrAt K H y B →
      tOp (rAddU K) (tCall (sp_law_parts_of K n) [] E0 (tCons (tVar 2) tNil)) (tCall (sp_law_parts_of K n) [] E0 (tCons (tVar 3) tNil)) [some (.ref a), some (.str w), some x, some y] H Q := by
    intro A B e1 e2 hd' hA hB
    refine ⟨_, rfl, x, A, rfl, hA, by omega, by omega, fun p H1 hp s1 h1 => ?_⟩
    refine ⟨_, rfl, y, B, rfl, hB.mono (Tups.same s1), by omega, by omega, fun p2 H2 hp2 s2 h2 => ?_⟩
    refine .inr (.inr (.inl ⟨p, p2, _, _, rfl, rfl, s2 _ _ h1, h2, ?_, fun r hr => ?_⟩))
    · rw [List.length_map, List.length_map, A.by_len, B.by_len]
      exact Nat.le_of_lt (small1000 (by omega))
    · refine k r _ ((s1.trans s2).free hr) ((s1.trans s2).trans (same_new hr)) ?_
      rw [upd_same, e1, List.map_append]
  rcases cw with ⟨rfl, t, q, rfl, rfl, rfl⟩ | ⟨rfl, A, B, rfl, hA, hB⟩ | ⟨rfl, A, B, rfl, hA, hB⟩
  · refine ifS (fun _ => ?_) (fun z => absurd rfl z)
    exact ⟨_, rfl, two_fit.1, fun p hp => k p _ hp (same_new hp) upd_same⟩
  · refine ifS (fun z => absurd z or_at) (fun _ => ?_)
    exact two rfl rfl hd hA hB
  · refine ifS (fun z => absurd z and_at) (fun _ => ?_)
    exact two rfl rfl hd hA hB
theorem inV_int {r : Int} {ns : List Int} (h : r ∈ ns) : inV (.int r) (ns.map V.int) = true := by
  unfold inV
  rw [List.any_map]
  exact List.any_eq_true.mpr ⟨r, h, by show (r == r) = true; exact beq_self_eq_true r⟩
theorem flat_ints (ns : List Int) : (ns.map V.int).all flatV = true := by
  induction ns with
  | nil => rfl
  | cons x r ih => exact ih
end
end Pk
set_option Elab.async false
set_option linter.all false
set_option maxRecDepth 100000
set_option maxHeartbeats 2000000
namespace Pk
open PySem PySem.Spec L2 PyProof.Rows
/-! ### amounts of one size, one after another -/
/-- what is withheld behind so many amounts of size z -/
def Tr.kp (T : Tr) (z w : Int) : Nat → Int
  | 0 => w
  | n + 1 => (kp T z w n + z) - T.give (kp T z w n + z)
/-- the greatest that is withheld ahead of one of them -/
def Tr.pk (T : Tr) (z w : Int) : Nat → Int
  | 0 => 0
  | n + 1 => max (pk T z w n) (kp T z w n)
section
variable {T : Tr} {z w : Int}
theorem Tr.kp_s (n : Nat) : T.kp z w (n + 1) = (T.kp z w n + z) - T.give (T.kp z w n + z) := rfl
theorem Tr.pk_s (n : Nat) : T.pk z w (n + 1) = max (T.pk z w n) (T.kp z w n) := rfl
theorem Tr.kp_add (n : Nat) : ∀ m : Nat, T.kp z w (n + m) = T.kp z (T.kp z w n) m
  | 0 => rfl
  | m + 1 => by
    show (T.kp z w (n + m) + z) - T.give (T.kp z w (n + m) + z) = _
    rw [kp_add n m]
    rfl
theorem Tr.pk_nn : ∀ n : Nat, 0 ≤ T.pk z w n
  | 0 => Int.le_refl _
  | n + 1 => by
    have := pk_nn n
    show 0 ≤ max (T.pk z w n) (T.kp z w n)
    omega
theorem Tr.pk_add (n : Nat) : ∀ m : Nat, T.pk z w (n + m) = max (T.pk z w n) (T.pk z (T.kp z w n) m)
  | 0 => by
    have := Tr.pk_nn (T := T) (z := z) (w := w) n
    show T.pk z w n = max (T.pk z w n) 0
    omega
  | m + 1 => by
    show max (T.pk z w (n + m)) (T.kp z w (n + m)) = max (T.pk z w n) (max (T.pk z (T.kp z w n) m) (T.kp z (T.kp z w n) m))
    rw [pk_add n m, Tr.kp_add]
    omega
theorem Tr.kp_ok (ok : T.ok) (z1 : 1 ≤ z) (w0 : 0 ≤ w) (w1 : w < T.top) : ∀ n : Nat, 0 ≤ T.kp z w n ∧ T.kp z w n < T.top
  | 0 => ⟨w0, w1⟩
  | n + 1 => by
    obtain ⟨h1, h2⟩ := kp_ok ok z1 w0 w1 n
    have g := Tr.give_le ok (show 0 ≤ T.kp z w n + z by omega)
    have r := Tr.rest_lt ok (show 0 ≤ T.kp z w n + z by omega)
    rw [Tr.kp_s]
    omega
theorem Tr.pk_lt (ok : T.ok) (z1 : 1 ≤ z) (w0 : 0 ≤ w) (w1 : w < T.top) : ∀ n : Nat, T.pk z w n < T.top
  | 0 => by
    show 0 < T.top
    omega
  | n + 1 => by
    have h := pk_lt ok z1 w0 w1 n
    have h2 := Tr.kp_ok ok z1 w0 w1 n
    rw [Tr.pk_s]
    omega
theorem Tr.kp_le (ok : T.ok) (z1 : 1 ≤ z) (w0 : 0 ≤ w) : ∀ n : Nat, 0 ≤ T.kp z w n ∧ T.kp z w n ≤ w + n * z
  | 0 => by
    show 0 ≤ w ∧ w ≤ w + 0 * z
    omega
  | n + 1 => by
    obtain ⟨h1, h2⟩ := kp_le ok z1 w0 n
    have g := Tr.give_le ok (show 0 ≤ T.kp z w n + z by omega)
    rw [Tr.kp_s, Int.natCast_add, Int.add_mul]
    omega
theorem Tr.kp_few (ok : T.ok) (z1 : 1 ≤ z) (w0 : 0 ≤ w) : ∀ n : Nat, w + (n : Int) * z < T.top → T.kp z w n = w + n * z ∧ T.pk z w (n + 1) = w + n * z
  | 0, h => by
    show w = w + 0 * z ∧ max 0 w = w + 0 * z
    omega
  | n + 1, h => by
    have e : ((n + 1 : Nat) : Int) * z = n * z + z := by rw [Int.natCast_add, Int.add_mul]; omega
    have nz : 0 ≤ (n : Int) * z := Int.mul_nonneg (by omega) (by omega)
    rw [e] at h ⊢
    obtain ⟨h1, h2⟩ := kp_few ok z1 w0 n (by omega)
    have r := (Tr.rest_lt ok (show 0 ≤ w + n * z + z by omega)).2.mpr (by omega)
    have e1 : T.kp z w (n + 1) = w + (n * z + z) := by
      rw [Tr.kp_s, h1, r]
      omega
    refine ⟨e1, ?_⟩
    rw [Tr.pk_s, h2, e1]
    omega
theorem Tr.kp_loop {d : Nat} (h : T.kp z w d = w) : ∀ t : Nat, T.kp z w (t * d) = w ∧ T.pk z w (t * d) ≤ T.pk z w d
  | 0 => by
    have := Tr.pk_nn (T := T) (z := z) (w := w) d
    rw [Nat.zero_mul]
    exact ⟨rfl, this⟩
  | t + 1 => by
    obtain ⟨h1, h2⟩ := kp_loop h t
    rw [Nat.succ_mul, Tr.kp_add, Tr.pk_add, h1, h]
    omega
end
/-- how many amounts, until the rule gives -/
theorem steps_ok {a z : Int} (h : 1 ≤ a) (z1 : 1 ≤ z) : 1 ≤ (a + z - 1) / z ∧ a ≤ (a + z - 1) / z * z ∧ ((a + z - 1) / z - 1) * z < a ∧ (a + z - 1) / z ≤ a + z - 1 := by
  have e := Int.emod_def (a + z - 1) z
  have r0 := Int.emod_nonneg (a + z - 1) (show z ≠ 0 by omega)
  have r1 := Int.emod_lt_of_pos (a + z - 1) (show 0 < z by omega)
  have s := Int.ediv_le_self z (show 0 ≤ a + z - 1 by omega)
  generalize (a + z - 1) / z = q at *
  have e2 : z * q = q * z := Int.mul_comm _ _
  have e3 : (q - 1) * z = q * z - z := by rw [Int.sub_mul]; omega
  refine ⟨?_, by omega, by omega, s⟩
  by_cases c : 1 ≤ q
  · exact c
  · have : q * z ≤ 0 := Int.mul_nonpos_of_nonpos_of_nonneg (by omega) (by omega)
    omega
theorem mul_ok {i j : Int} (h1 : i.natAbs ≤ 10 ^ 100) (h2 : j.natAbs ≤ 10 ^ 100) : CMul i j ∨ CMulW i j := by
  have z2 : (10 : Nat) ^ 100 < 2 ^ 1000 := by decide +kernel
  exact .inr (wide_mul (a := 1000) (b := 1000) (by omega) (by omega) (by decide) (by decide) (by decide))
/-- where the loop stands, by numbers alone -/
structure Rp (T : Tr) (z w : Int) (M L : Nat) (c t p : Int) : Prop where
  c0 : 0 ≤ c
  c1 : c < T.top
  p0 : 0 ≤ p
  le : L ≤ M
  kp : T.kp z w M = T.kp z c L
  tot : w + M * z = t + c + L * z
  pk : max w (T.pk z w M) = max p (T.pk z c L)
section
variable {T : Tr} {z w : Int} {M L : Nat} {c t p : Int}
theorem Rp.give (R : Rp T z w M L c t p) (ok : T.ok) (z1 : 1 ≤ z) {n : Nat} (h1 : c + n * z < T.top) (hL : n + 1 ≤ L) {c' : Int} (hc : c' = c + ((n + 1 : Nat) : Int) * z - T.give (c + ((n + 1 : Nat) : Int) * z)) :
    c' = T.kp z c (n + 1) ∧ T.pk z c (n + 1) = c + n * z ∧ Rp T z w M (L - (n + 1)) c' (t + (c + ((n + 1 : Nat) : Int) * z) - c') (max p (c + n * z)) := by
  obtain ⟨q1, q2⟩ := Tr.kp_few ok z1 R.c0 n h1
  have e : ((n + 1 : Nat) : Int) * z = n * z + z := by rw [Int.natCast_add, Int.add_mul]; omega
  have ec : c' = T.kp z c (n + 1) := by
    rw [Tr.kp_s, q1, hc, e, ← Int.add_assoc]
  obtain ⟨b0, b1⟩ := Tr.kp_ok ok z1 R.c0 R.c1 (n + 1)
  have el : ((L - (n + 1) : Nat) : Int) * z = L * z - ((n + 1 : Nat) : Int) * z := by
    rw [Int.ofNat_sub hL, Int.sub_mul]
  have sp : L = (n + 1) + (L - (n + 1)) := by omega
  refine ⟨ec, q2, ⟨by omega, by omega, ?_, by have := R.le; omega, ?_, ?_, ?_⟩⟩
  · have := R.p0; omega
  · rw [R.kp, ec, ← Tr.kp_add, ← sp]
  · have := R.tot
    rw [el]
    omega
  · rw [R.pk, ec]
    have h : T.pk z c L = max (T.pk z c (n + 1)) (T.pk z (T.kp z c (n + 1)) (L - (n + 1))) := by
      rw [← Tr.pk_add, ← sp]
    rw [h, q2]
    omega
theorem Rp.skip (R : Rp T z w M L c t p) {d : Nat} (hk : T.kp z c d = c) (hp : T.pk z c d ≤ p) (d1 : 1 ≤ d) : Rp T z w M (L - L / d * d) c (t + (((L / d * d : Nat) : Int)) * z) p := by
  have le : L / d * d ≤ L := Nat.div_mul_le_self L d
  obtain ⟨h1, h2⟩ := Tr.kp_loop hk (L / d)
  have sp : L = L / d * d + (L - L / d * d) := by omega
  refine ⟨R.c0, R.c1, R.p0, by have := R.le; omega, ?_, ?_, ?_⟩
  · have h : T.kp z c L = T.kp z (T.kp z c (L / d * d)) (L - L / d * d) := by rw [← Tr.kp_add, ← sp]
    rw [R.kp, h, h1]
  · have := R.tot
    rw [Int.ofNat_sub le, Int.sub_mul]
    omega
  · have h : T.pk z c L = max (T.pk z c (L / d * d)) (T.pk z (T.kp z c (L / d * d)) (L - L / d * d)) := by rw [← Tr.pk_add, ← sp]
    have := Tr.pk_nn (T := T) (z := z) (w := c) (L - L / d * d)
    rw [R.pk, h, h1]
    omega
end
/-! ### what was seen -/
def Seen (lo : Nat) (K : PySem.W.Frag) (T : Tr) (z : Int) (G : Hp) (kvs : List (Key × V)) (L : Nat) (c t p : Int) : Prop :=
  ∀ i v, valV kvs (.inl i) = some v → ∃ (a : Addr) (l' t' : Int) (e : Nat), v = .ref a ∧ SqT K G a [.int l', .int t'] ∧ l' = (L : Int) + e ∧ T.kp z i e = c ∧ i + e * z = t - t' + c ∧ T.pk z i e ≤ p ∧ lo ≤ e ∧ l' ≤ 10 ^ 40
section
variable {K : PySem.W.Frag} {T : Tr} {z w : Int} {M L : Nat} {c t p : Int} {G G' : Hp} {kvs : List (Key × V)}
theorem Seen.weak {lo : Nat} (S : Seen lo K T z G kvs L c t p) : Seen 0 K T z G kvs L c t p := fun i v h => by
  obtain ⟨a, l', t', e, h1, h2, h3, h4, h5, h6, h7, h8⟩ := S i v h
  exact ⟨a, l', t', e, h1, h2, h3, h4, h5, h6, Nat.zero_le _, h8⟩
theorem Seen.mono {lo : Nat} (S : Seen lo K T z G kvs L c t p) (s : Tups K G G') : Seen lo K T z G' kvs L c t p := fun i v h => by
  obtain ⟨a, l', t', e, h1, h2, r⟩ := S i v h
  exact ⟨a, l', t', e, h1, s _ _ h2, r⟩
/-- from here so many amounts on -/
theorem Seen.go {lo : Nat} (S : Seen lo K T z G kvs L c t p) {n : Nat} {c' t' p' : Int} (hL : n ≤ L) (hc : c' = T.kp z c n) (hp : p ≤ p') (hp2 : T.pk z c n ≤ p') (ht : c + n * z = t' - t + c') : Seen n K T z G kvs (L - n) c' t' p' := fun i v h => by
  obtain ⟨a, l', t0, e, h1, h2, h3, h4, h5, h6, h7, h8⟩ := S i v h
  refine ⟨a, l', t0, e + n, h1, h2, by omega, ?_, ?_, ?_, by omega, h8⟩
  · rw [Tr.kp_add, h4, hc]
  · rw [Int.natCast_add, Int.add_mul]
    omega
  · rw [Tr.pk_add, h4]
    omega
theorem Seen.put (S : Seen 0 K T z G kvs L c t p) (hp : 0 ≤ p) (hL : (L : Int) ≤ 10 ^ 40) {a : Addr} (ha : SqT K G a [.int L, .int t]) : Seen 0 K T z G (putK kvs (.inl c) (.ref a)) L c t p := fun i v h => by
  rw [valV_put] at h
  by_cases e : i = c
  · subst e
    rw [if_pos rfl] at h
    cases h
    exact ⟨a, L, t, 0, rfl, ha, by omega, rfl, by omega, hp, Nat.le_refl _, hL⟩
  · rw [if_neg (fun z => e (Sum.inl.inj z))] at h
    exact S i v h
def bit (o : Option V) : Nat := if o.isSome = true then 1 else 0
def cnt (kvs : List (Key × V)) : Nat := bit (valV kvs (.inl 0)) + bit (valV kvs (.inl 1)) + bit (valV kvs (.inl 2)) + bit (valV kvs (.inl 3)) + bit (valV kvs (.inl 4)) + bit (valV kvs (.inl 5))
theorem bit_le (o : Option V) : bit o ≤ 1 := by unfold bit; split <;> omega
theorem cnt_le (kvs : List (Key × V)) : cnt kvs ≤ 6 := by
  unfold cnt
  have h0 := bit_le (valV kvs (.inl 0))
  have h1 := bit_le (valV kvs (.inl 1))
  have h2 := bit_le (valV kvs (.inl 2))
  have h3 := bit_le (valV kvs (.inl 3))
  have h4 := bit_le (valV kvs (.inl 4))
  have h5 := bit_le (valV kvs (.inl 5))
  omega
theorem cnt_put {v : V} (h : valV kvs (.inl c) = none) (h0 : 0 ≤ c) (h1 : c < 6) (hl : kvs.length ≤ cnt kvs) : (putK kvs (.inl c) v).length ≤ cnt (putK kvs (.inl c) v) := by
  have e : (putK kvs (.inl c) v).length = kvs.length + 1 := by rw [putK_new v h, List.length_append]; rfl
  have b : ∀ j : Int, bit (valV (putK kvs (.inl c) v) (.inl j)) = if j = c then 1 else bit (valV kvs (.inl j)) := fun j => by
    rw [valV_put]
    by_cases q : j = c
    · rw [if_pos q, if_pos (congrArg Sum.inl q)]; rfl
    · rw [if_neg q, if_neg (fun z => q (Sum.inl.inj z))]
  have n : bit (valV kvs (.inl c)) = 0 := by rw [h]; rfl
  rw [e]
  unfold cnt at hl ⊢
  rw [b, b, b, b, b, b]
  rcases (by omega : c = 0 ∨ c = 1 ∨ c = 2 ∨ c = 3 ∨ c = 4 ∨ c = 5) with rfl | rfl | rfl | rfl | rfl | rfl <;> (simp only [if_true, reduceIte, Int.reduceEq] ; omega)
end
section
variable {K : PySem.W.Frag} {C : Cs} {vs : List V} {H H' G G' : Hp} {Q : VK} {E : XK} {n : Nat}
theorem g2 {i j : Nat} {a : Addr} {σ : L2.St} {R : L2.St → Hp → Prop} {x y : V} (s : SqT K H a [x, y]) (h : R ((σ.set i (some x)).set j (some y)) H) :
    gTup K 2 (gCons (gName i) (gCons (gName j) gNil)) (.ref a) σ H R := ⟨a, _, rfl, s, rfl, _, _, rfl, _, _, rfl, rfl, h⟩
def sp_steps_to_give (K : PySem.W.Frag) (C : Cs) : Sp := fun vs H Q _ => ∃ u T w z, vs = [u, .int w, .int z] ∧ RuleAt K C H u T ∧ 1 ≤ z ∧ z ≤ 10 ^ 40 ∧ Q (.int ((T.top - w + z - 1) / z)) H
def t_steps_to_give (K : PySem.W.Frag) (C : Cs) : TS :=
  (tRet (tOp (rDivI) (tOp (rSubI) (tOp (rAddU K) (tOp (rSubI) (tProp C.Rule (sp_Rule_threshold K C) [] E0 (tVar 0)) (tVar 1)) (tVar 2)) (tC (.int 1))) (tVar 2)))
theorem ln_steps_to_give (h : sp_steps_to_give K C vs H Q E) : vs.length = 3 := by obtain ⟨_, _, _, _, rfl, _⟩ := h; rfl
theorem rd_steps_to_give (h : sp_steps_to_give K C vs H Q E) : t_steps_to_give K C (EndsOf Q) (start ["", "", ""] vs) H := by
  obtain ⟨u, T, w, z, rfl, R, z1, z2, k⟩ := h
  obtain ⟨ua, ud, uu, rfl, hu1, _⟩ := id R
  refine ⟨_, rfl, ua, ud, _, rfl, hu1, _, T, rfl, R, _, rfl, _, _, rfl, rfl, _, rfl, .inl ⟨_, _, rfl, rfl, _, _, rfl, rfl, _, rfl, _, _, rfl, rfl, div_ok (by omega) (by omega), k⟩⟩
def sp_repeated (K : PySem.W.Frag) (C : Cs) : Sp := fun vs H Q _ => ∃ u T w z m, vs = [u, .int w, .int z, .int m] ∧ RuleAt K C H u T ∧ 0 ≤ w ∧ w < T.top ∧ 1 ≤ z ∧ z ≤ 10 ^ 40 ∧ 0 ≤ m ∧ m ≤ 10 ^ 40 ∧
  ∀ p H', H p = none → Same H H' → SqT K H' p [.int (T.kp z w m.toNat), .int (w + m * z - T.kp z w m.toNat), .int (max w (T.pk z w m.toNat))] → Q (.ref p) H'
def t_repeated (K : PySem.W.Frag) (C : Cs) : TS :=
  (tSeq (tAsg tDNewK (gName 4))
    (tSeq (tPar3 5 6 7 (tCons (tVar 3) (tCons (tC (.int 0)) (tCons (tVar 1) tNil))))
    (tSeq (tAsg (tCall (sp_steps_to_give K C) [] E0 (tCons (tVar 0) (tCons (tVar 1) (tCons (tVar 2) tNil)))) (gName 8))
    (tSeq (tWhile (tTest (tOp (rGeI) (tVar 5) (tVar 8))) (tSeq (tAsg (tCB (rMax2) (tCons (tVar 7) (tCons (tOp (rAddU K) (tVar 1) (tOp (rMulU K) (tOp (rSubI) (tVar 8) (tC (.int 1))) (tVar 2))) tNil))) (gName 7))
    (tSeq (tAsg (tOp (rAddU K) (tVar 1) (tOp (rMulU K) (tVar 8) (tVar 2))) (gName 9))
    (tSeq (tAsg (tMeth C.Rule "rest" (sp_Rule_rest K C) [] E0 (tVar 0) (tCons (tVar 9) tNil)) (gName 1))
    (tSeq (tPar 5 6 (tCons (tOp (rSubI) (tVar 5) (tVar 8)) (tCons (tOp (rSubI) (tOp (rAddU K) (tVar 6) (tVar 9)) (tVar 1)) tNil)))
    (Evl.tCut (tIfS (tB (tDIn (tVar 1) (tVar 4))) (tSeq (tAsg (tDGet (tVar 4) (tVar 1)) (gTup K 2 (gCons (gName 10) (gCons (gName 11) gNil))))
    (tSeq (tAsg (tOp (rDivI) (tVar 5) (tOp (rSubI) (tVar 10) (tVar 5))) (gName 12))
    (tPar 5 6 (tCons (tOp (rSubI) (tVar 5) (tOp (rMulU K) (tVar 12) (tOp (rSubI) (tVar 10) (tVar 5)))) (tCons (tOp (rAddU K) (tVar 6) (tOp (rMulU K) (tVar 12) (tOp (rSubI) (tVar 6) (tVar 11)))) tNil))))) (tAsg (tTup (tCons (tVar 5) (tCons (tVar 6) tNil))) (gSub (tVar 4) (tVar 1) rSetD)))
    (tAsg (tCall (sp_steps_to_give K C) [] E0 (tCons (tVar 0) (tCons (tVar 1) (tCons (tVar 2) tNil)))) (gName 8))))))))
    (Evl.tCut (tIfS (tTest (tOp (rGtI) (tVar 5) (tC (.int 0)))) (tAsg (tCB (rMax2) (tCons (tVar 7) (tCons (tOp (rAddU K) (tVar 1) (tOp (rMulU K) (tOp (rSubI) (tVar 5) (tC (.int 1))) (tVar 2))) tNil))) (gName 7)) tNext)
    (tRet (tTup (tCons (tOp (rAddU K) (tVar 1) (tOp (rMulU K) (tVar 5) (tVar 2))) (tCons (tVar 6) (tCons (tVar 7) tNil))))))))))
theorem ln_repeated (h : sp_repeated K C vs H Q E) : vs.length = 4 := by obtain ⟨_, _, _, _, _, rfl, _⟩ := h; rfl
theorem other_same {D : Addr} {o : HO} (s : Same H G) (h : H D = none) : Same H (upd G D o) := fun b u q => by
  rw [upd_ne (ne_of_none q h)]
  exact s b u q
theorem dk_tups {D : Addr} {o : HO} {kvs : List (Key × V)} (h : G D = some (.dK kvs)) : Tups K G (upd G D o) := Tups.put h (fun _ z => nomatch z) fun _ _ z => nomatch z
theorem imax_eq (i j : Int) : (if j > i then j else i) = max i j := by
  split <;> omega
theorem rd_repeated (h : sp_repeated K C vs H Q E) : t_repeated K C (EndsOf Q) (start ["", "", "", "", "", "", "", "", "", "", "", "", ""] vs) H := by
  obtain ⟨u, T, w, z, m, rfl, R, w0, w1, z1, z2, m0, m2, k⟩ := h
  obtain ⟨M, rfl⟩ : ∃ M : Nat, m = M := ⟨m.toNat, by omega⟩
  obtain ⟨ua, ud, uu, rfl, hu1, hT, ok, l6, fx⟩ := id R
  obtain ⟨t1, t2⟩ := Tr.top_ok ok
  refine fun D hD => ⟨_, rfl, _, rfl, _, _, _, rfl, ?_⟩
  have s1 := same_new (o := .dK []) hD
  refine ⟨_, rfl, _, rfl, _, rfl, .ref ua, T, w, z, rfl, R.same s1, z1, z2, ?_⟩
  refine ⟨fun mm σ' G => ∃ (L : Nat) (c t p : Int) (kvs : List (Key × V)) (s9 s10 s11 s12 : Option V), σ' = [some (.ref ua), some (.int c), some (.int z), some (.int M), some (.ref D), some (.int L), some (.int t), some (.int p), some (.int ((T.top - c + z - 1) / z)), s9, s10, s11, s12] ∧
    L = mm ∧ Same H G ∧ G D = some (.dK kvs) ∧ kvs.length ≤ cnt kvs ∧ Rp T z w M L c t p ∧ Seen 0 K T z G kvs L c t p,
    ⟨_, M, w, 0, w, [], none, none, none, none, rfl, rfl, s1, upd_same, Nat.zero_le _, ⟨w0, w1, w0, Nat.le_refl _, rfl, by omega, rfl⟩, fun i v h => nomatch h⟩, ?_⟩
  clear s1
  rintro mm σ' G ⟨L, c, t, p, kvs, s9, s10, s11, s12, rfl, rfl, s, hG, hl, P, S⟩
  obtain ⟨q1, q2, q3, q4⟩ := steps_ok (a := T.top - c) (z := z) (by have := P.c1; omega) z1
  have c0 := P.c0
  have c1 := P.c1
  have lM := P.le
  have hM : (M : Int) ≤ 10 ^ 40 := m2
  have lims : (10 : Int) ^ 50 + 10 ^ 40 ≤ 10 ^ 100 := by decide
  refine ⟨_, rfl, _, rfl, _, _, rfl, rfl, _, rfl, ?_⟩
  generalize hS : (T.top - c + z - 1) / z = S0 at q1 q2 q3 q4 ⊢
  refine ifD (fun cc => ?_) (fun cc => ?_)
  · -- it gives, once
    obtain ⟨n, rfl⟩ : ∃ n : Nat, S0 = ((n + 1 : Nat) : Int) := ⟨S0.toNat - 1, by omega⟩
    have en : ((n + 1 : Nat) : Int) - 1 = (n : Int) := by omega
    rw [en] at q3
    have am0 : 0 ≤ c + ((n + 1 : Nat) : Int) * z := by
      have : 0 ≤ ((n + 1 : Nat) : Int) * z := Int.mul_nonneg (by omega) (by omega)
      omega
    obtain ⟨r1, r2⟩ := Tr.rest_lt ok am0
    obtain ⟨g1, g2'⟩ := Tr.give_le ok am0
    obtain ⟨e1, e2, P1⟩ := P.give ok z1 (n := n) (by omega) (by omega) rfl
    have S1 := S.go (n := n + 1) (c' := c + ((n + 1 : Nat) : Int) * z - T.give (c + ((n + 1 : Nat) : Int) * z)) (t' := t + (c + ((n + 1 : Nat) : Int) * z) - (c + ((n + 1 : Nat) : Int) * z - T.give (c + ((n + 1 : Nat) : Int) * z))) (p' := max p (c + n * z)) (by omega) e1 (by omega) (by omega) (by omega)
    obtain ⟨by1, by2, by3⟩ := Tr.rest_by ok am0 (by omega)
    obtain ⟨by4, by5⟩ := Tr.by_ok ok _ by2
    have small : c + ((n + 1 : Nat) : Int) * z - T.give (c + ((n + 1 : Nat) : Int) * z) < 6 := by
      rw [by3]
      have := Int.emod_lt_of_pos (c + ((n + 1 : Nat) : Int) * z) (show 0 < by1 by omega)
      omega
    have eL : ((L - (n + 1) : Nat) : Int) = (L : Int) - ((n + 1 : Nat) : Int) := by omega
    have R1 := R.same s
    obtain ⟨va, vd, vu, eq, hv1, _⟩ := id R1
    cases eq
    refine ⟨fun σ2 H2 => ∃ (L2 : Nat) (c t p : Int) (kvs : List (Key × V)) (s9 s10 s11 s12 : Option V), σ2 = [some (.ref ua), some (.int c), some (.int z), some (.int M), some (.ref D), some (.int L2), some (.int t), some (.int p), some (.int ((T.top - c + z - 1) / z)), s9, s10, s11, s12] ∧
      L2 < L ∧ Same H H2 ∧ H2 D = some (.dK kvs) ∧ kvs.length ≤ cnt kvs ∧ Rp T z w M L2 c t p ∧ Seen 0 K T z H2 kvs L2 c t p,
      fun σ2 H2 ⟨L2, c, t, p, kvs, s9, s10, s11, s12, a1, a2, a3, a4, a5, a6, a7⟩ => ⟨_, a2, L2, c, t, p, kvs, s9, s10, s11, s12, a1, rfl, a3, a4, a5, a6, a7⟩, ?_⟩
    refine ⟨_, rfl, _, rfl, _, rfl, _, _, rfl, rfl, _, rfl, .inl ⟨_, _, rfl, rfl, mul_ok (by omega) (by omega), .inl ⟨_, _, rfl, rfl, _, _, rfl, ?_⟩⟩⟩
    refine ⟨_, rfl, _, rfl, _, rfl, .inl ⟨_, _, rfl, rfl, mul_ok (by omega) (by omega), .inl ⟨_, _, rfl, rfl, ?_⟩⟩⟩
    refine ⟨_, rfl, ua, vd, _, rfl, hv1, lk_tree (by decide +kernel), _, rfl, _, T, _, rfl, R1, ?_⟩
    refine ⟨_, rfl, _, rfl, _, _, rfl, rfl, _, rfl, _, rfl, .inl ⟨_, _, rfl, rfl, _, rfl, _, _, rfl, rfl, _, _, rfl, ?_⟩⟩
    dsimp only
    rw [imax_eq, en, ← eL]
    have hLL : L - (n + 1) < L := by omega
    clear e1 e2 r1 r2 g1 g2' by1 by2 by3 by4 by5 S P cc q2 q3 q4 am0 c0 c1 hS en eL q1
    have c0' := P1.c0
    generalize c + ((n + 1 : Nat) : Int) * z - T.give (c + ((n + 1 : Nat) : Int) * z) = c' at *
    generalize t + (c + ((n + 1 : Nat) : Int) * z) - c' = t' at *
    generalize max p (c + n * z) = p' at *
    generalize L - (n + 1) = L1 at *
    refine ⟨fun σ2 H2 => ∃ (L2 : Nat) (t p : Int) (kvs : List (Key × V)) (s8 s9 s10 s11 s12 : Option V), σ2 = [some (.ref ua), some (.int c'), some (.int z), some (.int M), some (.ref D), some (.int L2), some (.int t), some (.int p), s8, s9, s10, s11, s12] ∧
      L2 < L ∧ Same H H2 ∧ H2 D = some (.dK kvs) ∧ kvs.length ≤ cnt kvs ∧ Rp T z w M L2 c' t p ∧ Seen 0 K T z H2 kvs L2 c' t p, ?_, ?_⟩
    · refine ⟨_, rfl, _, rfl, D, valV kvs (.inl c'), rfl, DGet.k (k := .inl c') hG, _, rfl, ?_⟩
      cases ev : valV kvs (.inl c') with
      | some v =>
        -- it was here before: turns are skipped
        refine iteT' rfl ?_
        obtain ⟨a, l', t0, d, rfl, ha, h3, h4, h5, h6, h7, h8⟩ := S1 c' v ev
        have d1 : 1 ≤ d := by omega
        have et : (L1 : Int) / (l' - L1) = ((L1 / d : Nat) : Int) := by
          rw [show l' - (L1 : Int) = (d : Int) by omega]
          exact (Int.natCast_ediv _ _).symm
        have le : L1 / d * d ≤ L1 := Nat.div_mul_le_self L1 d
        have le2 : L1 / d ≤ L1 := Nat.div_le_self L1 d
        have e1 : (L1 : Int) - (L1 : Int) / (l' - L1) * (l' - L1) = ((L1 - L1 / d * d : Nat) : Int) := by
          rw [et, show l' - (L1 : Int) = (d : Int) by omega, Int.ofNat_sub le, Int.natCast_mul]
        have ed : t' - t0 = d * z := by omega
        have e2 : t' + (L1 : Int) / (l' - L1) * (t' - t0) = t' + ((L1 / d * d : Nat) : Int) * z := by
          rw [et, ed, Int.natCast_mul, Int.mul_assoc]
        have dz : (d : Int) * z ≤ 10 ^ 40 * 10 ^ 40 := Int.mul_le_mul (by omega) z2 (by omega) (by decide)
        have dz0 : 0 ≤ (d : Int) * z := Int.mul_nonneg (by omega) (by omega)
        have lim2 : (10 : Int) ^ 40 * 10 ^ 40 ≤ 10 ^ 100 := by decide
        have b1 : ((L1 : Int) / (l' - L1)).natAbs ≤ 10 ^ 100 := by
          rw [et]
          clear e1 e2 et
          generalize L1 / d = tt at le2
          omega
        have b2 : (l' - (L1 : Int)).natAbs ≤ 10 ^ 100 := by clear e1 e2 et b1; omega
        have b3 : (t' - t0).natAbs ≤ 10 ^ 100 := by rw [ed]; clear e1 e2 et b1; omega
        refine ⟨_, rfl, _, rfl, D, .ref a, rfl, (by rw [← ev]; exact DGet.k (k := .inl c') hG), g2 ha ?_⟩
        refine ⟨_, rfl, _, rfl, _, rfl, _, _, rfl, rfl, _, _, rfl, rfl, div_ok (by omega) (by omega), ?_⟩
        refine ⟨_, rfl, _, rfl, _, rfl, _, rfl, _, _, rfl, rfl, .inl ⟨_, _, rfl, rfl, mul_ok b1 b2, _, _, rfl, rfl, _, rfl, _, rfl, _, rfl, _, rfl, _, _, rfl, rfl, .inl ⟨_, _, rfl, rfl, mul_ok b1 b3, .inl ⟨_, _, rfl, rfl, _, _, rfl, ?_⟩⟩⟩⟩
        obtain ⟨k1, k2⟩ := Tr.kp_loop h4 (L1 / d)
        refine ⟨L1 - L1 / d * d, t' + ((L1 / d * d : Nat) : Int) * z, p', kvs, some (.int ((n + 1 : Nat) : Int)), some (.int (c + ((n + 1 : Nat) : Int) * z)), some (.int l'), some (.int t0), some (.int ((L1 : Int) / (l' - L1))), ?_, by omega, s, hG, hl, P1.skip h4 h6 d1, (S1.go le k1.symm (Int.le_refl _) (by omega) (by omega)).weak⟩
        rw [← e1, ← e2]
        rfl
      | none =>
        refine iteF' rfl ?_
        refine ⟨_, rfl, _, rfl, two_fit.2.1, fun q hq => ?_⟩
        have s2 := same_new (o := .tup [.int L1, .int t']) hq
        refine ⟨_, rfl, _, rfl, D, _, rfl, DPut.k (k := .inl c') (s2 _ _ hG) (by have := cnt_le kvs; exact small1000 (by omega)), ?_⟩
        exact ⟨L1, t', p', _, _, _, _, _, _, rfl, hLL, other_same (s.trans s2) hD, upd_same, cnt_put ev c0' small hl, P1, ((S1.weak.mono (Tups.same s2)).put P1.p0 (by omega) (SqT.of upd_same)).mono (dk_tups (s2 _ _ hG))⟩
    · rintro σ2 H2 ⟨L2, t2, p2, kvs2, b8, b9, b10, b11, b12, rfl, a2, a3, a4, a5, a6, a7⟩
      refine ⟨_, rfl, _, rfl, _, rfl, .ref ua, T, c', z, rfl, R.same a3, z1, z2, ?_⟩
      exact ⟨L2, c', t2, p2, kvs2, _, _, _, _, rfl, a2, a3, a4, a5, a6, a7⟩
  · -- the rest, without giving
    have few : c + (L : Int) * z < T.top := by
      have h : (L : Int) * z ≤ (S0 - 1) * z := Int.mul_le_mul_of_nonneg_right (by omega) (by omega)
      omega
    obtain ⟨f1, f2⟩ := Tr.kp_few ok z1 c0 L few
    have Lz0 : 0 ≤ (L : Int) * z := Int.mul_nonneg (by omega) (by omega)
    have eM : ((M : Int)).toNat = M := by omega
    rw [eM] at k
    have tot := P.tot
    have pk := P.pk
    refine ⟨fun σ2 H2 => H2 = G ∧ σ2 = [some (.ref ua), some (.int c), some (.int z), some (.int M), some (.ref D), some (.int L), some (.int t), some (.int (max w (T.pk z w M))), some (.int S0), s9, s10, s11, s12], ?_, ?_⟩
    · refine ⟨_, rfl, _, _, rfl, rfl, _, rfl, ?_⟩
      refine ifD (fun c2 => ?_) (fun c2 => ?_)
      · obtain ⟨n, rfl⟩ : ∃ n : Nat, L = n + 1 := ⟨L - 1, by omega⟩
        have en : ((n + 1 : Nat) : Int) - 1 = (n : Int) := by omega
        have e : ((n + 1 : Nat) : Int) * z = n * z + z := by rw [Int.natCast_add, Int.add_mul]; omega
        have nz : 0 ≤ (n : Int) * z := Int.mul_nonneg (by omega) (by omega)
        obtain ⟨f3, f4⟩ := Tr.kp_few ok z1 c0 n (by omega)
        refine ⟨_, rfl, _, rfl, _, rfl, _, _, rfl, rfl, _, rfl, .inl ⟨_, _, rfl, rfl, mul_ok (by omega) (by omega), .inl ⟨_, _, rfl, rfl, _, _, rfl, rfl, ?_⟩⟩⟩
        rw [pk, f4, ← imax_eq, ← en]
        rfl
      · obtain rfl : L = 0 := by omega
        refine ⟨rfl, ?_⟩
        have p0 := P.p0
        have : max p (T.pk z c 0) = p := by
          show max p 0 = p
          omega
        rw [pk, this]
    · rintro σ2 H2 ⟨rfl, rfl⟩
      refine ⟨_, rfl, _, rfl, _, rfl, .inl ⟨_, _, rfl, rfl, mul_ok (by omega) (by omega), .inl ⟨_, _, rfl, rfl, _, rfl, _, rfl, two_fit.2.2.1, fun q hq => ?_⟩⟩⟩
      have s2 := same_new (o := .tup [.int (c + L * z), .int t, .int (max w (T.pk z w M))]) hq
      refine k q _ (s.free hq) (s.trans s2) ?_
      rw [P.kp, f1, show w + (M : Int) * z - (c + L * z) = t by omega]
      exact SqT.of upd_same
/-- a tree and a Rule of it -/
structure St13 (K : PySem.W.Frag) (C : Cs) (G : Hp) (b l : Addr) (v u : V) (T : Tr) : Prop where
  bag : Bag G b l
  tr : TrAt K G v T
  ru : RuleAt K C G u T
theorem St13.step {b l : Addr} {v u : V} {T : Tr} (S : St13 K C G b l v u T) (k : Kp b G G') (B : Bag G' b l) : St13 K C G' b l v u T :=
  ⟨B, S.tr.mono (S.bag.tups k), S.ru.kpB S.bag k⟩
theorem St13.same {b l : Addr} {v u : V} {T : Tr} (S : St13 K C G b l v u T) (s : Same G G') : St13 K C G' b l v u T := S.step (Kp.of s) (S.bag.same s)
/-- not alike(rule.threshold, top) -/
theorem top_alike {i j : Nat} {σ : L2.St} {b l : Addr} {v u : V} {T : Tr} {D : Ends} (hi : σ[i]? = some (some u)) (hj : σ[j]? = some (some (.int T.top))) (S : St13 K C G b l v u T) (k : D.nx σ G) :
    tIfS (tNot (tB (tCall (sp_law_alike K) [] E0 (tCons (tProp C.Rule (sp_Rule_threshold K C) [] E0 (tVar i)) (tCons (tVar j) tNil))))) (tRet (tC (.bl false))) tNext D σ G := by
  obtain ⟨ua, ud, uu, rfl, hu1, r⟩ := id S.ru
  refine ⟨_, hi, ua, ud, _, rfl, hu1, _, T, rfl, S.ru, ?_⟩
  obtain ⟨t1, t2⟩ := Tr.top_ok r.2.1
  have g : GoodTo 0 2000 (.int T.top) := gt_int (by
    have : (10 : Int) ^ 50 ≤ 10 ^ 100 := by decide
    omega)
  exact ⟨_, hj, _, _, .int T.top, rfl, .int _, .int _, g.good, true, rfl, k⟩
end
end Pk
set_option Elab.async false
set_option linter.all false
set_option maxRecDepth 100000
set_option maxHeartbeats 2000000
/-! == and != of instances by an own __eq__ -/
namespace Pk
open PySem PySem.Spec PyProof.Rows PySem.SeqAt
section
variable {prog : Program} {w : World} {A : Around} {E : Value → Shared → Prop} {s : Shared} {K : PySem.W.Frag} {x C f : Addr} {ox : Obj} {od : Option Obj} {b : Value}
theorem ifBound_ne {M : Model} {args : List Value} {Q : Option Value → Shared → Prop} (I : PySem.W.InstAt s.heap x ox C od) (X : K.In s.heap) (hn : PySem.W.findIn K (.ref C) "__ne__" = some (some (.builtin "object.__ne__")))
    (h : wpAny M A (call (.builtin "object.__ne__") (.ref x :: args)) (fun v => Q (some v)) E s) : wpAny M A (callSpecialIfBound? (.ref x) "__ne__" args) Q E s := by
  simp only [callSpecialIfBound?, bindSpecialIfBound?]
  have last : wpAny M A (call (.builtin "object.__ne__") ([.ref x] ++ args) >>= fun v => pure (some v)) Q E s := wpAny_bind (wpAny_mono h (fun _ _ z => wpAny_pure z) fun _ _ z => z)
  refine wpAny_holding (wpAny_bind (wpAny_bind (wpAny_bind (I.type.here ((PySem.W.looks_findIn X hn).here (wpAny_bind (wpAny_askSetting (wpAny_ite ?_))))))))
  split
  · exact wpAny_bind (wpAny_of_eq (F.cmp_object.ne.bind _) (wpAny_pure (by exact last)))
  · exact wpAny_tryCatch (wpAny_bind (wpAny_of_eq (F.cmp_object.ne.bind _) (wpAny_pure (by exact last))))
theorem obj_ne {Q : Value → Shared → Prop} (hu : A.units + 1 < cLine) (X : K.In s.heap) (I : PySem.W.InstAt s.heap x ox C od) (hm : PySem.W.mroIn K C (.type "object") = some true)
    (hn : PySem.W.findIn K (.ref C) "__ne__" = some (some (.builtin "object.__ne__"))) (hs : PySem.W.findIn K (.ref C) "__eq__" = some (some (.ref f))) (hf : PySem.W.isFn K (.ref f) = true)
    (h : codeAny (model prog w) A.in1 (.call (.ref f) ⟨[.ref x, b], []⟩) (fun r s' => match r with | .ok (.ret v) => ∃ c, v = .bool c ∧ Q (.bool (!c)) s' | .ok _ => False | .error e => E e s') s) :
    wpAny (model prog w) A (tryCompare (.ref x) "__ne__" b) (fun r s' => ∃ v, r = some v ∧ Q v s') E s := by
  unfold tryCompare
  refine wpAny_bind (ifBound_ne I X hn (wpAny_call (codeAny_call_builtin F.cmp_object.ne.plain F.cmpEntry_ne
    (PySem.W.check_slot F.cmpKind_ne F.cmpSplit_ne (I.type.andThen (PySem.W.looks_mroIn X hm)) (F.cmpArgs_ne _ _) ?_))))
  unfold Builtin.«object.__ne__»
  repeat (first | with_reducible refine wpAny_cRoomFor hu ?_ | with_reducible refine wpAny_bind (PySem.W.ifBound_K X I hs hf ?_) | wp_step)
  refine codeAny_mono h fun r s' hr => ?_
  match r, hr with
  | .error e, hr => exact hr
  | .ok (.ret v), hr =>
    obtain ⟨c, rfl, q⟩ := hr
    refine wpAny_bind (wpAny_truthy_bool ?_)
    exact wpAny_pure (wpAny_pure ⟨_, rfl, q⟩)
/-- x != b by what is tried first -/
theorem rich_ne {tb : Value} {Q : Value → Shared → Prop} (hu : A.units < cLine) (X : K.In s.heap) (I : PySem.W.InstAt s.heap x ox C od) (hb : PySem.W.Looks (model prog w) s.heap (typeOf b) tb) (hn : PySem.W.notFirst K C tb = true)
    (one : wpAny (model prog w) A (tryCompare (.ref x) "__ne__" b) (fun r s' => ∃ v, r = some v ∧ Q v s') E s) : wpAny (model prog w) A (richCompare .NotEq (.ref x) b) Q E s := by
  unfold richCompare
  simp only [oneThing_ref]
  refine wpAny_holding (wpAny_bind (wpAny_cRoomFor hu (wpAny_bind (I.type.here (wpAny_bind (hb.here ?_))))))
  split
  · rename_i q
    have e : PySem.W.subIn K tb (.ref C) = some false := by
      rcases Bool.or_eq_true_iff.mp hn with e | e
      · exact absurd (beq_iff_eq.mp e) (by intro z; rw [z] at q; simp at q)
      · exact beq_iff_eq.mp e
    refine wpAny_bind ((PySem.W.looks_subIn X e).here ?_)
    simp only [Bool.false_eq_true, if_false]
    exact wpAny_bind (wpAny_mono one (fun r s1 ⟨v, ev, qv⟩ => by subst ev; exact wpAny_pure qv) fun _ _ y => y)
  · refine wpAny_bind (wpAny_pure ?_)
    simp only [Bool.false_eq_true, if_false]
    exact wpAny_bind (wpAny_mono one (fun r s1 ⟨v, ev, qv⟩ => by subst ev; exact wpAny_pure qv) fun _ _ y => y)
end
end Pk
namespace Pk
open PySem PySem.Spec L2 PyProof.Rows
section
variable {X : Cx} {CX : CXT} {k j : Nat} {C : Addr} {ps : List Str} {sp : Sp} {E : XK} {x : Str}
/-- x == y, x != y, both instances of the class at C -/
def rOwnEq (C : Addr) (sp : Sp) (E : XK) : R2 := fun x y H Q => ∃ a b dx fs dy gs, x = .ref a ∧ y = .ref b ∧ H a = some (.ins C dx fs) ∧ H b = some (.ins C dy gs) ∧ sp [x, y] H (fun v H' => ∃ c, v = .bl c ∧ Q (.bl c) H') E
def rOwnNe (C : Addr) (sp : Sp) (E : XK) : R2 := fun x y H Q => ∃ a b dx fs dy gs, x = .ref a ∧ y = .ref b ∧ H a = some (.ins C dx fs) ∧ H b = some (.ins C dy gs) ∧ sp [x, y] H (fun v H' => ∃ c, v = .bl c ∧ Q (.bl (!c)) H') E
theorem op_eqOwn (c : Kls X.K X.mg x C) (F : Own X.prog X.w X.K X.mg X.base CX k C "__eq__" ps sp) (hr : Room j X.A) (hx : Passes CX X E) (hj : k ≤ j := by first | decide | omega) : OpR X (compareOp .Eq) (rOwnEq C sp E) := by
  obtain ⟨f, fd, G, a1, a2, a3, a4, bb⟩ := F.ex
  intro pins s σ H u v ov iv Q I ru rv h
  obtain ⟨a, b, dx, fs, dy, gs, rfl, rfl, ha, hb, q⟩ := h
  cases (show ov = Value.ref a from ru)
  cases (show iv = Value.ref b from rv)
  obtain ⟨_, O, _⟩ := ins_get I.hok ha
  obtain ⟨od, J, _⟩ := O.look
  obtain ⟨_, O', _⟩ := ins_get I.hok hb
  obtain ⟨od', J', _⟩ := O'.look
  obtain ⟨_, hF⟩ := I.fr
  show wpAny (model X.prog X.w) X.A (richCompare .Eq (.ref a) (.ref b)) (EP X pins σ Q) X.xe s
  refine PySem.W.cmp_K (op := .Eq) (tb := .ref C) (Nat.lt_of_le_of_lt (Nat.le_add_right _ 64) hr.units) hF I.ok.mod.kin J J'.type (by simp [PySem.W.notFirst]) a1 a2 ?_
  refine wpAny_mono (run_fn (us := [.ref a, .ref b]) (vs := [.ref a, .ref b]) G (hr.mono hj) bb .nil hx I (.cons rfl (.cons rfl .nil)) q) ?_ fun _ _ z => z
  rintro w s' ⟨z, H', I', rz, d, rfl, qz⟩
  cases rz
  exact ⟨.bl d, H', I', rfl, qz⟩
theorem op_neOwn (c : Kls X.K X.mg x C) (F : Own X.prog X.w X.K X.mg X.base CX k C "__eq__" ps sp) (hr : Room j X.A) (hx : Passes CX X E) (hj : k + 1 ≤ j := by first | decide | omega) : OpR X (compareOp .NotEq) (rOwnNe C sp E) := by
  obtain ⟨f, fd, G, a1, a2, a3, a4, bb⟩ := F.ex
  intro pins s σ H u v ov iv Q I ru rv h
  obtain ⟨a, b, dx, fs, dy, gs, rfl, rfl, ha, hb, q⟩ := h
  cases (show ov = Value.ref a from ru)
  cases (show iv = Value.ref b from rv)
  obtain ⟨_, O, _⟩ := ins_get I.hok ha
  obtain ⟨od, J, _⟩ := O.look
  obtain ⟨_, O', _⟩ := ins_get I.hok hb
  obtain ⟨od', J', _⟩ := O'.look
  obtain ⟨_, hF⟩ := I.fr
  show wpAny (model X.prog X.w) X.A (richCompare .NotEq (.ref a) (.ref b)) (EP X pins σ Q) X.xe s
  have hu := hr.units
  refine rich_ne (tb := .ref C) (by omega) I.kIn J J'.type (by simp [PySem.W.notFirst]) (obj_ne (by omega) I.kIn J c.ic.hm c.ne a1 a2 ?_)
  have e := I.env0
  have e0 : Env0 X.prog X.w X.K X.mg X.base X.A.in1 X.stack s H := ⟨e.frames, e.mod, e.bs, e.bsz, e.funs, e.frf, e.hok, e.bare⟩
  have hl := G.len _ _ _ _ q
  refine codeAny_mono (G.run X.A.in1 X.stack s H ⟨[.ref a, .ref b], []⟩ [.ref a, .ref b] [.ref a, .ref b] _ E (hr.mono hj).in1 e0 (by
    have := bb s [.ref a, .ref b] I.kIn (by simpa using hl)
    simpa using this) (.cons rfl (.cons rfl .nil)) q) fun r s' z => ?_
  match r, z with
  | .error e, z => exact hx pins σ H s e s' I z
  | .ok (.ret w), z =>
    obtain ⟨y, H', I', rz, d, rfl, qz⟩ := I.after z
    cases rz
    exact ⟨d, rfl, .bl (!d), H', I', rfl, qz⟩
/-- what is never come to -/
def tNone : TE := fun _ _ _ => False
theorem pe_none {e : Expr} : PE X e tNone := ⟨fun _ _ _ _ _ _ h => h.elim⟩
end
end Pk
set_option Elab.async false
set_option linter.all false
set_option maxRecDepth 100000
set_option maxHeartbeats 2000000
/-! own errors: raised, let out, caught -/
namespace Pk
open PySem PySem.Spec L2 PyProof.Rows
/-- an own error class: where it stands, what it may -/
structure ErrK (K : PySem.W.Frag) (mg : Str → Option Value) (x : Str) (C : Addr) : Prop where
  at_ : mg x = some (.ref C)
  oex : OexC K C
  xf : XfC K C
  ex : ExcC K C
/-- its __init__ -/
structure ErrI (P : Program) (w : World) (K : PySem.W.Frag) (mg : Str → Option Value) (base : Heap) (k : Nat) (C : Addr) (ps : List Str) (sp : Sp) : Prop where
  ex : ∃ f fd, FnOk P w K mg base CX0 k f fd ps sp ∧ PySem.W.findIn K (.ref C) "__init__" = some (some (.ref f)) ∧ PySem.W.typeIn K (.ref f) = some (.type "function") ∧ Binds K fd ps []
section
variable {X : Cx} {CX : CXT} {k j : Nat} {C D a : Addr} {ps : List Str} {sp : Sp} {x : Str} {p pos : Pos} {e b : Expr} {es : List Expr} {t : TA} {ta tb : TE} {oe : Obj} {cls : Value} {d : Option Addr} {pn : List (Addr × Obj)}
theorem pmk_err (c : ErrK X.K X.mg x C) (F : ErrI X.prog X.w X.K X.mg X.base k C ps sp) (hr : Room j X.A) (ha : PA X (e :: es) t) (hj : k + 1 ≤ j := by first | decide | omega) (hg : Gl X x := by rfl)
    (h1 : (x == ("__debug__" : Str)) = false := by decide) (h2 : starEach (e :: es) X.env = (false, eval e X.env) :: starEach es X.env := by rfl) (h3 : (backTo pos (starEach es X.env)).any (·.1) = false := by rfl) :
    PMk X (.Call (.Name x p) (e :: es) [] pos) (tMkO C sp [] t) := by
  obtain ⟨f, fd, G, a1, a2, bb⟩ := F.ex
  exact pmk_oex c.oex a1 a2 G (hr.mono hj) bb .nil (fun _ _ _ _ _ _ _ z => z.elim) hg c.at_ ha h1 h2 h3
/-- what comes of C(v), one field -/
def rOneI (K : PySem.W.Frag) (C : Addr) (f : Str) : Sp := fun vs H Q _ => ∃ a y, vs = [.ref a, y] ∧ OexC K C ∧ PySem.W.findIn K (.ref C) f = some none ∧ H a = some (exo a C none) ∧ ∀ dx, H dx = none → dx ≠ a → Q .non (upd (upd H dx (exd dx [(f, y)])) a (exo a C (some dx)))
theorem made_err {K : PySem.W.Frag} {f : Str} {y : V} {H : Hp} {Q : XK} (ox : OexC K C) (nf : PySem.W.findIn K (.ref C) f = some none) (k : ∀ d H', H d = none → Same H H' → H' d = some (.xd [(f, y)]) → Q (.ref C) (some d) H') :
    ([y] : List V).length ≤ 1000 ∧ ∀ a, H a = none → rOneI K C f (.ref a :: ([y] ++ [])) (upd H a (exo a C none))
      (fun v H2 => v = .non ∧ ∃ (d : Addr) (fs : List (Str × V)), H2 a = some (exo a C (some d)) ∧ H2 d = some (exd d fs) ∧ H d = none ∧ Q (.ref C) (some d) (upd (del H2 a) d (.xd fs))) (fun _ _ _ => False) := by
  refine ⟨by show 1 ≤ 1000; decide, fun a ha => ⟨a, y, rfl, ox, nf, upd_same, fun dx hd ne => ⟨rfl, dx, [(f, y)], upd_same, ?_, ?_, ?_⟩⟩⟩
  · rw [upd_ne ne, upd_same]
  · rw [upd_ne ne] at hd
    exact hd
  · rw [upd_ne ne] at hd
    refine k dx _ hd (fun b o q => ?_) upd_same
    rw [upd_ne (ne_of_none q hd), del_ne (ne_of_none q ha), upd_ne (ne_of_none q ha), upd_ne (ne_of_none q hd), upd_ne (ne_of_none q ha)]
    exact q
/-- isinstance(n, c), n the caught error of the class at D that has its dict -/
def rIsD (K : PySem.W.Frag) (D a : Addr) (cls : Value) (d : Option Addr) : List V → Hp → VK → Prop := fun xs H Q => ∃ (c : V) (cv : Value) (b : Bool) (dd : Addr) (fs : List (Str × V)), xs = [.ref a, c] ∧ cls = .ref D ∧ d = some dd ∧ H dd = some (.xd fs) ∧ (∀ u, RelV c u → u = cv) ∧ PySem.W.kitOne K (.ref D) cv = some b ∧ Q (.bl b) H
theorem call_isD (T : ExcC X.K D) (hz : Zc cls d oe) (hf : ∃ vs, oe.data = .fields vs) : CallR (X.suite a ((a, oe) :: pn)) (.builtin "isinstance") (rIsD X.K D a cls d) := by
  intro pins s σ H xs us Q I r h
  obtain ⟨c, cv, b, dd, fs, rfl, rfl, rfl, hx, hcv, ek, q⟩ := h
  obtain ⟨u1, u2, rfl, r1, r2⟩ := vals2 r
  cases r1
  obtain rfl := hcv _ r2
  obtain ⟨at_, _⟩ := I.pin (a, oe) (List.mem_append.mpr (.inl List.mem_cons_self))
  obtain ⟨vs, hv⟩ := hf
  obtain ⟨mA, hns, _⟩ := (show ObjOk X.prog X.w H s.heap dd (.xd fs) from I.hok dd _ hx)
  obtain ⟨od, ho, _⟩ := lookIn_ns hns
  have J : PySem.W.InstAt s.heap a oe D (some od) := ⟨at_, hz.1, by unfold PySem.W.notCls; rw [hv] <;> rfl, by rw [hz.2]; exact ho⟩
  have hc : (PySem.W.clsIn X.K D).isSome = true := by obtain ⟨cd, e1, _⟩ := PySem.W.any_some T.hd; rw [e1]; rfl
  exact PySem.W.kia_one (PySem.W.kitx_exc hc T.hg T.hk T.hs T.ha T.hn T.ht T.hm) I.kIn J ek (fun z => nomatch z) fun tk => ⟨.bl b, H, I.kept (t' := tk) fun _ _ z => z, rfl, q⟩
/-- an operator that may let an error out, by the slots -/
def tOpS (r : L2.St → R2) (ta tb : TE) : TE := fun σ H Q => ta σ H fun x H1 => tb σ H1 fun y H2 => r σ x y H2 Q
theorem pe_opS {op : Operator} {r : L2.St → R2} (ho : ∀ (pins : List (Addr × Obj)) (s : Shared) (σ : L2.St) (H : Hp) (x y : V) (v u : Value) (Q : VK), Inv X pins σ H s → RelV x v → RelV y u → r σ x y H Q → wpAny (model X.prog X.w) X.A (binaryOp op v u) (EP X pins σ Q) X.xe s)
    (ha : PE X e ta) (hb : PE X b tb) : PE X (.BinOp e op b pos) (tOpS r ta tb) := by
  refine ⟨fun pins s σ H Q I h => ?_⟩
  exact wpAny_BinOp (binT ha hb I h fun v u s2 x y H2 I2 rx ry q => ho pins s2 σ H2 x y v u Q I2 rx ry q)
theorem op_ownBS {op : Operator} {E : L2.St → XK} (c : Kls X.K X.mg x C) (F : Own X.prog X.w X.K X.mg X.base CX k C (PySem.dunder op.info.2) ps sp) (hr : Room j X.A) (hx : ∀ σ, PassesAt CX X σ (E σ)) (hj : k ≤ j := by first | decide | omega)
    (pins : List (Addr × Obj)) (s : Shared) (σ : L2.St) (H : Hp) (u v : V) (ov iv : Value) (Q : VK) (I : Inv X pins σ H s) (ru : RelV u ov) (rv : RelV v iv) (h : rOwnB C sp (E σ) u v H Q) : wpAny (model X.prog X.w) X.A (binaryOp op ov iv) (EP X pins σ Q) X.xe s := by
  obtain ⟨f, fd, G, a1, a2, a3, a4, bb⟩ := F.ex
  obtain ⟨a, b, dx, fs, dy, gs, rfl, rfl, ha, hb, q⟩ := h
  cases (show ov = Value.ref a from ru)
  cases (show iv = Value.ref b from rv)
  obtain ⟨_, O, _⟩ := ins_get I.hok ha
  obtain ⟨od, J, _⟩ := O.look
  obtain ⟨_, O', _⟩ := ins_get I.hok hb
  obtain ⟨od', J', _⟩ := O'.look
  obtain ⟨_, hF⟩ := I.fr
  refine PySem.W.binop_K (op := op) hF I.ok.mod.kin J J'.type c.sf a1 a2 ?_
  refine wpAny_mono (run_fnS (us := [.ref a, .ref b]) (vs := [.ref a, .ref b]) G (hr.mono hj) bb (hx σ) I (.cons rfl (.cons rfl .nil)) q) ?_ fun _ _ z => z
  rintro w s' ⟨z, H', I', rz, qz⟩
  exact SlX.cmpback rz ⟨z, H', I', rz, qz⟩
end
/-- try: body / except c as n: suite, all that is raised caught -/
def tTryAs (K : PySem.W.Frag) (c : Value) (i : Nat) (tb : WX → TS) (ts : Addr → Value → Option Addr → TS) : TS := fun D σ H => tb (wAs K c i ts (fun _ _ _ _ => False) D) D σ H
/-- raise C(..), let out of the def -/
def tRaise (C : Addr) (sp : Sp) (t : TA) (E : XK) : TS := fun _ σ H => tMkO C sp [] t σ H fun cls d H' => E cls d H'
theorem refs0 : PySem.HandSPX.refsVE [.type "ValueError", .type "Exception", .type "BaseException", .type "object"] = true := by decide +kernel
theorem refs1 (c : Addr) : PySem.HandSPX.refsVE [.ref c, .type "ValueError", .type "Exception", .type "BaseException", .type "object"] = true := refs0
theorem exm_is {K : PySem.W.Frag} {D C : Addr} (T : XfC K C) (ty : PySem.W.typeIn K (.ref C) = some (.type "type")) (s : PySem.W.subIn K (.ref D) (.ref C) = some true) : PySem.W.exmOne K (.ref D) (.ref C) = some true :=
  PySem.W.exm_ref T.exC T.hdC ty s
end Pk
set_option Elab.async false
set_option linter.all false
set_option maxRecDepth 100000
set_option maxHeartbeats 4000000
/-! own errors whose __init__ says super().__init__() -/
namespace Pk
open PySem PySem.Spec L2 PyProof.Rows
/-- what the written part says of such a class, its function's code and cell -/
structure SupC (P : Program) (K : PySem.W.Frag) (C cc : Addr) (cdv : Value) : Prop where
  code : ∃ cda ccl cdd vs ccs file tf, cdv = .ref cda ∧ K.lookup cda = some ⟨ccl, cdd, .fields vs, ccs⟩ ∧ vs[2]? = some (.str file tf) ∧ ((P.main.file : Str) == file) = true
  cell : ∃ cl cld csl, K.lookup cc = some ⟨cl, cld, .cell (some (.ref C)), csl⟩
  up : PySem.W.ks_superIn K C C "__init__" = some (some (.builtin "ValueError.__init__"))
  ve : PySem.W.subIn K (.ref C) (.type "ValueError") = some true
  self : PySem.W.mroIn K C (.ref C) = some true
  glob : PySem.W.nsIn K mainGlobals "super" = some none
  opq : PySem.W.nsIn K cStatics "thirdparty.any" = some none
  main : (P.main.scope.names.lookup ("super" : Str)).isSome = false
def rSup (K : PySem.W.Frag) (C : Addr) : Sp := fun vs H Q _ => ∃ a, vs = [.ref a] ∧ OexC K C ∧ H a = some (exo a C none) ∧ Q .non H
section
variable {CX : CXT} {P : Program} {w : World} {K : PySem.W.Frag} {mg : Str → Option Value} {base : Heap} {f cc C : Addr} {name qual : Str} {params : Arguments} {scope : Scope} {dV kV doc pm cdv ct oc : Value} {an od : Option Addr} {osl : Array (Option Value)} {p0 p1 p2 p3 p4 : Pos} {ar : Arg}
theorem fn_sup (lk : K.lookup f = some ⟨oc, od, .func (PySem.W.ksFn name qual params [.Expr (.Call (.Attribute (.Call (.Name "super" p0) [] [] p1) "__init__" p2) [] [] p3) p4] scope dV kV doc pm an cdv ct cc), osl⟩)
    (hcd : PySem.W.codeIn K cdv qual = true) (S : SupC P K C cc cdv) (hks : scope.names.lookup ("super" : Str) = some .globalImplicit) (hkc : scope.names.lookup ("__class__" : Str) = some .free) (hka : scope.names.lookup ("self" : Str) = some .local)
    (hk : scope.kind = .function) (hcell : ∀ x ∈ scope.names, x.2 ≠ .cell) (hco : scope.isCoroutine = false) (hgen : scope.isGenerator = false) (hp : (params.posonlyargs ++ params.args).head? = some ar) (har : ar.arg = "self")
    (he : ∀ env : Env, ∃ pl : Sem Bool, eval (.Call (.Attribute (.Call (.Name "super" p0) [] [] p1) "__init__" p2) [] [] p3) env = (do
      let ov ← attributeBase (.Call (.Name "super" p0) [] [] p1) "__init__" env (eval (.Call (.Name "super" p0) [] [] p1) env)
      standAt p2.atName
      let (fn, us) ← holding [ov] (getMethod ov "__init__" pl)
      callWith p3 fn us (backTo p3 (starEach [] env)) [])) :
    FnOk P w K mg base CX 1 f (PySem.W.ksFn name qual params [.Expr (.Call (.Attribute (.Call (.Name "super" p0) [] [] p1) "__init__" p2) [] [] p3) p4] scope dV kV doc pm an cdv ct cc) ["self"] (rSup K C) := by
  refine ⟨fun vs H Q E h => by obtain ⟨a, rfl, _⟩ := h; rfl, fun A outer s H args us vs Q E hr e0 hb r hsp => ?_⟩
  obtain ⟨a, rfl, ox, ea, q⟩ := hsp
  obtain ⟨nm, qn, N, bs, bm, sn, sub, ab, col, dd, k0, k1, k2, k3, k5, hC, hbm⟩ := ox.cls
  obtain ⟨cda, ccl, cdd, fv, ccs, file, tf, rfl, hcode, hvs, hfile⟩ := S.code
  obtain ⟨cl, cld, csl, hcell2⟩ := S.cell
  cases r with
  | cons ra rr =>
  cases rr
  cases ra
  have KX : K.In s.heap := e0.mod.kin.keeps fun b o e => (e0.bs b o e).1
  have lim : s.heap.NoLimit := e0.mod.nolimit.keeps fun b o e => (e0.bs b o e).1
  refine ks_codeAny_call_defAt (binds := [(("self" : Str), .ref a)]) hr.depth (KX _ _ lk) rfl lim (PySem.W.codeRec_of KX hcd) rfl hb hcell ?_ (fun h1 hns hk1 => ?_) hco hgen hk
  · intro x hx
    obtain rfl := List.mem_singleton.mp hx
    exact hka
  have hint : ∀ fd : FuncData, fd.scope.kind = .function → interactive (callEnv fd s.heap.objs.size f) = false := fun fd e => by
    show (fd.scope.kind == .module && _) = false
    rw [e]
    rfl
  obtain ⟨pl, hpl⟩ := he (callEnv (PySem.W.ksFn name qual params [.Expr (.Call (.Attribute (.Call (.Name "super" p0) [] [] p1) "__init__" p2) [] [] p3) p4] scope dV kV doc pm an (.ref cda) ct cc) s.heap.objs.size f)
  refine ks_wpAt_execs_cons (ks_wpAt_Expr_any (ks_wpAt_MethodCall ?_ hpl) (hint _ hk) rfl)
  have KX1 : K.In h1 := KX.keeps hk1
  obtain ⟨t0, hoe⟩ := exo_at e0.hok ea
  have ha1 := hk1 _ _ hoe
  have hD := KX1 _ _ hC
  refine ks_wpAt_super_base hks hkc (by decide) rfl (hk1 _ _ (KX _ _ lk)) rfl hp rfl (KX1 _ _ hcode) rfl hvs hfile S.main ?_
  obtain ⟨mb, b1, b2⟩ := e0.mod.blt
  have kb : ∀ b o, base.get? b = some o → h1.get? b = some o := fun b o e => hk1 _ _ (e0.bs b o e).1
  refine PySem.W.ks_loadName_global hk hks (Calls.loadGlobal_builtin (e0.mod.glob.keeps kb) (PySem.W.mg_none_of e0.mod.kin e0.mod.glob S.glob) (b1.keeps kb) ((b2 _ (by decide +kernel)).trans PyProof.Rows.Boot.«super») ⟨rfl, ?_⟩)
  refine wpAny_loadName_free hk hkc rfl ⟨_, KX1 _ _ hcell2, rfl⟩ ?_
  rw [har]
  refine wpAny_loadName_local hk hka hns (v := .ref a) (by show List.lookup ("self" : Str) [("self", Value.ref a)] = _; simp [List.lookup]) ?_
  refine ks_wpAny_isType_cls hD rfl ⟨rfl, ?_⟩
  have hcl : PySem.W.clsIn K C = some { name := nm, bases := bs, mro := .ref C :: bm, ns := N, qualname := qn, hasDict := true, slotNames := sn, subclasses := sub, abstract := ab, collection := col, hasDel := false } := by unfold PySem.W.clsIn; rw [hC] <;> rfl
  refine ks_wpAny_call_super hD rfl ha1 rfl (fun c e => nomatch e) (PySem.W.looks_mroIn KX1 S.self) (fun h2 e2 k2 => ?_)
  have KX2 : K.In h2 := KX1.keeps k2
  have I2 : PySem.W.InstAt h2 a _ C none := ⟨k2 _ _ ha1, rfl, rfl, trivial⟩
  have hup := S.up
  unfold PySem.W.ks_superIn at hup
  rw [hcl] at hup
  refine PySem.W.kxs_getMethod PySem.W.kxs_ValueError e2 (PySem.W.looks_opaque KX2 S.opq) (l₀ := .ref C :: bm) (fun A Q E s k q => wpAny_bind ((PySem.W.looks_clsIn KX2 hcl) A _ E s k (wpAny_pure q))) rfl KX2 hup
    (I2.type.andThen (PySem.W.looks_subIn KX2 S.ve)) (PySem.W.ks_ne KX2 I2 hcl) (by decide) ?_
  generalize hs2 : h2.objs.size = u
  have hu : (h2.push (PySem.W.kxs_mw "ValueError.__init__" a)).get? u = some (PySem.W.kxs_mw "ValueError.__init__" a) := by rw [← hs2]; exact Heap.get?_push_at rfl rfl
  have k3 : ∀ b o, h2.get? b = some o → (h2.push (PySem.W.kxs_mw "ValueError.__init__" a)).get? b = some o := fun b o e => Heap.get?_push_of_some _ e
  generalize h2.push (PySem.W.kxs_mw "ValueError.__init__" a) = h3 at hu k3
  refine PySem.W.kxs_callWith (i := "ValueError.__init__") (x := a) rfl (evalArgs_empty ⟨hu, ?_⟩)
  refine wpAny_call (codeAny_of_tree ?_)
  show wpAny _ (A.deeper _).in1 (callAny (.ref u) ⟨[], []⟩) _ _ _
  simp only [callAny]
  refine wpAny_bind (wpAny_load hu ?_)
  have d1 : ((Value.type "method-wrapper" == Value.type "method" || Value.type "method-wrapper" == Value.type "builtin_function_or_method" || Value.type "method-wrapper" == Value.type "method-wrapper")) = true := by decide
  simp only [PySem.W.kxs_mw, d1, if_true]
  refine PySem.W.KFB.if_so (by decide) ?_
  have FB := PySem.F.excBase_ValueError
  have ha3 := k3 _ _ (k2 _ _ ha1)
  refine wpAny_bind (PySem.W.check_bound_init FB.toExcCallFacts ((KX2.keeps k3) _ _ hC) ha3 rfl (wpAny_bind (wpAny_pure (wpAny_pure ?_))))
  refine ⟨plainId_quiet FB.init.plain _, codeAny_builtin FB.initEntry ?_⟩
  refine PySem.W.exc_init_tree (cls := .ref C) (t0 := t0) (dv := none) (c2 := .none) (c3 := .none) (b4 := .bool false) ha3 (Nat.zero_le _) fun h4 k4 e4 _ => ?_
  have kk : ∀ b o, b ≠ a → s.heap.get? b = some o → h4.get? b = some o := fun b o n e => k4 b o n (k3 _ _ (k2 _ _ (hk1 _ _ e)))
  have na : ∀ {b : Addr}, H b = none → b ≠ a := fun {b} n z => by
    rw [z, ea] at n
    cases n
  have U : Un (frs outer) [] H H s.heap h4 := {
    keep := fun b o e n _ _ => kk b o (na n) e
    slot := fun b o e n _ _ => ⟨o.slots, kk b o (na n) e⟩
    free := fun b o e n _ => n
    there := fun b o e _ => by
      by_cases hb : b = a
      · exact ⟨_, by rw [hb]; exact e4⟩
      · exact ⟨o, kk b o hb e⟩
    tups := fun b xs e => e
    frzs := fun b o v e => e
    tbls := fun b ps e => ⟨#[], by simpa using e⟩ }
  have O : HOk P w H h4 := fun b o e => by
    by_cases hb : b = a
    · subst hb
      rw [ea] at e
      cases e
      exact exo_ok e4
    · exact (e0.hok b o e).stay (fun c v hc z => kk c v (by
        rcases hc with hc | hc
        · rw [hc]
          exact hb
        · exact at_ne ea hc exo_own) z) (fun c hc => hc) (fun c xs hc => hc)
  exact wpAt_of_wpAny (wpAny_pure ⟨.non, H, rfl, e0.bare, U, O, rfl, q⟩)
end
section
variable {CX : CXT} {P : Program} {w : World} {K : PySem.W.Frag} {mg : Str → Option Value} {base : Heap} {f cc C : Addr} {name qual : Str} {st : Stmt} {dV kV doc pm cdv ct oc : Value} {an od : Option Addr} {osl : Array (Option Value)} {p0 p1 p2 p3 p4 : Pos} {ar : Arg}
/-- the same by the def's statement -/
theorem sup_mk (lk : K.lookup f = some ⟨oc, od, .func (PySem.W.ksFn name qual (defArgs st) (defBody st) (defScope st) dV kV doc pm an cdv ct cc), osl⟩) (hcd : PySem.W.codeIn K cdv qual = true) (S : SupC P K C cc cdv)
    (hb : defBody st = [.Expr (.Call (.Attribute (.Call (.Name "super" p0) [] [] p1) "__init__" p2) [] [] p3) p4]) (hks : (defScope st).names.lookup ("super" : Str) = some .globalImplicit) (hkc : (defScope st).names.lookup ("__class__" : Str) = some .free) (hka : (defScope st).names.lookup ("self" : Str) = some .local)
    (hk : (defScope st).kind = .function) (hcell : ∀ x ∈ (defScope st).names, x.2 ≠ .cell) (hco : (defScope st).isCoroutine = false) (hgen : (defScope st).isGenerator = false) (hp : ((defArgs st).posonlyargs ++ (defArgs st).args).head? = some ar) (har : ar.arg = "self")
    (he : ∀ env : Env, ∃ pl : Sem Bool, eval (.Call (.Attribute (.Call (.Name "super" p0) [] [] p1) "__init__" p2) [] [] p3) env = (do
      let ov ← attributeBase (.Call (.Name "super" p0) [] [] p1) "__init__" env (eval (.Call (.Name "super" p0) [] [] p1) env)
      standAt p2.atName
      let (fn, us) ← holding [ov] (getMethod ov "__init__" pl)
      callWith p3 fn us (backTo p3 (starEach [] env)) [])) :
    FnOk P w K mg base CX 1 f (PySem.W.ksFn name qual (defArgs st) (defBody st) (defScope st) dV kV doc pm an cdv ct cc) ["self"] (rSup K C) := by
  rw [hb] at lk ⊢
  exact fn_sup lk hcd S hks hkc hka hk hcell hco hgen hp har he
end
/-! ### C() raised, held as a value; C(v) held as a value -/
section
variable {X : Cx} {CX : CXT} {k j : Nat} {C D a fI : Addr} {fd : FuncData} {ps : List Str} {sp : Sp} {x f : Str} {p pos : Pos} {e : Expr} {es : List Expr} {t : TA} {te : TE}
/-- an exception of the class at C that was just made at a, as a call leaves it -/
def MadeO (X : Cx) (H : Hp) (C a : Addr) (s s' : Shared) : Prop :=
  ∃ (hp2 : Heap) (t2 : Nat), s.heap.objs.size ≤ a ∧ (∀ b o, s.heap.get? b = some o → hp2.get? b = some o) ∧ HOk X.prog X.w (upd H a (exo a C none)) hp2 ∧ Un (frs X.stack) [] (upd H a (exo a C none)) (upd H a (exo a C none)) hp2 s'.heap ∧ HOk X.prog X.w (upd H a (exo a C none)) s'.heap ∧ s'.os = s.os ∧ AllBare s'.gens ∧
    (∀ {pins : List (Addr × Obj)} {σ : L2.St}, Inv X pins σ H s → Inv X pins σ (upd H a (exo a C none)) s')
/-- the call of the class with no arguments: what comes of it -/
theorem call_sup0 {pins : List (Addr × Obj)} {σ : L2.St} {H : Hp} {s : Shared} {Q : Value → Shared → Prop} (T : OexC X.K C) (iC : PySem.W.findIn X.K (.ref C) "__init__" = some (some (.ref fI))) (tI : PySem.W.typeIn X.K (.ref fI) = some (.type "function"))
    (F1 : FnOk X.prog X.w X.K X.mg X.base CX k fI fd ps (rSup X.K C)) (hr : Room (k + 1) X.A) (hb : Binds X.K fd ps []) (hx : Passes CX X (fun _ _ _ => False)) (I : Inv X pins σ H s)
    (h : ∀ (a : Addr) (s' : Shared), MadeO X H C a s s' → Q (.ref a) s') : wpAny (model X.prog X.w) X.A (call (.ref C) []) Q X.xe s := by
  obtain ⟨nm, q, N, bs, bm, sn, sub, ab, col, dd, k0, k1, k2, k3, k5, hC, hbm⟩ := T.cls
  obtain ⟨hp, g, dr, tk, os⟩ := s
  have hsz : hp.objs.size ≤ hp.objs.size + 1 := Nat.le_succ _
  have hn : H (hp.objs.size + 1) = none := I.hok.fresh hsz
  have kk : ∀ b o, hp.get? b = some o → ((hp.push (PySem.W.kdv_tup [])).push (PySem.HandSPX.excO C hp.objs.size)).get? b = some o := fun b o e => Heap.get?_push_of_some _ (Heap.get?_push_of_some _ e)
  have hget : ((hp.push (PySem.W.kdv_tup [])).push (PySem.HandSPX.excO C hp.objs.size)).get? (hp.objs.size + 1) = some (PySem.HandSPX.excO C hp.objs.size) := by heap_get
  have lay : ∀ {pins : List (Addr × Obj)} {σ : L2.St}, Inv X pins σ H ⟨hp, g, dr, tk, os⟩ → Inv X pins σ (upd H (hp.objs.size + 1) (exo (hp.objs.size + 1) C none)) ⟨(hp.push (PySem.W.kdv_tup [])).push (PySem.HandSPX.excO C hp.objs.size), g, dr, tk, os⟩ := fun I =>
    I.laid (t' := tk) (a := hp.objs.size + 1) (o := exo (hp.objs.size + 1) C none) (h' := (hp.push (PySem.W.kdv_tup [])).push (PySem.HandSPX.excO C hp.objs.size)) kk hsz (exo_ok hget)
  have I2 := lay I
  have r2 : Vals [V.ref (hp.objs.size + 1)] ([Value.ref (hp.objs.size + 1)] ++ []) := .cons rfl .nil
  have hq : rSup X.K C [V.ref (hp.objs.size + 1)] (upd H (hp.objs.size + 1) (exo (hp.objs.size + 1) C none)) (fun v H2 => H2 = upd H (hp.objs.size + 1) (exo (hp.objs.size + 1) C none) ∧ v = .non) (fun _ _ _ => False) := ⟨_, rfl, T, upd_same, rfl, rfl⟩
  have hl : ([Value.ref (hp.objs.size + 1)] ++ []).length = ps.length := by
    have e := F1.len _ _ _ _ hq
    exact e
  refine wpAny_call (PySem.HandSPX.call_own PySem.F.excBase_ValueError (fun Y => PySem.HandSPX.refsVE_contains Y bm hbm) (I.kIn _ _ hC) (PySem.W.looks_findIn I.kIn iC) (fun self => PySem.W.bind_fn I.kIn self tI) (Nat.zero_le _)
    (codeAny_mono (F1.run _ X.stack _ _ ⟨[Value.ref (hp.objs.size + 1)], []⟩ ([Value.ref (hp.objs.size + 1)] ++ []) _ _ (fun _ _ _ => False) (hr.make C [] []) (I2.env0.make C [] []) (hb _ [Value.ref (hp.objs.size + 1)] I2.kIn hl) r2 hq) fun r s' hq' => ?_))
  cases r with
  | error er => exact hx pins σ _ _ er s' I2 hq'
  | ok fl =>
    cases fl with
    | ret u =>
      obtain ⟨v, H2, os2, bare2, un2, hok2, rv, e2, ev⟩ := hq'
      subst ev
      subst e2
      obtain ⟨h2, g2, d2, t2, os'⟩ := s'
      obtain rfl : os' = os := os2
      exact ⟨rv, h _ _ ⟨_, tk, hsz, kk, I2.hok, un2, hok2, rfl, bare2, fun J => (lay J).call (h' := h2) (g' := g2) (d' := d2) (t' := t2) (ch := []) un2 hok2 bare2 fun b z => absurd z (by simp)⟩⟩
    | next => exact False.elim hq'
    | brk => exact False.elim hq'
    | cont => exact False.elim hq'
/-- it is let go: nothing of it is tracked -/
theorem made_mk {pins : List (Addr × Obj)} {σ : L2.St} {H : Hp} {s s' : Shared} {Q : XK} (T : Raises X (.ref C)) (I : Inv X pins σ H s) (m : MadeO X H C a s s') (q : Q (.ref C) none H) : MkP X pins σ Q (.ref a) s' := by
  obtain ⟨hp2, t2, hsz, kk, _, un, hok, os, bare, _⟩ := m
  have hn : H a = none := I.hok.fresh hsz
  obtain ⟨t0, hoe⟩ := exo_at hok upd_same
  obtain ⟨G, g1, g2⟩ := restrict s'.heap fun b => decide (b ≠ a)
  have gk : ∀ b, b ≠ a → G.get? b = s'.heap.get? b := fun b hb => g1 b (decide_eq_true hb)
  have ge : G.get? a = none := g2 a (by simp)
  have nha : ∀ {b : Addr} {o : Obj}, s.heap.get? b = some o → b ≠ a := fun {b o} z => Nat.ne_of_lt (Nat.lt_of_lt_of_le (Heap.lt_size z) hsz)
  have up : ∀ {b : Addr}, b ≠ a → H b = none → upd H a (exo a C none) b = none := fun {b} hb n => by rw [upd_ne hb]; exact n
  have U : Un (frs X.stack) [] H H s.heap G := {
    keep := fun b o z n hf hx => by
      rw [gk b (nha z)]
      exact un.keep b o (kk b o z) (up (nha z) n) hf hx
    slot := fun b o z n hf hx => by
      rw [gk b (nha z)]
      exact un.slot b o (kk b o z) (up (nha z) n) hf hx
    free := fun b o z n hx => n
    there := fun b o z hx => by
      rw [gk b (nha z)]
      exact un.there b o (kk b o z) hx
    tups := fun b xs z => z
    frzs := fun b o v z => z
    tbls := fun b ps z => ⟨#[], by simpa using z⟩ }
  have hok3 : HOk X.prog X.w H G := fun b o z => by
    have hba : b ≠ a := fun e => by
      rw [e, hn] at z
      cases z
    have z2 : upd H a (exo a C none) b = some o := by rw [upd_ne hba]; exact z
    exact (hok b o z2).stay (fun c v hc y => by
        have hca : c ≠ a := by
          rcases hc with hc | hc
          · rw [hc]
            exact hba
          · exact at_ne upd_same hc exo_own
        rw [gk c hca]
        exact y)
      (fun c hc => by rw [upd_ne (at_ne upd_same hc exo_own)] at hc; exact hc) (fun c xs hc => by rw [upd_ne (at_ne upd_same hc exo_tup)] at hc; exact hc)
  obtain ⟨h2, g2', d2, t2', os'⟩ := s'
  obtain ⟨hp, g, dr, tk, os0⟩ := s
  have J : Inv X pins σ H ⟨G, g2', d2, t2', os'⟩ := I.call' (ch := []) os U hok3 bare (fun b z => absurd z (by simp))
  exact ⟨a, _, _, ⟨G, g2', d2, t2', os'⟩, H, .ref C, none, rfl, J, fun b o z => by
    by_cases hba : b = a
    · rw [hba, ge] at z
      cases z
    · exact (gk b hba).symm.trans z, ge, hoe, ⟨rfl, rfl⟩, rfl, rfl, hn, rfl, bare, T, q⟩
/-- raise C() -/
theorem pmk_sup (c : ErrK X.K X.mg x C) (F : ErrI X.prog X.w X.K X.mg X.base k C ps (rSup X.K C)) (hr : Room j X.A) (hj : k + 1 ≤ j := by first | decide | omega) (hg : Gl X x := by rfl) (h1 : (x == ("__debug__" : Str)) = false := by decide) :
    PMk X (.Call (.Name x p) [] [] pos) (fun _ H Q => Q (.ref C) none H) := by
  intro pins s σ H Q I h
  obtain ⟨f, fd, G, a1, a2, bb⟩ := F.ex
  refine wpAny_Call_Name_kw (ld_glob I hg c.at_ ?_ h1)
  refine PySem.W.callWith_K0 I.kIn c.oex.kC ?_
  exact call_sup0 c.oex a1 a2 G (hr.mono hj) bb (fun _ _ _ _ _ _ _ z => z.elim) I fun a s' m => made_mk (raises_own c.oex.exC c.oex.tyC) I m h
/-- C() as a value -/
def tMkV0 (C : Addr) : TE := fun _ H Q => ∀ a, H a = none → Q (.ref a) (upd H a (exo a C none))
theorem pe_mkV0 (c : ErrK X.K X.mg x C) (F : ErrI X.prog X.w X.K X.mg X.base k C ps (rSup X.K C)) (hr : Room j X.A) (hj : k + 1 ≤ j := by first | decide | omega) (hg : Gl X x := by rfl) (h1 : (x == ("__debug__" : Str)) = false := by decide) :
    PE X (.Call (.Name x p) [] [] pos) (tMkV0 C) := by
  refine ⟨fun pins s σ H Q I h => ?_⟩
  obtain ⟨f, fd, G, a1, a2, bb⟩ := F.ex
  refine wpAny_Call_Name_kw (ld_glob I hg c.at_ ?_ h1)
  refine PySem.W.callWith_K0 I.kIn c.oex.kC ?_
  refine call_sup0 c.oex a1 a2 G (hr.mono hj) bb (fun _ _ _ _ _ _ _ z => z.elim) I fun a s' m => ?_
  obtain ⟨_, _, hsz, _, _, _, _, _, _, J⟩ := m
  exact ⟨.ref a, _, J I, rfl, h a (I.hok.fresh hsz)⟩
end
end Pk
set_option Elab.async false
set_option linter.all false
set_option maxRecDepth 100000
set_option maxHeartbeats 4000000
/-! errors held as values -/
namespace Pk
open PySem PySem.Spec L2 PyProof.Rows
/-- at a: an error of the class at C that was made, with its fields or without -/
inductive ErrV (K : PySem.W.Frag) (H : Hp) (a C : Addr) : Prop where
  | no (e : H a = some (exo a C none))
  | fld {dd : Addr} {fs : List (Str × V)} (e : H a = some (exo a C (some dd))) (d : H dd = some (exd dd fs))
  | own (e : H a = some (ExO (.ref C) a))
section
variable {X : Cx} {CX : CXT} {k j : Nat} {C D a fI : Addr} {fd : FuncData} {ps : List Str} {sp : Sp} {x f : Str} {p pos : Pos} {e : Expr} {es : List Expr} {t : TA} {te : TE} {pins : List (Addr × Obj)} {σ : L2.St} {H : Hp} {s : Shared}
theorem ErrV.inst (I : Inv X pins σ H s) (h : ErrV X.K H a C) : ∃ oe od, PySem.W.InstAt s.heap a oe C od := by
  cases h with
  | no e =>
    obtain ⟨t0, h1⟩ := exo_at I.hok e
    exact ⟨_, none, h1, rfl, rfl, trivial⟩
  | fld e d =>
    obtain ⟨t0, h1⟩ := exo_at I.hok e
    obtain ⟨mA, hns, _⟩ := exd_at I.hok d
    obtain ⟨od, ho, _⟩ := lookIn_ns hns
    exact ⟨_, some od, h1, rfl, rfl, ho⟩
  | own e =>
    obtain ⟨⟨oe, vs, h1, z, hd, _⟩, _, _⟩ := (show ObjOk X.prog X.w H s.heap a (.ext fun h => ∃ (oe : Obj) (vs : Array Value), h.get? a = some oe ∧ Zc (.ref C) none oe ∧ oe.data = .fields vs ∧ vs[1]? = some .none ∧ vs[2]? = some .none ∧ 4 < vs.size) from I.hok a _ e)
    exact ⟨oe, none, h1, z.1, by unfold PySem.W.notCls; rw [hd] <;> rfl, by rw [z.2]; trivial⟩
/-- isinstance(e, c), e an error that is held -/
def rIsiE (K : PySem.W.Frag) : List V → Hp → VK → Prop := fun xs H Q => ∃ (a C : Addr) (c : V) (u : Value) (b : Bool), xs = [.ref a, c] ∧ ClsV c u ∧ ErrV K H a C ∧ ExcC K C ∧ PySem.W.kitOne K (.ref C) u = some b ∧ Q (.bl b) H
theorem call_isiE : CallR X (.builtin "isinstance") (rIsiE X.K) := by
  intro pins s σ H xs us Q I r h
  obtain ⟨a, C, c, u, b, rfl, k, ev, T, e, q⟩ := h
  obtain ⟨u1, u2, rfl, r1, r2⟩ := vals2 r
  cases r1
  have e2 := k.eq r2
  subst e2
  obtain ⟨oe, od, J⟩ := ev.inst I
  have hc : (PySem.W.clsIn X.K C).isSome = true := by obtain ⟨cd, e1, _⟩ := PySem.W.any_some T.hd; rw [e1]; rfl
  exact PySem.W.kia_one (PySem.W.kitx_exc hc T.hg T.hk T.hs T.ha T.hn T.ht T.hm) I.kIn J e (fun z => nomatch z) fun tk => ⟨.bl b, H, I.tok tk, rfl, q⟩
/-- e.f, e an error that is held -/
def tFldE (K : PySem.W.Frag) (f : Str) (te : TE) : TE := fun σ H Q => te σ H fun x H1 => ∃ (a C dd : Addr) (fs : List (Str × V)) (v : V), x = .ref a ∧ H1 a = some (exo a C (some dd)) ∧ H1 dd = some (exd dd fs) ∧ XfC K C ∧ PySem.W.findIn K (.ref C) f = some none ∧ fs.lookup f = some v ∧ Q v H1
theorem pe_fldE (he : PE X e te) (hb : attributeBase e f X.env (eval e X.env) = eval e X.env := by rfl) : PE X (.Attribute e f pos) (tFldE X.K f te) := by
  refine ⟨fun pins s σ H Q I h => ?_⟩
  refine attr_of hb (thn (he.run pins s σ H _ I h) fun u s1 hh => ?_)
  obtain ⟨x, H1, I1, rx, a, C, dd, fs, v, rfl, e1, e2, T, hno, l, q⟩ := hh
  obtain rfl : u = Value.ref a := rx
  obtain ⟨t0, h1⟩ := exo_at I1.hok e1
  obtain ⟨mA, hns, hr⟩ := exd_at I1.hok e2
  obtain ⟨od, ho, hl⟩ := lookIn_ns hns
  obtain ⟨u, hu, ru⟩ := RelO.some_of (v := v) (o := mA f) (by rw [← l]; exact hr f)
  have J : PySem.W.InstAt s1.heap a _ C (some od) := ⟨h1, rfl, rfl, ho⟩
  exact HandSPX.exc_get I1.kIn J T.ga T.gg T.exC (PySem.W.findObj_own T.hdC hno rfl (by rw [hl, hu])) (handed_of ru) ⟨v, H1, I1.tok _, ru, q⟩
/-- C(e, ..) as a value -/
def tMkV (C : Addr) (sp : Sp) (t : TA) : TE := fun σ H Q => t σ H fun vs H1 => vs.length ≤ 1000 ∧ ∀ a, H1 a = none → sp (.ref a :: (vs ++ [])) (upd H1 a (exo a C none)) (fun v H2 => v = .non ∧ Q (.ref a) H2) (fun _ _ _ => False)
theorem pe_mkV (c : ErrK X.K X.mg x C) (F : ErrI X.prog X.w X.K X.mg X.base k C ps sp) (hr : Room j X.A) (ha : PA X (e :: es) t) (hj : k + 1 ≤ j := by first | decide | omega) (hg : Gl X x := by rfl)
    (hdb : (x == ("__debug__" : Str)) = false := by decide) (he : starEach (e :: es) X.env = (false, eval e X.env) :: starEach es X.env := by rfl) (hpl : (backTo pos (starEach es X.env)).any (·.1) = false := by rfl) :
    PE X (.Call (.Name x p) (e :: es) [] pos) (tMkV C sp t) := by
  refine ⟨fun pins s σ H Q I h => ?_⟩
  obtain ⟨fI, fd, F1, iC, tI, hb⟩ := F.ex
  obtain ⟨nm, q, N, bs, bm, sn, sub, ab, col, dd, k0, k1, k2, k3, k5, hC, hbm⟩ := c.oex.cls
  refine wpAny_Call_Name_kw (ld_glob I hg c.at_ ?_ hdb)
  refine PySem.W.callWith_K (h₀ := X.base) I.ok.mod.kin c.oex.kC (thn (ha.run pos pins s σ H _ I h) fun us s1 ⟨vs, H1, I1, r1, hz, q1⟩ => ⟨I1.kIn, ?_⟩) he hpl
  show wpAny _ _ (call (.ref C) us) _ _ _
  obtain ⟨hp, g, dr, tk, os⟩ := s1
  have hsz : hp.objs.size ≤ hp.objs.size + 1 := Nat.le_succ _
  have hn : H1 (hp.objs.size + 1) = none := I1.hok.fresh hsz
  have hq := q1 (hp.objs.size + 1) hn
  have kk : ∀ b o, hp.get? b = some o → ((hp.push (PySem.W.kdv_tup us)).push (PySem.HandSPX.excO C hp.objs.size)).get? b = some o := fun b o e => Heap.get?_push_of_some _ (Heap.get?_push_of_some _ e)
  have got : ((hp.push (PySem.W.kdv_tup us)).push (PySem.HandSPX.excO C hp.objs.size)).get? (hp.objs.size + 1) = some (PySem.HandSPX.excO C hp.objs.size) := by heap_get
  have I2 : Inv X pins σ (upd H1 (hp.objs.size + 1) (exo (hp.objs.size + 1) C none)) ⟨(hp.push (PySem.W.kdv_tup us)).push (PySem.HandSPX.excO C hp.objs.size), g, dr, tk, os⟩ :=
    I1.laid (t' := tk) (a := hp.objs.size + 1) (o := exo (hp.objs.size + 1) C none) (h' := (hp.push (PySem.W.kdv_tup us)).push (PySem.HandSPX.excO C hp.objs.size)) kk hsz (exo_ok got)
  have r2 : Vals (V.ref (hp.objs.size + 1) :: (vs ++ [])) ((Value.ref (hp.objs.size + 1) :: us) ++ []) := .cons rfl (r1.append .nil)
  have hl : ((Value.ref (hp.objs.size + 1) :: us) ++ []).length = ps.length := by
    have e := r2.length
    rw [F1.len _ _ _ _ hq] at e
    exact e.symm
  have hus : us.length ≤ sizeLine := by
    rw [← Paired.length r1, sizeLine_eq]
    omega
  refine wpAny_call (PySem.HandSPX.call_own PySem.F.excBase_ValueError (fun Y => PySem.HandSPX.refsVE_contains Y bm hbm) (I1.kIn _ _ hC) (PySem.W.looks_findIn I1.kIn iC) (fun self => PySem.W.bind_fn I1.kIn self tI) hus
    (codeAny_mono (F1.run _ X.stack _ _ ⟨Value.ref (hp.objs.size + 1) :: us, []⟩ ((Value.ref (hp.objs.size + 1) :: us) ++ []) _ _ (fun _ _ _ => False) ((hr.mono hj).make C us []) (I2.env0.make C us []) (hb _ (Value.ref (hp.objs.size + 1) :: us) I2.kIn hl) r2 hq) fun r s' hq' => ?_))
  cases r with
  | error er => exact hq'.elim
  | ok fl =>
    cases fl with
    | ret u =>
      obtain ⟨v, H2, os2, bare2, un2, hok2, rv, ev, q2⟩ := hq'
      subst ev
      obtain ⟨h2, g2, d2, t2, os'⟩ := s'
      obtain rfl : os' = os := os2
      exact ⟨rv, .ref _, H2, I2.call (h' := h2) (g' := g2) (d' := d2) (t' := t2) (ch := []) un2 hok2 bare2 (fun b z => absurd z (by simp)), rfl, q2⟩
    | next => exact False.elim hq'
    | brk => exact False.elim hq'
    | cont => exact False.elim hq'
/-- C(), a class of the package without an __init__ of its own -/
theorem pe_exc0 {bmB : List Value} {B newId initId : String} (F : ExcBaseFacts B newId initId bmB) (q : PySem.W.excIn X.K C bmB newId = true) (gC : X.mg x = some (.ref C)) (kC : PySem.W.keepIn X.K (.ref C) = true) (hg : Gl X x := by rfl) (hdb : (x == ("__debug__" : Str)) = false := by decide) :
    PE X (.Call (.Name x p) [] [] pos) (fun _ H Q => ∀ a, H a = none → Q (.ref a) (upd H a (ExO (.ref C) a))) := by
  refine ⟨fun pins s σ H Q I h => ?_⟩
  refine wpAny_Call_Name_kw (ld_glob I hg gC ?_ hdb)
  refine PySem.W.callWith_K0 I.kIn kC ?_
  show wpAny _ _ (call (.ref C) []) _ _ _
  obtain ⟨bm, N, nm, qn, bs, hdct, sn, sub, ab, col, dd, k0, k1, k2, k3, k5, mN, hC, hN, hni, T⟩ := exc_obj I.kIn q
  refine wpAny_call_exc_subT F T hC hN hni (fun h' a hm => ?_) (Nat.zero_le _)
  have hn : H a = none := I.hok.gone hm.new
  obtain ⟨t, ht, _, _⟩ := hm.there
  exact ⟨.ref a, upd H a (ExO (.ref C) a), I.laidN hm.keeps hm.new hn (exO_ok ht ⟨rfl, rfl⟩ rfl rfl rfl (show 4 < 6 by decide)), rfl, h a hn⟩
end
/-! ### the caught error -/
/-- isinstance(n, c), isinstance(n, (c, ..)): n the caught error, whatever its class -/
def CaughtD (H : Hp) (d : Option Addr) : Prop := d = none ∨ ∃ dd fs, d = some dd ∧ H dd = some (.xd fs)
def rIsC (K : PySem.W.Frag) (a : Addr) (cls : Value) (d : Option Addr) : List V → Hp → VK → Prop := fun xs H Q => ∃ (c : V) (u : Value) (b : Bool) (D : Addr), xs = [.ref a, c] ∧ cls = .ref D ∧ ExcC K D ∧ CaughtD H d ∧ ClsV c u ∧ PySem.W.kitOne K (.ref D) u = some b ∧ Q (.bl b) H
def rIsCT (K : PySem.W.Frag) (a : Addr) (cls : Value) (d : Option Addr) : List V → Hp → VK → Prop := fun xs H Q => ∃ (tp : Addr) (cs : List V) (us : List Value) (b : Bool) (D : Addr), xs = [.ref a, .ref tp] ∧ H tp = some (.tup cs) ∧ cls = .ref D ∧ ExcC K D ∧ CaughtD H d ∧ Paired ClsV cs us ∧ PySem.W.kitAny K (.ref D) us = some b ∧ Q (.bl b) H
section
variable {X : Cx} {D a : Addr} {oe : Obj} {cls : Value} {d : Option Addr} {pn : List (Addr × Obj)} {pins : List (Addr × Obj)} {σ : L2.St} {H : Hp} {s : Shared}
theorem caught_inst (I : Inv (X.suite a ((a, oe) :: pn)) pins σ H s) (hz : Zc cls d oe) (hf : ∃ vs, oe.data = .fields vs) (hc : cls = .ref D) (hd : CaughtD H d) : ∃ od, PySem.W.InstAt s.heap a oe D od := by
  subst hc
  obtain ⟨at_, _⟩ := I.pin (a, oe) (List.mem_append.mpr (.inl List.mem_cons_self))
  obtain ⟨vs, hv⟩ := hf
  have nc : PySem.W.notCls oe = true := by unfold PySem.W.notCls; rw [hv] <;> rfl
  rcases hd with rfl | ⟨dd, fs, rfl, hx⟩
  · exact ⟨none, at_, hz.1, nc, by rw [hz.2]; trivial⟩
  · obtain ⟨mA, hns, _⟩ := (show ObjOk X.prog X.w H s.heap dd (.xd fs) from I.hok dd _ hx)
    obtain ⟨od, ho, _⟩ := lookIn_ns hns
    exact ⟨some od, at_, hz.1, nc, by rw [hz.2]; exact ho⟩
theorem exc_some {K : PySem.W.Frag} {D : Addr} (T : ExcC K D) : (PySem.W.clsIn K D).isSome = true := by obtain ⟨cd, e1, _⟩ := PySem.W.any_some T.hd; rw [e1]; rfl
theorem call_isC (hz : Zc cls d oe) (hf : ∃ vs, oe.data = .fields vs) : CallR (X.suite a ((a, oe) :: pn)) (.builtin "isinstance") (rIsC X.K a cls d) := by
  intro pins s σ H xs us Q I r h
  obtain ⟨c, u, b, D, rfl, hc, T, hd, k, e, q⟩ := h
  obtain ⟨u1, u2, rfl, r1, r2⟩ := vals2 r
  cases r1
  obtain rfl := k.eq r2
  obtain ⟨od, J⟩ := caught_inst I hz hf hc hd
  exact PySem.W.kia_one (PySem.W.kitx_exc (exc_some T) T.hg T.hk T.hs T.ha T.hn T.ht T.hm) I.kIn J e (fun z => nomatch z) fun tk => ⟨.bl b, H, I.kept (t' := tk) fun _ _ z => z, rfl, q⟩
theorem call_isCT (hz : Zc cls d oe) (hf : ∃ vs, oe.data = .fields vs) : CallR (X.suite a ((a, oe) :: pn)) (.builtin "isinstance") (rIsCT X.K a cls d) := by
  intro pins s σ H xs us Q I r h
  obtain ⟨tp, cs, ws, b, D, rfl, hT, hc, T, hd, k, e, q⟩ := h
  obtain ⟨u1, u2, rfl, r1, r2⟩ := vals2 r
  cases r1
  cases (show u2 = Value.ref tp from r2)
  obtain ⟨od, J⟩ := caught_inst I hz hf hc hd
  obtain ⟨_, its, rv, o, h1, h2, n, h3⟩ := (show ObjOk X.prog X.w H s.heap tp (.tup cs) from I.hok tp _ hT)
  have e3 := ClsV.all k rv
  subst e3
  obtain ⟨oc, odx, dt, sl⟩ := o
  simp only at h2 h3
  subst h2 h3
  exact PySem.W.kia_tup (PySem.W.kitx_exc (exc_some T) T.hg T.hk T.hs T.ha T.hn T.ht T.hm) I.kIn J h1 e (fun z => nomatch z) fun tk => ⟨.bl b, H, I.kept (t' := tk) fun _ _ z => z, rfl, q⟩
end
/-- raise C(..) in a try's body -/
def tRaiseW (C : Addr) (sp : Sp) (t : TA) (W : WX) : TS := fun _ σ H => tMkO C sp [] t σ H fun cls d H' => W cls d σ H'
def tRaiseW0 (C : Addr) (W : WX) : TS := fun _ σ H => W (.ref C) none σ H
/-- raise C(), let out of the def -/
def tRaise0 (C : Addr) (E : XK) : TS := fun _ _ H => E (.ref C) none H
end Pk
set_option Elab.async false
set_option linter.all false
set_option maxRecDepth 100000
set_option maxHeartbeats 4000000
/-! a list, tuple or dict among texts; a dict shown -/
namespace PkB
open PySem PySem.Spec PySem.SeqAt
open AutoSeq1 (wpAny_loadPart')
section
theorem dict_no_str (l : Addr) (es : Array DictEntry) (ep : Nat) (dd : Option Addr) (sl : Array (Option Value)) (z : Str) (t : Tok) :
    Meets (Builtin.«dict.__eq__» ⟨[.ref l, .str z t], []⟩) (fun _ R s => s.heap.get? l = some { cls := .type "dict", dict := dd, data := .dict es ep, slots := sl } ∧ R (.ok (.ret .notImplemented)) s) :=
  .of_wp fun prog w A R s h => by
    obtain ⟨hp, g, d, tk, os⟩ := s
    obtain ⟨hl, h⟩ := h
    have f1 := F.sub_str_dict
    wp_walk using wpAny_loadPart' hl
    exact ⟨_, rfl, h⟩
theorem str_no_dict (l : Addr) (es : Array DictEntry) (ep : Nat) (dd : Option Addr) (sl : Array (Option Value)) (z : Str) (t : Tok) :
    Meets (Builtin.«str.__eq__» ⟨[.str z t, .ref l], []⟩) (fun _ R s => s.heap.get? l = some { cls := .type "dict", dict := dd, data := .dict es ep, slots := sl } ∧ R (.ok (.ret .notImplemented)) s) :=
  .of_wp fun prog w A R s h => by
    obtain ⟨hp, g, d, tk, os⟩ := s
    obtain ⟨hl, h⟩ := h
    wp_walk using wpAny_loadPart' hl, wpAny_load hl
    exact ⟨_, rfl, h⟩
theorem eq_str_dict {A : Around} {s : Shared} {l : Addr} {o : Obj} {es : Array DictEntry} {ep : Nat} (z : Str) (t : Tok) (ho : s.heap.get? l = some o) (hc : o.cls = .type "dict") (hd : o.data = .dict es ep) (hu : A.units < cLine) : EqAt A s (.str z t) (.ref l) false := fun prog w E Q h => by
  obtain ⟨cls, dd, data, sl⟩ := o
  simp only at hc hd
  subst hc hd
  unfold eqBool
  refine wpAny_holding ?_
  refine wpAny_ite_split (fun hab => absurd (eq_of_beq hab) nofun) (fun _ => ?_)
  refine wpAny_bind (rc_eq_decline_or (k := false) (typeIs_str s z t) ⟨_, ho, rfl⟩ (by decide) F.sub_dict_str F.slot_str_eq F.slot_dict_eq_refl ?_ ?_ ?_ (.inr hu) (wpAny_truthy_bool h))
  · exact fun _ hq => call_meets F.slot_str_eq (typeIs_str s z t) F.entry_str_eq (F.args_str_eq_2 _ _) (str_no_dict l es ep dd sl z t) ⟨ho, hq⟩
  · exact fun _ hq => call_meets F.slot_dict_eq_refl ⟨_, ho, rfl⟩ F.entry_dict_eq (F.args_dict_eq_2 _ _) (dict_no_str l es ep dd sl z t) ⟨ho, hq⟩
  · exact fun _ hq => wpAny_of_eq (rfl : isSame (.str z t) (.ref l) = pure false) hq
end
open L2 PyProof.Rows
section
variable {X : Cx}
/-- a list, a tuple or a dict among texts -/
def rInR (K : PySem.W.Frag) : R2 := fun x y H Q => ∃ (a p : Addr) (zs : List Str), x = .ref a ∧ y = .ref p ∧ SqT K H p (zs.map V.str) ∧ ((∃ xs, SqL K H a xs) ∨ (∃ xs, SqT K H a xs) ∨ ∃ kvs, H a = some (.dK kvs)) ∧ Q (.bl false) H
theorem strs_in : ∀ {zs : List Str} {us : List Value}, Vals (zs.map V.str) us → ∀ u ∈ us, ∃ z t, u = .str z t
  | [], _, .nil, u, hu => nomatch hu
  | z :: zs, _, .cons r q, u, hu => by
    rcases List.mem_cons.mp hu with rfl | hu
    · obtain ⟨t, e⟩ := r
      exact ⟨z, t, e⟩
    · exact strs_in q u hu
theorem op_inR (hu : X.A.units + 64 < cLine) : OpR X (compareOp .In) (rInR X.K) := by
  intro pins s σ H x y v u Q I rx ry h
  obtain ⟨a, p, zs, rfl, rfl, hp, ha, q⟩ := h
  cases rx
  cases ry
  obtain ⟨its, r, pl, hz⟩ := I.tuple hp
  have hu' : X.A.in1.units < cLine := by
    have : X.A.in1.units ≤ X.A.units + 1 := Nat.le_refl _
    omega
  refine SeqAt.in_tupleAt (fun _ => false) pl (fun w hw => ?_) ⟨.bl false, H, I, ?_, q⟩
  · obtain ⟨z, t, rfl⟩ := strs_in r w (by simpa using hw)
    rcases ha with ⟨xs, ha⟩ | ⟨xs, ha⟩ | ⟨kvs, ha⟩
    · obtain ⟨it2, _, p2, _⟩ := I.list ha
      exact EqAt.str_list z t p2.isList hu'
    · obtain ⟨it2, _, p2, _⟩ := I.tuple ha
      exact EqAt.str_tuple z t p2 hu'
    · obtain ⟨_, _, vs, _, o, es, ep, e1, e2, e3, _⟩ := dk_of I.hok ha
      exact eq_str_dict z t e1 e2.1 e3 hu'
  · show RelV (.bl false) (.bool (its.toArray.any fun _ => false))
    rw [show (its.toArray.any fun _ => false) = false by simp]
    rfl
/-- the dict {'a': 1} -/
abbrev oddD : List (Key × V) := [(.inr "a", .int 1)]
abbrev oddPd : PyData := .dict [(.str "a", .int 1)]
def rReprD : List V → Hp → VK → Prop := fun xs H Q => ∃ (a : Addr), xs = [.ref a] ∧ H a = some (.dK oddD) ∧ Q (.str oddPd.shown) H
theorem call_reprD (gd : X.A.guards = some []) (hu : X.A.units + 68 < cLine) : CallR X (.builtin "repr") rReprD := by
  intro pins s σ H xs us Q I r h
  obtain ⟨a, rfl, ha, q⟩ := h
  rw [Vals.ref1 r]
  obtain ⟨_, hd, vs, kv, o, es, ep, e1, e2, e3, _, pr, _⟩ := dk_of I.hok ha
  obtain ⟨q1, rfl, c1, c2⟩ : ∃ q1, vs = [q1] ∧ (Sum.inr "a" : Key) = q1.1 ∧ RelV (.int 1) q1.2 := by
    cases kv with
    | cons h t => cases t; exact ⟨_, rfl, h.1, h.2⟩
  obtain ⟨k1, v1⟩ := q1
  dsimp only at c1 c2
  subst c1
  obtain ⟨t1, rfl⟩ := c2
  have rd : ∃ as, Reads s.heap (.ref a) oddPd as ∧ sysModules ∉ as := by
    generalize hl : es.toList = l at pr
    cases pr with
    | cons k1 k2 k3 =>
      rename_i e _
      cases k3
      have ek : ∃ u, e.key = .str "a" u := by
        rcases keyIs_shape (show keyIs (.inr "a") e.key = true from k1) with ⟨i, u, z, _⟩ | ⟨y, u, z, ek⟩
        · exact nomatch z
        · obtain rfl := Sum.inr.inj z
          exact ⟨u, ek⟩
      obtain ⟨u, ek⟩ := ek
      refine ⟨a :: (([] ++ []) ++ ([] ++ [])), .dict e1 e2.1 e3 ?_ ?_, ?_⟩
      · rw [hl]
        show ReadsAll s.heap [e.key] [.str "a"] ([] ++ [])
        rw [ek]
        exact .cons (.str _ _) .nil
      · rw [hl]
        show ReadsAll s.heap [e.val] [.int 1] ([] ++ [])
        rw [k2]
        exact .cons (.int _ _) .nil
      · intro m
        have e0 : sysModules = a := by simpa using m
        rw [← e0] at hd
        exact absurd hd (by decide)
  obtain ⟨as, rd, ns⟩ := rd
  have z : oddPd.shown.length ≤ sizeLine := Nat.le_of_lt (small1000 (by decide +kernel))
  have dp : oddPd.depth ≤ 2 := by decide +kernel
  exact repr_of_reads' rd (by decide +kernel) (fun _ => ns) gd (by omega) (fun _ _ z => z) (fun h' t tk k => ⟨.str oddPd.shown, H, I.kept k, ⟨_, rfl⟩, q⟩) z
def tJoinL (K : PySem.W.Frag) (to te : TE) : TE := tM1 (fun x xs H Q => ∃ a p, ∃ ys : List Str, x = .str a ∧ xs = [.ref p] ∧ (SqL K H p (ys.map V.str) ∨ SqT K H p (ys.map V.str)) ∧
  (ys.map (·.length)).sum + ys.length * a.length ≤ 16777216 ∧ Q (.str (Txt.join a ys)) H) to te
def rReprU (K : PySem.W.Frag) : List V → Hp → VK → Prop := fun xs H Q => Pk.rRepr K xs H Q ∨ rReprD xs H Q
def rInAny (K : PySem.W.Frag) : R2 := fun x y H Q => Pk.rInU K x y H Q ∨ rInR K x y H Q
/-- the display {'a': 1} -/
theorem disp_odd {σ : L2.St} {H : Hp} {Q : VK} (k : ∀ p, H p = none → Q (.ref p) (upd (upd H p (.dK [])) p (.dK oddD))) : tDisp [(tC (.str "a"), tC (.int 1))] σ H Q := fun p hp => ⟨upd_same, oddD, rfl, by decide, k p hp⟩
end
end PkB
set_option Elab.async false
set_option linter.all false
set_option maxRecDepth 100000
set_option maxHeartbeats 2000000
/-! words for texts: f'..', startswith, str of a number -/
namespace PkC
open PySem PySem.Spec L2 PyProof.Rows
def tJoined (ts : List TE) : TE := fun σ H Q => tJs ts Str.empty σ H fun out H1 => Q (.str out) H1
def rStrI : List V → Hp → VK → Prop := fun xs H Q => ∃ i : Int, xs = [.int i] ∧ i.natAbs.log2 < 1920 ∧ Q (.str (toString i)) H
def rSw1 : V → List V → Hp → VK → Prop := fun x xs H Q => ∃ a b, x = .str a ∧ xs = [.str b] ∧ Q (.bl (Txt.startswith a b)) H
def rSw3 : V → List V → Hp → VK → Prop := fun x xs H Q => ∃ (a b : Str) (i : Int), x = .str a ∧ xs = [.str b, .int i] ∧ Q (.bl (Txt.startswith3 a b i)) H
/-! the signs of a text -/
abbrev tl (x : Str) : List Nat := x.cps.toList
abbrev S (l : List Nat) : Str := ⟨l.toArray⟩
theorem tl_S (l : List Nat) : tl (S l) = l := by simp [tl, S]
theorem S_tl (x : Str) : S (tl x) = x := by
  obtain ⟨⟨l⟩⟩ := x
  rfl
theorem len_S (l : List Nat) : (S l).length = l.length := by simp [S, Str.length]
theorem app_S (a b : List Nat) : S a ++ S b = S (a ++ b) := by
  show Str.mk (a.toArray ++ b.toArray) = Str.mk (a ++ b).toArray
  rw [List.append_toArray]
/-- a slice from a place on, and between two places -/
theorem cut_S {l : List Nat} {i j : Nat} (h : i ≤ j) (hj : j ≤ l.length) : cutS (S l) (some (i : Int)) (some (j : Int)) = S ((l.drop i).take (j - i)) := by
  unfold cutS
  rw [HT.sIx_nat, HT.sIx_nat, len_S, Nat.min_eq_left hj, Nat.min_eq_left (Nat.le_trans h hj)]
theorem cut_from {l : List Nat} {i : Nat} (h : i ≤ l.length) : cutS (S l) (some (i : Int)) none = S (l.drop i) := by
  unfold cutS
  rw [HT.sIx_nat, HT.sIx_none, len_S, Nat.min_eq_left h]
  show S (((tl (S l)).drop i).take (l.length - i)) = _
  rw [tl_S, List.take_of_length_le (by rw [List.length_drop]; exact Nat.le_refl _)]
theorem sub_S {l : List Nat} {c i : Nat} : (decide (i + 1 ≤ l.length) && Builtin.Str.subAt (S l) (S [c]) i) = decide (l[i]? = some c) := by
  unfold Builtin.Str.subAt
  have e1 : (S [c]).length = 1 := rfl
  have e2 : (S l).cps.extract i (i + 1) = ((l.drop i).take 1).toArray := by simp [S]
  rw [e1, e2]
  show (decide _ && (((l.drop i).take 1).toArray == [c].toArray)) = _
  by_cases h : i < l.length
  · have e3 : (l.drop i).take 1 = [l[i]] := by
      rw [List.drop_eq_getElem_cons h]
      rfl
    rw [e3, List.getElem?_eq_getElem h, decide_eq_true (by omega), Bool.true_and]
    by_cases e : l[i] = c
    · simp [e]
    · simp [e]
  · rw [decide_eq_false (by omega), List.getElem?_eq_none (by omega)]
    rfl
/-- startswith of one sign, from a place on -/
theorem sw3_S {l : List Nat} {c i : Nat} : Txt.startswith3 (S l) (S [c]) (i : Int) = decide (l[i]? = some c) := by
  unfold Txt.startswith3
  have e : fromIndex (S l).length (i : Int) = i := by
    unfold fromIndex
    rw [if_neg (by omega)]
    omega
  rw [e, len_S, ← sub_S]
  rfl
theorem sw1_S {l : List Nat} {c : Nat} : Txt.startswith (S l) (S [c]) = decide (l[0]? = some c) := by
  unfold Txt.startswith
  rw [len_S, ← sub_S]
  rfl
open Pk
/-! over the signs of a text -/
theorem lc_str {x : Str} {g : TG} {tt : TT} {te : TE} {vs : List Nat} {σ : L2.St} {H1 : Hp} {D : Addr} {Qd : Hp → Prop} (Pv : Nat → Hp → Prop) (h0 : Pv 0 (upd H1 D (.lst [])))
    (hs : ∀ (i c : Nat) H, x.cps.toList[i]? = some c → Pv i H → g (.str ⟨#[c]⟩) (wipe σ vs) H fun σ2 H2 => wipe σ2 vs = wipe σ vs ∧ tt σ2 H2 fun b H3 =>
      if b = true then te σ2 H3 fun y H4 => ∃ acc, H4 D = some (.lst acc) ∧ acc.length < sizeLine ∧ Pv (i + 1) (upd H4 D (.lst (acc ++ [y]))) else Pv (i + 1) H3) (hd : ∀ H, Pv x.cps.toList.length H → Qd H) :
    ∃ W : Nat → Nat → Hp → Prop, (∃ m, W 0 m (upd H1 D (.lst []))) ∧ ∀ i m H, W i m H →
      ((Its x).stop i H ∧ Qd H) ∨ ((Its x).go i H ∧ ∃ Nx : Hp → Prop, (∀ H', Nx H' → ∃ m', m' < m ∧ W (i + 1) m' H') ∧ ∀ v H', (Its x).yld i H v H' → g v (wipe σ vs) H' fun σ2 H2 => wipe σ2 vs = wipe σ vs ∧ tt σ2 H2 fun b H3 =>
        if b = true then te σ2 H3 fun y H4 => ∃ acc, H4 D = some (.lst acc) ∧ acc.length < sizeLine ∧ Nx (upd H4 D (.lst (acc ++ [y]))) else Nx H3) := by
  have sz : x.cps.size = x.cps.toList.length := Array.length_toList.symm
  refine ⟨fun i m H => m = x.cps.size - i ∧ i ≤ x.cps.size ∧ Pv i H, ⟨_, rfl, Nat.zero_le _, h0⟩, ?_⟩
  rintro i m G ⟨rfl, hi, p⟩
  by_cases lt : i < x.cps.size
  · refine .inr ⟨lt, Pv (i + 1), fun G' p' => ⟨x.cps.size - (i + 1), by omega, rfl, lt, p'⟩, ?_⟩
    rintro v G' ⟨rfl, c, hc, rfl⟩
    exact hs i c _ (by rw [Array.getElem?_toList]; exact hc) p
  · have e : i = x.cps.size := by omega
    subst e
    exact .inl ⟨Nat.le_refl _, hd G (sz ▸ p)⟩
/-- a short text, many times -/
def rRepS2 : R2 := fun x y H Q => ∃ z n, x = .str z ∧ y = .int n ∧ z.length ≤ 100 ∧ 0 ≤ n ∧ n ≤ 10000 ∧ Q (.str (Txt.mul z n)) H
section
variable {X : Cx}
theorem op_repS2 : OpR X (binaryOp .Mult) rRepS2 := by
  intro pins s σ H x y v u Q I rx ry h
  obtain ⟨z, n, rfl, rfl, hz, h0, h1, q⟩ := h
  obtain ⟨t, rfl⟩ := rx
  obtain ⟨t', rfl⟩ := ry
  refine SB.mul ⟨?_, fun a _ => ?_, fun a _ => ?_⟩ fun t2 k => ⟨.str _, H, I.tok k, ⟨_, rfl⟩, q⟩
  · rw [decide_eq_false (show ¬ n < -(2 ^ 63 : Int) by omega), decide_eq_false (show ¬ n ≥ 2 ^ 63 by omega)]
    rfl
  · have h2 : (100 : Int) ≤ (2 ^ 63 - 1) / n := by
      apply Int.le_ediv_of_mul_le (by omega)
      omega
    omega
  · have h2 : z.length * n.toNat ≤ 100 * 10000 := Nat.mul_le_mul hz (by omega)
    unfold Builtin.Str.tooLong
    rw [decide_eq_false]
    rw [sizeLine_eq]
    omega
end
theorem fold_rep (a : List Nat) : ∀ (n : Nat) (acc : Array Nat), (List.replicate n a.toArray).foldl (· ++ ·) acc = acc ++ ((List.replicate n a).flatten).toArray
  | 0, acc => by simp
  | n + 1, acc => by
    rw [List.replicate_succ, List.foldl_cons, fold_rep a n, List.replicate_succ, List.flatten_cons, ← List.append_toArray, Array.append_assoc]
theorem mul_S {a : List Nat} {n : Nat} (h : 2 ≤ n) (ne : a ≠ []) : Txt.mul (S a) (n : Int) = S ((List.replicate n a).flatten) := by
  unfold Txt.mul
  have l : (S a).length ≠ 0 := by
    rw [len_S]
    exact fun e => ne (List.length_eq_zero_iff.mp e)
  have c : ((n : Int) == 1 || (S a).length == 0) = false := by
    rw [Bool.or_eq_false_iff]
    exact ⟨by simp; omega, by simpa using l⟩
  rw [if_neg (by omega), c, if_neg (by decide), Int.toNat_natCast]
  show Str.mk ((List.replicate n a.toArray).foldl (· ++ ·) #[]) = _
  rw [fold_rep]
  simp [S]
end PkC
set_option Elab.async false
set_option linter.all false
set_option maxRecDepth 100000
set_option maxHeartbeats 2000000
namespace Pk
open PySem PySem.Spec L2 PyProof.Rows PkC
/-! frames as lists of signs -/
def inR (lo hi c : Nat) : Bool := decide (lo ≤ c) && decide (c ≤ hi)
def runOf (lo hi : Nat) : Nat → List Nat → List Nat
  | 0, _ => []
  | _ + 1, [] => []
  | m + 1, c :: s => if inR lo hi c = true then c :: runOf lo hi m s else []
theorem runOf_app {lo hi : Nat} : ∀ {n : List Nat} {m : Nat} {rest : List Nat}, n.all (inR lo hi) = true → n.length ≤ m → (n.length = m ∨ rest = [] ∨ ∃ c r, rest = c :: r ∧ inR lo hi c = false) → runOf lo hi m (n ++ rest) = n
  | [], m, rest, _, _, h => by
    rw [List.nil_append]
    cases m with
    | zero => rfl
    | succ m =>
      rcases h with h | rfl | ⟨c, r, rfl, h⟩
      · exact absurd h (by simp)
      · rfl
      · show (if inR lo hi c = true then _ else _) = _
        rw [h]
        rfl
  | c :: n, m, rest, a, l, h => by
    obtain ⟨a1, a2⟩ := Bool.and_eq_true_iff.mp (show (inR lo hi c && n.all (inR lo hi)) = true from a)
    cases m with
    | zero => exact absurd l (by simp)
    | succ m =>
      show (if inR lo hi c = true then c :: runOf lo hi m (n ++ rest) else []) = _
      rw [if_pos a1, runOf_app a2 (by simpa using l) (h.imp (fun e => by simpa using e) id)]
def Name (n : List Nat) : Prop := 1 ≤ n.length ∧ n.length ≤ 8 ∧ n.all (inR 97 122) = true
def good (c : Nat) : Bool := inR 32 126 c && decide (c ≠ 37)
def Body (x : List Nat) : Prop := 1 ≤ x.length ∧ x.length ≤ 200 ∧ x.all good = true
inductive Fr where
  | back (n : List Nat) (k : Nat)
  | data (n x : List Nat) (w e : Bool)
def Fr.ok : Fr → Prop
  | .back n k => Name n ∧ 1 ≤ k ∧ k < 10 ^ 39
  | .data n x _ _ => Name n ∧ Body x
def marks (w e : Bool) : List Nat := (if w = true then [119] else []) ++ (if e = true then [101] else [])
/-- what stands before the body, behind the first sign -/
def head (n : List Nat) (k sg : Nat) : List Nat := n ++ 44 :: (TL.numL k ++ [sg])
def body (x : List Nat) (w e : Bool) : List Nat := marks w e ++ 58 :: (x ++ [59])
def Fr.enc : Fr → List Nat
  | .back n k => 98 :: head n k 59
  | .data n x w e => 100 :: (head n x.length 44 ++ body x w e)
theorem digits_all (k : Nat) : (TL.numL k).all (inR 48 57) = true := by
  rw [List.all_eq_true]
  intro c hc
  have := TL.numL_digits k c hc
  unfold inR
  rw [decide_eq_true (by omega), decide_eq_true (by omega)]
  rfl
theorem numL_head : ∀ k : Nat, 1 ≤ k → (TL.numL k)[0]? ≠ some 48 := by
  intro k
  induction k using Nat.strongRecOn with
  | _ k ih =>
    intro h
    by_cases l : k < 10
    · rw [TL.numL_lt l]
      show some (48 + k) ≠ some 48
      intro e
      have := Option.some.inj e
      omega
    · rw [TL.numL_step (by omega)]
      have := ih (k / 10) (by omega) (by omega)
      have ne := TL.numL_ne (k / 10)
      rw [List.getElem?_append_left (List.length_pos_iff.mpr ne)]
      exact this
theorem val_prefix : ∀ (b a : List Nat), NumText.digitsVal a ≤ NumText.digitsVal (a ++ b)
  | [], a => by rw [List.append_nil]; exact Nat.le_refl _
  | c :: b, a => by
    have := val_prefix b (a ++ [c])
    rw [NumText.digitsVal_snoc, List.append_assoc] at this
    have e : a ++ ([c] ++ b) = a ++ c :: b := rfl
    rw [e] at this
    omega
theorem le_sg {a c : Nat} : (!decide ((⟨#[c]⟩ : Str).cps.toList < (S [a]).cps.toList)) = decide (a ≤ c) := by
  show (!decide ([c] < [a])) = _
  by_cases h : a ≤ c
  · rw [decide_eq_true h, decide_eq_false (by rw [List.cons_lt_cons_iff]; simp; omega)]
    rfl
  · rw [decide_eq_false h, decide_eq_true (by rw [List.cons_lt_cons_iff]; left; omega)]
    rfl
theorem ge_sg {a c : Nat} : (!decide ((S [a]).cps.toList < (⟨#[c]⟩ : Str).cps.toList)) = decide (c ≤ a) := by
  show (!decide ([a] < [c])) = _
  by_cases h : c ≤ a
  · rw [decide_eq_true h, decide_eq_false (by rw [List.cons_lt_cons_iff]; simp; omega)]
    rfl
  · rw [decide_eq_false h, decide_eq_true (by rw [List.cons_lt_cons_iff]; left; omega)]
    rfl
section
variable {K : PySem.W.Frag} {C : Cs} {vs : List V} {H H' G G' : Hp} {Q : VK} {E : XK} {v : V}
/-- a text that fits -/
def Fits (L : List Nat) : Prop := L.length ≤ 100000
theorem Fits.le {L : List Nat} (h : Fits L) : (S L).length ≤ sizeLine := by
  rw [len_S, sizeLine_eq]
  have := h
  unfold Fits at this
  omega
theorem at_S {L : List Nat} {j : Nat} (h : j < L.length) : atI (S L).cps.toList (j : Int) = some L[j] := atI_nat (j := j) (List.getElem?_eq_getElem h)
theorem len_of {L : List Nat} (f : Fits L) : LenV K (.str (S L)) H L.length := ⟨f.le, (len_S L).symm⟩
def sp_run_at (K : PySem.W.Frag) : Sp := fun vs H Q _ => ∃ (L : List Nat) (i lo hi m : Nat), vs = [.str (S L), .int i, .str (S [lo]), .str (S [hi]), .int m] ∧ Fits L ∧ i ≤ L.length ∧
  ∀ p H', Same H H' → H' p = some (.tup [.str (S (runOf lo hi m (L.drop i))), .int ((i + (runOf lo hi m (L.drop i)).length : Nat) : Int)]) → Q (.ref p) H'
def t_run_at (K : PySem.W.Frag) : TS :=
  (tSeq (tAsg (tVar 1) (gName 5))
    (tSeq (tWhile (tAnd (tTest (tOp (rLtI) (tVar 5) (tCB (rLenU K) (tCons (tVar 0) tNil)))) (tAnd (tTest (tOp (rLtI) (tVar 5) (tOp (rAddU K) (tVar 1) (tVar 4)))) (tTest (tChain (rLeU) (rLeU) (tVar 2) (tOp (rIx K) (tVar 0) (tVar 5)) (tVar 3))))) (tAsg (tOp (rAddU K) (tVar 5) (tC (.int 1))) (gName 5)))
    (tRet (tTup (tCons (tSl (L2.rSlS) (tVar 0) (tPart (tVar 1)) (tPart (tVar 5))) (tCons (tVar 5) tNil))))))
theorem ln_run_at (h : sp_run_at K vs H Q E) : vs.length = 5 := by obtain ⟨_, _, _, _, _, rfl, _⟩ := h; rfl
theorem rd_run_at (h : sp_run_at K vs H Q E) : t_run_at K (EndsOf Q) (start ["", "", "", "", "", ""] vs) H := by
  obtain ⟨L, i, lo, hi, m, rfl, f, hi', k⟩ := h
  refine ⟨_, rfl, ?_⟩
  dsimp only [gName]
  refine ⟨fun q σ G => ∃ j : Nat, q = L.length - j ∧ i ≤ j ∧ j ≤ L.length ∧ σ = [some (.str (S L)), some (.int i), some (.str (S [lo])), some (.str (S [hi])), some (.int m), some (.int j)] ∧ G = H ∧ j - i ≤ m ∧
    runOf lo hi m (L.drop i) = (L.drop i).take (j - i) ++ runOf lo hi (m - (j - i)) (L.drop j), ⟨_, i, rfl, Nat.le_refl _, hi', rfl, rfl, by omega, by rw [Nat.sub_self, List.take_zero, Nat.sub_zero]; rfl⟩, ?_⟩
  rintro q σ G ⟨j, rfl, ij, jl, rfl, rfl, jm, e⟩
  have done : runOf lo hi (m - (j - i)) (L.drop j) = [] →
      (tRet (tTup (tCons (tSl (L2.rSlS) (tVar 0) (tPart (tVar 1)) (tPart (tVar 5))) (tCons (tVar 5) tNil)))) (EndsOf Q) [some (.str (S L)), some (.int i), some (.str (S [lo])), some (.str (S [hi])), some (.int m), some (.int j)] G := by
    intro z
    rw [z, List.append_nil] at e
    have len : (runOf lo hi m (L.drop i)).length = j - i := by rw [e, List.length_take, List.length_drop]; omega
    refine ⟨_, rfl, _, rfl, _, rfl, _, rfl, _, rfl, S L, rfl, f.le, _, rfl, two_fit.2.1, fun p hp => k p _ (same_new hp) ?_⟩
    rw [upd_same, len, e, cut_S ij jl]
    have : i + (j - i) = j := by omega
    rw [this]
  refine ⟨_, rfl, _, rfl, .inl ⟨_, L.length, rfl, len_of f, _, _, rfl, rfl, _, rfl, ?_⟩⟩
  refine ifD (fun c1 => ?_) (fun c1 => done ?_)
  · have lt : j < L.length := by omega
    refine ⟨_, rfl, _, rfl, _, rfl, .inl ⟨_, _, rfl, rfl, _, _, rfl, rfl, _, rfl, ?_⟩⟩
    refine ifD (fun c2 => ?_) (fun c2 => done ?_)
    · have ed : L.drop j = L[j] :: L.drop (j + 1) := List.drop_eq_getElem_cons lt
      obtain ⟨q, hq⟩ : ∃ q, m - (j - i) = q + 1 := ⟨m - (j - i) - 1, by omega⟩
      have er : runOf lo hi (m - (j - i)) (L.drop j) = if inR lo hi L[j] = true then L[j] :: runOf lo hi q (L.drop (j + 1)) else [] := by rw [hq, ed]; rfl
      refine ⟨_, rfl, _, rfl, _, rfl, .inr (.inr ⟨S L, j, L[j], rfl, rfl, f.le, at_S lt, .inr ⟨_, _, rfl, rfl, _, rfl, ?_⟩⟩)⟩
      rw [le_sg]
      by_cases h1 : lo ≤ L[j]
      · refine iteT' (decide_eq_true h1) ⟨_, rfl, .inr ⟨_, _, rfl, rfl, _, rfl, ?_⟩⟩
        rw [ge_sg]
        by_cases h2 : L[j] ≤ hi
        · have yes : inR lo hi L[j] = true := by unfold inR; rw [decide_eq_true h1, decide_eq_true h2]; rfl
          rw [if_pos yes] at er
          refine iteT' (decide_eq_true h2) ⟨fun σ' G' => ∃ m', m' < L.length - j ∧ ∃ j' : Nat, m' = L.length - j' ∧ i ≤ j' ∧ j' ≤ L.length ∧ σ' = [some (.str (S L)), some (.int i), some (.str (S [lo])), some (.str (S [hi])), some (.int m), some (.int j')] ∧ G' = G ∧ j' - i ≤ m ∧
            runOf lo hi m (L.drop i) = (L.drop i).take (j' - i) ++ runOf lo hi (m - (j' - i)) (L.drop j'), fun σ' G' h => h, ?_⟩
          refine ⟨_, rfl, .inl ⟨_, _, rfl, rfl, L.length - (j + 1), by omega, j + 1, rfl, by omega, lt, rfl, rfl, by omega, ?_⟩⟩
          have e2 : m - (j + 1 - i) = q := by omega
          have e3 : j + 1 - i = (j - i) + 1 := by omega
          have e4 : (L.drop i).take ((j - i) + 1) = (L.drop i).take (j - i) ++ [L[j]] := by
            have l2 : j - i < (L.drop i).length := by rw [List.length_drop]; omega
            rw [List.take_succ_eq_append_getElem l2, List.getElem_drop]
            congr 2
            simp only [show i + (j - i) = j by omega]
          rw [e2, e3, e4, e, er, List.append_assoc]
          rfl
        · have no : inR lo hi L[j] = false := by unfold inR; rw [decide_eq_false h2, Bool.and_false]
          rw [no, if_neg (by decide)] at er
          exact iteF' (decide_eq_false h2) (done er)
      · have no : inR lo hi L[j] = false := by unfold inR; rw [decide_eq_false h1]; rfl
        rw [no, if_neg (by decide)] at er
        exact iteF' (decide_eq_false h1) ⟨false, rfl, iteF' rfl (done er)⟩
    · have : m - (j - i) = 0 := by omega
      rw [this]
      rfl
  · have : L.drop j = [] := List.drop_eq_nil_iff.mpr (by omega)
    rw [this]
    cases m - (j - i) <;> rfl
/-- what lies ahead: the head whole, or a beginning of it -/
def Ahead (L : List Nat) (i : Nat) (h : List Nat) (F N : Prop) : Prop := (∃ post, L.drop i = h ++ post ∧ F) ∨ ∃ t, t ≠ [] ∧ L.drop i ++ t = h ∧ N
theorem head_three {s n : List Nat} {kk sg : Nat} {F N : Prop} (hn : Name n) (h : (∃ post, s = head n kk sg ++ post ∧ F) ∨ ∃ t, t ≠ [] ∧ s ++ t = head n kk sg ∧ N) :
    (s.all (inR 97 122) = true ∧ s.length ≤ 8 ∧ N) ∨ ∃ u, s = n ++ 44 :: u ∧ ((∃ post, u = TL.numL kk ++ sg :: post ∧ F) ∨ ∃ a, u ++ a = TL.numL kk ∧ N) := by
  obtain ⟨n1, n2, n3⟩ := hn
  rcases h with ⟨post, e, f⟩ | ⟨t, ne, e, f⟩
  · refine .inr ⟨TL.numL kk ++ sg :: post, ?_, .inl ⟨post, rfl, f⟩⟩
    rw [e]
    simp [head]
  · unfold head at e
    rcases List.append_eq_append_iff.mp e with ⟨a, e1, e2⟩ | ⟨c, e1, e2⟩
    · refine .inl ⟨?_, ?_, f⟩
      · rw [e1, List.all_append, Bool.and_eq_true] at n3
        exact n3.1
      · rw [e1, List.length_append] at n2
        omega
    · cases c with
      | nil =>
        rw [List.append_nil] at e1
        exact .inl ⟨by rw [e1]; exact n3, by rw [e1]; exact n2, f⟩
      | cons c0 c =>
        rw [List.cons_append] at e2
        injection e2 with e3 e4
        subst e3
        refine .inr ⟨c, e1, .inr ?_⟩
        rcases List.append_eq_append_iff.mp e4 with ⟨a, e5, e6⟩ | ⟨d, e5, e6⟩
        · cases a with
          | nil => exact ⟨[], by rw [List.append_nil, e5, List.append_nil], f⟩
          | cons a0 a =>
            have := congrArg List.length e6
            rw [List.length_append, List.length_cons, List.length_cons] at this
            have := List.length_pos_iff.mpr ne
            simp only [List.length_nil] at *
            omega
        · exact ⟨d, e5.symm, f⟩
def sp_head_at (K : PySem.W.Frag) : Sp := fun vs H Q _ => ∃ (L : List Nat) (i mo sg : Nat) (n : List Nat) (kk : Nat), vs = [.str (S L), .int i, .int mo, .str (S [sg])] ∧ Fits L ∧ i ≤ L.length ∧ Name n ∧ 1 ≤ kk ∧ kk ≤ mo ∧ mo < 10 ^ 39 ∧ (TL.numL kk).length ≤ (TL.numL mo).length ∧ (sg < 48 ∨ 57 < sg) ∧
  Ahead L i (head n kk sg) (∀ p H', Same H H' → H' p = some (.tup [.str (S n), .int kk, .int ((i + (head n kk sg).length : Nat) : Int)]) → Q (.ref p) H') (∀ H', Same H H' → Q .non H')
def t_head_at (K : PySem.W.Frag) : TS :=
  (tSeq (tAsg (tCall (sp_run_at K) [] E0 (tCons (tVar 0) (tCons (tVar 1) (tCons (tC (.str "a")) (tCons (tC (.str "z")) (tCons (tC (.int 8)) tNil)))))) (gTup K 2 (gCons (gName 4) (gCons (gName 1) gNil))))
    (tSeq (tIfS (tTest (tOp (rEqU K) (tVar 1) (tCB (rLenU K) (tCons (tVar 0) tNil)))) (tRet (tC .non)) tNext)
    (tSeq (tIfS (tOr (tTest (tOp (rEqU K) (tVar 4) (tC (.str "")))) (tTest (tOp (rNeU K) (tOp (rIx K) (tVar 0) (tVar 1)) (tC (.str ","))))) tNever tNext)
    (tSeq (tAsg (tCall (sp_run_at K) [] E0 (tCons (tVar 0) (tCons (tOp (rAddU K) (tVar 1) (tC (.int 1))) (tCons (tC (.str "0")) (tCons (tC (.str "9")) (tCons (tCB (rLenU K) (tCons (tCB (PkC.rStrI) (tCons (tVar 2) tNil)) tNil)) tNil)))))) (gTup K 2 (gCons (gName 5) (gCons (gName 1) gNil))))
    (tSeq (tIfS (tOr (tB (tBM K "str" PkC.rSw1 (tVar 5) (tCons (tC (.str "0")) tNil))) (tAnd (tTest (tOp (rNeU K) (tVar 5) (tC (.str "")))) (tTest (tOp (rGtI) (tCB (rIntU) (tCons (tVar 5) tNil)) (tVar 2))))) tNever tNext)
    (tSeq (tIfS (tTest (tOp (rEqU K) (tVar 1) (tCB (rLenU K) (tCons (tVar 0) tNil)))) (tRet (tC .non)) tNext)
    (tSeq (tIfS (tOr (tTest (tOp (rEqU K) (tVar 5) (tC (.str "")))) (tTest (tOp (rNeU K) (tOp (rIx K) (tVar 0) (tVar 1)) (tVar 3)))) tNever tNext)
    (tRet (tTup (tCons (tVar 4) (tCons (tCB (rIntU) (tCons (tVar 5) tNil)) (tCons (tOp (rAddU K) (tVar 1) (tC (.int 1))) tNil))))))))))))
theorem ln_head_at (h : sp_head_at K vs H Q E) : vs.length = 4 := by obtain ⟨_, _, _, _, _, _, rfl, _⟩ := h; rfl
theorem rd_head_at (h : sp_head_at K vs H Q E) : t_head_at K (EndsOf Q) (start ["", "", "", "", "", ""] vs) H := by
  obtain ⟨L, i, mo, sg, n, kk, rfl, f, il, hn, k1, k2, m39, dl, sgo, ah⟩ := h
  have three := head_three hn ah
  clear ah
  refine ⟨_, rfl, _, rfl, L, i, 97, 122, 8, rfl, f, il, fun p1 H1 s1 h1 => g2 (SqT.of h1) ?_⟩
  refine ⟨_, rfl, _, rfl, .inl ⟨_, L.length, rfl, len_of f, .inl ⟨rfl, _, rfl, ?_⟩⟩⟩
  have ls : (L.drop i).length = L.length - i := List.length_drop
  rcases three with ⟨a, l8, kn⟩ | ⟨u, es, c⟩
  · have r1 : runOf 97 122 8 (L.drop i) = L.drop i := by
      have := runOf_app (lo := 97) (hi := 122) (n := L.drop i) (m := 8) (rest := []) a l8 (.inr (.inl rfl))
      rwa [List.append_nil] at this
    rw [r1]
    exact ifI (fun _ => kn H1 s1) fun z => absurd (by omega) z
  · have r1 : runOf 97 122 8 (L.drop i) = n := by rw [es]; exact runOf_app hn.2.2 hn.2.1 (.inr (.inr ⟨44, u, rfl, by decide⟩))
    rw [r1]
    have ln : L.length = i + n.length + 1 + u.length := by
      rw [es, List.length_append, List.length_cons] at ls
      omega
    have lt1 : i + n.length < L.length := by omega
    have g1 : L[i + n.length] = 44 := by
      have e : (L.drop i)[n.length]? = some 44 := by rw [es, List.getElem?_append_right (Nat.le_refl _), Nat.sub_self]; rfl
      rw [List.getElem?_drop, List.getElem?_eq_getElem lt1] at e
      exact Option.some.inj e
    have du : L.drop (i + n.length + 1) = u := by
      have e : (L.drop i).drop (n.length + 1) = u := by rw [es, List.drop_append]; simp
      rw [List.drop_drop] at e
      exact e
    refine ifI (fun z => absurd z (by omega)) fun _ => ?_
    refine ⟨_, rfl, .inl ⟨rfl, _, rfl, ?_⟩⟩
    have nn : ¬ (S n = ("" : Str)) := fun z => by
      have := congrArg (fun x : Str => x.length) z
      have e1 : (S n).length = n.length := len_S n
      have e2 : ("" : Str).length = 0 := rfl
      have := hn.1
      simp only [e1, e2] at *
      omega
    refine iteF' (decide_eq_false fun z => nn (V.str.inj z)) ?_
    refine ⟨_, rfl, _, rfl, .inr (.inr ⟨S L, ((i + n.length : Nat) : Int), 44, rfl, rfl, f.le, by rw [at_S lt1, g1], .inl ⟨rfl, _, rfl, ?_⟩⟩)⟩
    refine iteF' rfl ?_
    -- the digits
    have f39 : (TL.numL mo).length ≤ 39 := TL.numL_len (by decide) m39
    refine ⟨_, rfl, _, rfl, .inl ⟨_, _, rfl, rfl, ?_⟩⟩
    have hd : (Str.ofString (toString ((mo : Nat) : Int))).length = (TL.numL mo).length := by rw [← TL.tl_num mo]; exact Array.length_toList.symm
    have b39 : (10 : Nat) ^ 39 ≤ 10 ^ 100 := by decide
    have l100 : (Str.ofString (toString ((mo : Nat) : Int))).length ≤ 100 := by rw [hd]; omega
    refine ⟨_, rfl, _, rfl, of_decide_eq_true (small_log (by omega)), .inl ⟨_, _, rfl, ⟨Nat.le_of_lt (small1000 (Nat.le_trans l100 (by decide))), rfl⟩, L, i + n.length + 1, 48, 57, _, rfl, f, by omega, fun p2 H2 s2 h2 => g2 (SqT.of h2) ?_⟩⟩
    rw [hd, du]
    have s12 := s1.trans s2
    clear h1 h2 p1 p2
    have ld : (TL.numL kk).length ≤ 39 := by omega
    obtain ⟨D, eD, ⟨a, ea⟩, cc⟩ : ∃ D, runOf 48 57 (TL.numL mo).length u = D ∧ (∃ a, D ++ a = TL.numL kk) ∧ ((D = TL.numL kk ∧ (∃ post, u = TL.numL kk ++ sg :: post) ∧ ∀ p H', Same H H' → H' p = some (.tup [.str (S n), .int kk, .int ((i + (head n kk sg).length : Nat) : Int)]) → Q (.ref p) H') ∨ (D = u ∧ ∀ H', Same H H' → Q .non H')) := by
      rcases c with ⟨post, e, k⟩ | ⟨a, e, k⟩
      · refine ⟨TL.numL kk, ?_, ⟨[], List.append_nil _⟩, .inl ⟨rfl, ⟨post, e⟩, k⟩⟩
        rw [e]
        refine runOf_app (digits_all kk) dl (.inr (.inr ⟨sg, post, rfl, ?_⟩))
        unfold inR
        rcases sgo with z | z
        · rw [decide_eq_false (by omega)]; rfl
        · rw [decide_eq_false (show ¬ sg ≤ 57 by omega), Bool.and_false]
      · refine ⟨u, ?_, ⟨a, e⟩, .inr ⟨rfl, k⟩⟩
        have al := digits_all kk
        rw [← e, List.all_append, Bool.and_eq_true] at al
        have le : u.length ≤ (TL.numL mo).length := by
          have := congrArg List.length e
          rw [List.length_append] at this
          omega
        have := runOf_app (rest := []) al.1 le (.inr (.inl rfl))
        rwa [List.append_nil] at this
    rw [eD]
    have allD : D.all (inR 48 57) = true := by
      have al := digits_all kk
      rw [← ea, List.all_append, Bool.and_eq_true] at al
      exact al.1
    have lenD : D.length ≤ 39 := by
      have := congrArg List.length ea
      rw [List.length_append] at this
      omega
    have no0 : D[0]? ≠ some 48 := fun z => by
      have := numL_head kk k1
      rw [← ea] at this
      cases D with
      | nil => cases z
      | cons d D => exact this z
    have valD : NumText.digitsVal D ≤ mo := by
      have := val_prefix a D
      rw [ea, TL.numL_val] at this
      omega
    refine ⟨_, rfl, rfl, S D, S [48], rfl, rfl, _, rfl, ?_⟩
    rw [sw1_S, decide_eq_false no0]
    refine iteF' rfl ?_
    have intD : D ≠ [] → intText? (S D) = some ((NumText.digitsVal D : Nat) : Int) ∧ (S D).length ≤ 640 := fun ne => ⟨SX.int_S allD ne (by omega), by rw [len_S]; omega⟩
    refine ⟨_, rfl, .inl ⟨rfl, _, rfl, ?_⟩⟩
    by_cases D0 : D = []
    · subst D0
      refine iteF' rfl (iteF' rfl ?_)
      rcases cc with ⟨e, _⟩ | ⟨e, kn⟩
      · exact absurd e.symm (TL.numL_ne kk)
      · refine ⟨_, rfl, _, rfl, .inl ⟨_, L.length, rfl, len_of f, .inl ⟨rfl, _, rfl, ?_⟩⟩⟩
        exact ifI (fun _ => kn H2 s12) fun z => absurd (by rw [← e] at ln; simp only [List.length_nil] at *; omega) z
    · have nD : ¬ (S D = ("" : Str)) := fun z => by
        have z1 := congrArg (fun x : Str => x.length) z
        have e1 : (S D).length = D.length := len_S D
        have e2 : ("" : Str).length = 0 := rfl
        have := List.length_pos_iff.mpr D0
        simp only [e1, e2] at z1
        omega
      obtain ⟨i1, i2⟩ := intD D0
      refine iteT' (by rw [decide_eq_false fun z => nD (V.str.inj z)]; rfl) ?_
      refine ⟨_, rfl, .inr ⟨S D, _, rfl, i1, i2, _, rfl, _, _, rfl, rfl, _, rfl, ?_⟩⟩
      refine iteF' (decide_eq_false (by omega)) ?_
      refine ⟨_, rfl, _, rfl, .inl ⟨_, L.length, rfl, len_of f, .inl ⟨rfl, _, rfl, ?_⟩⟩⟩
      rcases cc with ⟨e, ⟨post, eu⟩, kf⟩ | ⟨e, kn⟩
      · have lu : u.length = D.length + 1 + post.length := by rw [eu, e, List.length_append, List.length_cons]; omega
        refine ifI (fun z => absurd z (by omega)) fun _ => ?_
        have lt2 : i + n.length + 1 + D.length < L.length := by omega
        have g2' : L[i + n.length + 1 + D.length] = sg := by
          have e' : (L.drop (i + n.length + 1))[D.length]? = some sg := by rw [du, eu, e, List.getElem?_append_right (Nat.le_refl _), Nat.sub_self]; rfl
          rw [List.getElem?_drop, List.getElem?_eq_getElem lt2] at e'
          exact Option.some.inj e'
        refine ⟨_, rfl, .inl ⟨rfl, _, rfl, iteF' (decide_eq_false fun z => nD (V.str.inj z)) ?_⟩⟩
        refine ⟨_, rfl, _, rfl, .inr (.inr ⟨S L, ((i + n.length + 1 + D.length : Nat) : Int), sg, rfl, rfl, f.le, by rw [at_S lt2, g2'], ?_⟩)⟩
        refine ⟨_, rfl, .inl ⟨rfl, _, rfl, iteF' (by rw [decide_eq_true (show V.str ⟨#[sg]⟩ = V.str (S [sg]) from rfl)]; rfl) ?_⟩⟩
        refine ⟨_, rfl, _, rfl, .inr ⟨S D, _, rfl, i1, i2, _, rfl, .inl ⟨_, _, rfl, rfl, two_fit.2.2.1, fun p hp => kf p _ (s12.trans (same_new hp)) ?_⟩⟩⟩
        have ev : NumText.digitsVal D = kk := by rw [e, TL.numL_val]
        have eh : (head n kk sg).length = n.length + 1 + D.length + 1 := by unfold head; rw [e]; simp; omega
        rw [upd_same, ev, eh]
        dsimp only
        have : ((i + n.length + 1 + D.length : Nat) : Int) + 1 = ((i + (n.length + 1 + D.length + 1) : Nat) : Int) := by omega
        rw [this]
      · exact ifI (fun _ => kn H2 s12) fun z => absurd (by rw [← e] at ln; omega) z
theorem kit_ss0 : PySem.W.kitOne K (.type "str") (.type "str") = some true := kit_same
def sp_is_letters (K : PySem.W.Frag) : Sp := fun vs H Q _ => ∃ x : List Nat, vs = [.str (S x)] ∧ x ≠ [] ∧ x.length ≤ 1000 ∧ x.all good = true ∧ ∀ H', Same H H' → Q (.bl true) H'
def t_is_letters (K : PySem.W.Frag) : TS :=
  (tSeq (tIfS (tOr (tNot (tB (tCB (rIsi K) (tCons (tVar 0) (tCons (tC (.ty "str")) tNil))))) (tTest (tOp (rEqU K) (tCB (rLenU K) (tCons (tVar 0) tNil)) (tC (.int 0))))) (tRet (tC (.bl false))) tNext)
    (tRet (tCB (rAll K) (tCons (tLc (iStr (tVar 0)) (gName 1) tYes (tAndV (tChain (rLeU) (rLeU) (tC (.int 32)) (tCB (rOrd) (tCons (tVar 1) tNil)) (tC (.int 126))) (tOp (rNeU K) (tCB (rOrd) (tCons (tVar 1) tNil)) (tC (.int 37)))) [1]) tNil))))
theorem ln_is_letters (h : sp_is_letters K vs H Q E) : vs.length = 1 := by obtain ⟨_, rfl, _⟩ := h; rfl
theorem rd_is_letters (h : sp_is_letters K vs H Q E) : t_is_letters K (EndsOf Q) (start ["", ""] vs) H := by
  obtain ⟨x, rfl, ne, lx, al, k⟩ := h
  have pos := List.length_pos_iff.mpr ne
  have fit : (S x).length ≤ sizeLine := by rw [len_S]; exact Nat.le_of_lt (small1000 lx)
  refine ⟨_, rfl, _, _, _, _, true, rfl, .ty _, .base (.str _), kit_same, true, rfl, iteF' rfl ?_⟩
  refine ⟨_, rfl, .inl ⟨_, x.length, rfl, ⟨fit, (len_S x).symm⟩, .inl ⟨rfl, _, rfl, ?_⟩⟩⟩
  refine ifI (fun z => absurd z (by omega)) fun _ => ?_
  refine ⟨_, rfl, S x, rfl, fun D hD => ?_⟩
  refine lc_str (fun i G => Same H G ∧ G D = some (.lst (List.replicate (min i x.length) (V.bl true)))) ⟨same_new hD, upd_same⟩ ?_ ?_
  · rintro i c G hc ⟨s, hz⟩
    refine ⟨rfl, ?_⟩
    obtain ⟨lt, ec⟩ := List.getElem?_eq_some_iff.mp hc
    have lt' : i < x.length := lt
    have gc : good c = true := List.all_eq_true.mp al c (List.mem_of_getElem? hc)
    unfold good inR at gc
    rw [Bool.and_eq_true, Bool.and_eq_true] at gc
    obtain ⟨⟨g1, g2⟩, g3⟩ := gc
    have g1 := of_decide_eq_true g1
    have g2 := of_decide_eq_true g2
    have g3 := of_decide_eq_true g3
    have e : (⟨#[c]⟩ : Str).cps.getD 0 0 = c := rfl
    refine ⟨_, rfl, _, rfl, rfl, .inl ⟨_, _, rfl, rfl, _, rfl, ?_⟩⟩
    rw [e]
    refine iteT' (decide_eq_true (by omega)) (.inl ⟨_, _, rfl, rfl, true, ?_, iteT' rfl ?_⟩)
    · show V.bl (decide ((c : Int) ≤ 126)) = _
      rw [decide_eq_true (by omega)]
    · refine ⟨_, rfl, _, rfl, rfl, .inl ⟨rfl, ?_⟩⟩
      rw [e]
      have n37 : (!decide (V.int (c : Nat) = V.int 37)) = true := by
        rw [decide_eq_false fun z => by have := V.int.inj z; omega]
        rfl
      rw [n37]
      refine ⟨_, hz, small1000 ?_, fun a o q => ?_, ?_⟩
      · rw [List.length_replicate]
        omega
      · rw [upd_ne (ne_of_none q hD)]
        exact s a o q
      · rw [upd_same]
        have : min (i + 1) x.length = min i x.length + 1 := by omega
        rw [this, List.replicate_succ']
  · rintro G ⟨s, hz⟩
    have e : (S x).cps.toList.length = x.length := rfl
    rw [e, Nat.min_self] at hz
    refine ⟨D, List.replicate x.length true, rfl, SqL.of (by rw [List.map_replicate]; exact hz), ?_⟩
    have e2 : (List.replicate x.length true).all id = true := by
      rw [List.all_eq_true]
      intro b hb
      exact (List.mem_replicate.mp hb).2
    rw [e2]
    exact k G s
theorem cut_S2 {l : List Nat} {i j : Nat} (h : i ≤ j) (hi : i ≤ l.length) : cutS (S l) (some (i : Int)) (some (j : Int)) = S ((l.drop i).take (j - i)) := by
  unfold cutS
  rw [HT.sIx_nat, HT.sIx_nat, len_S, Nat.min_eq_left hi]
  show S ((l.drop i).take (min j l.length - i)) = _
  by_cases c : j ≤ l.length
  · rw [Nat.min_eq_left c]
  · rw [Nat.min_eq_right (by omega), List.take_of_length_le (by rw [List.length_drop]; exact Nat.le_refl _), List.take_of_length_le (by rw [List.length_drop]; omega)]
/-- whole, or a beginning of it -/
def Ah (s h : List Nat) (F N : Prop) : Prop := (∃ post, s = h ++ post ∧ F) ∨ ∃ t, t ≠ [] ∧ s ++ t = h ∧ N
theorem Ah.cons {s h : List Nat} {c : Nat} {F N : Prop} (a : Ah s (c :: h) F N) : (s = [] ∧ N) ∨ ∃ s', s = c :: s' ∧ Ah s' h F N := by
  rcases a with ⟨post, e, f⟩ | ⟨t, ne, e, f⟩
  · exact .inr ⟨h ++ post, e, .inl ⟨post, rfl, f⟩⟩
  · cases s with
    | nil => exact .inl ⟨rfl, f⟩
    | cons d s =>
      rw [List.cons_append] at e
      injection e with e1 e2
      subst e1
      exact .inr ⟨s, rfl, .inr ⟨t, ne, e2, f⟩⟩
def mk1 (b : Bool) (c : Nat) : List Nat := if b = true then [c] else []
theorem strip {s rest : List Nat} {b : Bool} {c r0 : Nat} {F N : Prop} (hr : rest[0]? = some r0) (ne : r0 ≠ c) (a : Ah s (mk1 b c ++ rest) F N) :
    (s = [] ∧ N) ∨ (decide (s[0]? = some c) = b ∧ ∃ s', s = mk1 b c ++ s' ∧ Ah s' rest F N) := by
  cases b with
  | true =>
    rcases Ah.cons (h := rest) a with z | ⟨s', rfl, z⟩
    · exact .inl z
    · exact .inr ⟨by simp, s', rfl, z⟩
  | false =>
    cases rest with
    | nil => cases hr
    | cons r rest =>
      obtain rfl : r = r0 := Option.some.inj hr
      have a : Ah s (r :: rest) F N := a
      rcases Ah.cons a with z | ⟨s', rfl, z⟩
      · exact .inl z
      · exact .inr ⟨decide_eq_false fun q => ne (Option.some.inj q), _, rfl, a⟩
theorem body_eq {x : List Nat} {w e : Bool} : body x w e = mk1 w 119 ++ (mk1 e 101 ++ 58 :: (x ++ [59])) := by
  unfold body marks mk1
  cases w <;> cases e <;> rfl
def sp_body_at (K : PySem.W.Frag) : Sp := fun vs H Q _ => ∃ (L : List Nat) (i : Nat) (x : List Nat) (w e : Bool), vs = [.str (S L), .int i, .int x.length] ∧ Fits L ∧ i ≤ L.length ∧ Body x ∧
  Ah (L.drop i) (body x w e) (∀ p H', Same H H' → H' p = some (.tup [.str (S x), .bl w, .bl e, .int ((i + (body x w e).length : Nat) : Int)]) → Q (.ref p) H') (∀ H', Same H H' → Q .non H')
def t_body_at (K : PySem.W.Frag) : TS :=
  (tSeq (tAsg (tBM K "str" PkC.rSw3 (tVar 0) (tCons (tC (.str "w")) (tCons (tVar 1) tNil))) (gName 3))
    (tSeq (tAsg (tIf (tB (tVar 3)) (tOp (rAddU K) (tVar 1) (tC (.int 1))) (tVar 1)) (gName 1))
    (tSeq (tAsg (tBM K "str" PkC.rSw3 (tVar 0) (tCons (tC (.str "e")) (tCons (tVar 1) tNil))) (gName 4))
    (tSeq (tAsg (tIf (tB (tVar 4)) (tOp (rAddU K) (tVar 1) (tC (.int 1))) (tVar 1)) (gName 1))
    (tSeq (tIfS (tTest (tOp (rEqU K) (tVar 1) (tCB (rLenU K) (tCons (tVar 0) tNil)))) (tRet (tC .non)) tNext)
    (tSeq (tIfS (tTest (tOp (rNeU K) (tOp (rIx K) (tVar 0) (tVar 1)) (tC (.str ":")))) tNever tNext)
    (tSeq (tAsg (tSl (L2.rSlS) (tVar 0) (tPart (tOp (rAddU K) (tVar 1) (tC (.int 1)))) (tPart (tOp (rAddU K) (tOp (rAddU K) (tVar 1) (tC (.int 1))) (tVar 2)))) (gName 5))
    (tSeq (tAsg (tOp (rAddU K) (tOp (rAddU K) (tVar 1) (tC (.int 1))) (tVar 2)) (gName 1))
    (tSeq (tIfS (tAnd (tTest (tOp (rNeU K) (tVar 5) (tC (.str "")))) (tNot (tB (tCall (sp_is_letters K) [] E0 (tCons (tVar 5) tNil))))) tNever tNext)
    (tSeq (tIfS (tTest (tOp (rGeI) (tVar 1) (tCB (rLenU K) (tCons (tVar 0) tNil)))) (tRet (tC .non)) tNext)
    (tSeq (tIfS (tTest (tOp (rNeU K) (tOp (rIx K) (tVar 0) (tVar 1)) (tC (.str ";")))) tNever tNext)
    (tRet (tTup (tCons (tVar 5) (tCons (tVar 3) (tCons (tVar 4) (tCons (tOp (rAddU K) (tVar 1) (tC (.int 1))) tNil)))))))))))))))))
theorem ln_body_at (h : sp_body_at K vs H Q E) : vs.length = 3 := by obtain ⟨_, _, _, _, _, rfl, _⟩ := h; rfl
theorem get_drop {L : List Nat} {i : Nat} : (L.drop i)[0]? = L[i]? := by rw [List.getElem?_drop]; rfl
/-- an optional sign -/
theorem mark {L : List Nat} {i j : Nat} {c : Nat} {De : Ends} {b : Bool} {rest : TS} {σ : L2.St} {sc : Str} (h0 : σ[0]? = some (some (.str (S L)))) (h1 : σ[1]? = some (some (.int (i : Nat)))) (ec : sc = S [c]) (hj : j ≠ 1) (lj : j < σ.length) (l1 : 1 < σ.length)
    (hb : decide (L[i]? = some c) = b) (k : rest De ((σ.set j (some (.bl b))).set 1 (some (.int ((i + (if b = true then 1 else 0) : Nat) : Int)))) H) :
    tSeq (tAsg (tBM K "str" PkC.rSw3 (tVar 0) (tCons (tC (.str sc)) (tCons (tVar 1) tNil))) (gName j)) (tSeq (tAsg (tIf (tB (tVar j)) (tOp (rAddU K) (tVar 1) (tC (.int 1))) (tVar 1)) (gName 1)) rest) De σ H := by
  subst ec
  have e1 : (σ.set j (some (.bl b)))[1]? = some (some (.int (i : Nat))) := by rw [List.getElem?_set_ne hj]; exact h1
  refine ⟨_, h0, rfl, _, h1, S L, S [c], (i : Int), rfl, rfl, ?_⟩
  rw [sw3_S, hb]
  dsimp only [gName]
  refine ⟨_, List.getElem?_set_self lj, b, rfl, ?_⟩
  cases b with
  | true => exact iteT' rfl ⟨_, e1, .inl ⟨_, _, rfl, rfl, k⟩⟩
  | false => exact iteF' rfl ⟨_, e1, k⟩
def body_rest (K : PySem.W.Frag) : TS :=
  (tSeq (tIfS (tTest (tOp (rEqU K) (tVar 1) (tCB (rLenU K) (tCons (tVar 0) tNil)))) (tRet (tC .non)) tNext)
    (tSeq (tIfS (tTest (tOp (rNeU K) (tOp (rIx K) (tVar 0) (tVar 1)) (tC (.str ":")))) tNever tNext)
    (tSeq (tAsg (tSl (L2.rSlS) (tVar 0) (tPart (tOp (rAddU K) (tVar 1) (tC (.int 1)))) (tPart (tOp (rAddU K) (tOp (rAddU K) (tVar 1) (tC (.int 1))) (tVar 2)))) (gName 5))
    (tSeq (tAsg (tOp (rAddU K) (tOp (rAddU K) (tVar 1) (tC (.int 1))) (tVar 2)) (gName 1))
    (tSeq (tIfS (tAnd (tTest (tOp (rNeU K) (tVar 5) (tC (.str "")))) (tNot (tB (tCall (sp_is_letters K) [] E0 (tCons (tVar 5) tNil))))) tNever tNext)
    (tSeq (tIfS (tTest (tOp (rGeI) (tVar 1) (tCB (rLenU K) (tCons (tVar 0) tNil)))) (tRet (tC .non)) tNext)
    (tSeq (tIfS (tTest (tOp (rNeU K) (tOp (rIx K) (tVar 0) (tVar 1)) (tC (.str ";")))) tNever tNext)
    (tRet (tTup (tCons (tVar 5) (tCons (tVar 3) (tCons (tVar 4) (tCons (tOp (rAddU K) (tVar 1) (tC (.int 1))) tNil)))))))))))))
def body_last (K : PySem.W.Frag) : TS :=
  (tSeq (tIfS (tTest (tOp (rGeI) (tVar 1) (tCB (rLenU K) (tCons (tVar 0) tNil)))) (tRet (tC .non)) tNext)
    (tSeq (tIfS (tTest (tOp (rNeU K) (tOp (rIx K) (tVar 0) (tVar 1)) (tC (.str ";")))) tNever tNext)
    (tRet (tTup (tCons (tVar 5) (tCons (tVar 3) (tCons (tVar 4) (tCons (tOp (rAddU K) (tVar 1) (tC (.int 1))) tNil))))))))
theorem rd_body_rest {L : List Nat} {i : Nat} {x : List Nat} {w e : Bool} {a5 : Option V} {F : Prop} (f : Fits L) (il : i ≤ L.length) (hb : Body x)
    (a : Ah (L.drop i) (58 :: (x ++ [59])) F (∀ H', Same H H' → Q .non H') ∨ (L.drop i = [] ∧ ∀ H', Same H H' → Q .non H'))
    (kf : F → ∀ p H', Same H H' → H' p = some (.tup [.str (S x), .bl w, .bl e, .int ((i + 1 + x.length + 1 : Nat) : Int)]) → Q (.ref p) H') :
    body_rest K (EndsOf Q) [some (.str (S L)), some (.int (i : Nat)), some (.int x.length), some (.bl w), some (.bl e), a5] H := by
  refine ⟨_, rfl, _, rfl, .inl ⟨_, L.length, rfl, len_of f, .inl ⟨rfl, _, rfl, ?_⟩⟩⟩
  have ls : (L.drop i).length = L.length - i := List.length_drop
  have nil : L.drop i = [] → (i : Int) = (L.length : Nat) := fun z => by rw [z] at ls; simp only [List.length_nil] at ls; omega
  have a : (L.drop i = [] ∧ ∀ H', Same H H' → Q .non H') ∨ ∃ s', L.drop i = 58 :: s' ∧ Ah s' (x ++ [59]) F (∀ H', Same H H' → Q .non H') := a.elim (fun a => a.cons) .inl
  rcases a with ⟨z, kn⟩ | ⟨s', es, a⟩
  · exact ifI (fun _ => kn H (Same.refl H)) fun q => absurd (nil z) q
  rw [es, List.length_cons] at ls
  have lt : i < L.length := by omega
  have g0 : L[i] = 58 := by
    have e' : (L.drop i)[0]? = some 58 := by rw [es]; rfl
    rw [get_drop, List.getElem?_eq_getElem lt] at e'
    exact Option.some.inj e'
  have ds : L.drop (i + 1) = s' := by
    have e' : (L.drop i).drop 1 = s' := by rw [es]; rfl
    rwa [List.drop_drop] at e'
  refine ifI (fun z => absurd z (by omega)) fun _ => ?_
  refine ⟨_, rfl, _, rfl, .inr (.inr ⟨S L, (i : Int), 58, rfl, rfl, f.le, by rw [at_S lt, g0], .inl ⟨rfl, _, rfl, iteF' rfl ?_⟩⟩)⟩
  refine ⟨_, rfl, _, rfl, .inl ⟨_, _, rfl, rfl, _, rfl, _, rfl, .inl ⟨_, _, rfl, rfl, _, rfl, .inl ⟨_, _, rfl, rfl, _, rfl, S L, rfl, f.le, ?_⟩⟩⟩⟩
  have ec : cutS (S L) (some ((i : Int) + 1)) (some ((i : Int) + 1 + (x.length : Int))) = S (s'.take x.length) := by
    have := cut_S2 (l := L) (i := i + 1) (j := i + 1 + x.length) (by omega) lt
    rw [ds, Nat.add_sub_cancel_left] at this
    exact this
  dsimp only [gName]
  rw [ec]
  obtain ⟨b1, b2, b3⟩ := hb
  have facts : (s'.take x.length).all good = true ∧ ((s'.take x.length = x ∧ F ∧ ∃ post, s' = x ++ 59 :: post) ∨ (s'.length ≤ x.length ∧ ∀ H', Same H H' → Q .non H')) := by
    rcases a with ⟨post, e, k⟩ | ⟨t, ne, e, k⟩
    · have e' : s' = x ++ 59 :: post := by rw [e, List.append_assoc]; rfl
      have et : s'.take x.length = x := by rw [e', List.take_left']; rfl
      exact ⟨by rw [et]; exact b3, .inl ⟨et, k, post, e'⟩⟩
    · rcases List.append_eq_append_iff.mp e with ⟨c, e1, e2⟩ | ⟨c, e1, e2⟩
      · have le : s'.length ≤ x.length := by rw [e1, List.length_append]; omega
        rw [List.take_of_length_le le]
        rw [e1, List.all_append, Bool.and_eq_true] at b3
        exact ⟨b3.1, .inr ⟨le, k⟩⟩
      · have : c = [] := by
          cases c with
          | nil => rfl
          | cons c0 c =>
            have q := congrArg List.length e2
            simp only [List.length_cons, List.length_append, List.length_nil] at q
            have := List.length_pos_iff.mpr ne
            omega
        subst this
        rw [List.append_nil] at e1
        rw [e1, List.take_of_length_le (Nat.le_refl _)]
        exact ⟨b3, .inr ⟨Nat.le_refl _, k⟩⟩
  refine ⟨_, rfl, .inl ⟨_, _, rfl, rfl, _, rfl, .inl ⟨_, _, rfl, rfl, ?_⟩⟩⟩
  have last : ∀ H1, Same H H1 → body_last K (EndsOf Q) [some (.str (S L)), some (.int ((i : Int) + 1 + (x.length : Nat))), some (.int x.length), some (.bl w), some (.bl e), some (.str (S (s'.take x.length)))] H1 := by
    intro H1 s1
    refine ⟨_, rfl, _, rfl, .inl ⟨_, L.length, rfl, len_of f, _, _, rfl, rfl, _, rfl, ?_⟩⟩
    rcases facts.2 with ⟨et, hF, post, e'⟩ | ⟨le, kn⟩
    · have l2 : s'.length = x.length + 1 + post.length := by rw [e', List.length_append, List.length_cons]; omega
      refine ifD (fun z => absurd z (by omega)) fun _ => ?_
      have lt2 : i + 1 + x.length < L.length := by omega
      have g2' : L[i + 1 + x.length] = 59 := by
        have e2 : (L.drop (i + 1))[x.length]? = some 59 := by rw [ds, e', List.getElem?_append_right (Nat.le_refl _), Nat.sub_self]; rfl
        rw [List.getElem?_drop, List.getElem?_eq_getElem lt2] at e2
        exact Option.some.inj e2
      refine ⟨_, rfl, _, rfl, .inr (.inr ⟨S L, ((i + 1 + x.length : Nat) : Int), 59, rfl, rfl, f.le, by rw [at_S lt2, g2'], .inl ⟨rfl, _, rfl, iteF' rfl ?_⟩⟩)⟩
      refine ⟨_, rfl, _, rfl, _, rfl, _, rfl, .inl ⟨_, _, rfl, rfl, Nat.le_of_lt (small1000 (show 4 ≤ 1000 by decide)), fun p hp => kf hF p _ (s1.trans (same_new hp)) ?_⟩⟩
      rw [upd_same, et]
      rfl
    · exact ifD (fun _ => kn H1 s1) fun z => absurd (show (L.length : Int) ≤ (i : Int) + 1 + (x.length : Nat) by omega) z
  by_cases x0 : s'.take x.length = []
  · refine ⟨_, rfl, .inl ⟨rfl, _, rfl, ?_⟩⟩
    rw [x0] at last ⊢
    exact iteF' rfl (iteF' rfl (last H (Same.refl H)))
  · have nx : ¬ (S (s'.take x.length) = ("" : Str)) := fun z => by
      have z1 := congrArg (fun x : Str => x.length) z
      have e1 : (S (s'.take x.length)).length = (s'.take x.length).length := len_S _
      have e2 : ("" : Str).length = 0 := rfl
      have := List.length_pos_iff.mpr x0
      simp only [e1, e2] at z1
      omega
    refine ⟨_, rfl, .inl ⟨rfl, _, rfl, iteT' (by rw [decide_eq_false fun z => nx (V.str.inj z)]; rfl) ?_⟩⟩
    exact ⟨_, rfl, s'.take x.length, rfl, x0, by rw [List.length_take]; omega, facts.1, fun H1 s1 => ⟨true, rfl, iteF' rfl (last H1 s1)⟩⟩
theorem rd_body_at (h : sp_body_at K vs H Q E) : t_body_at K (EndsOf Q) (start ["", "", "", "", "", ""] vs) H := by
  obtain ⟨L, i, x, w, e, rfl, f, il, hb, a⟩ := h
  rw [body_eq] at a
  have ls : (L.drop i).length = L.length - i := List.length_drop
  have len1 : (mk1 w 119).length = if w = true then 1 else 0 := by cases w <;> rfl
  have len2 : (mk1 e 101).length = if e = true then 1 else 0 := by cases e <;> rfl
  have ends : ∀ j, L.drop j = [] → ∀ c : Nat, decide (L[j]? = some c) = false := fun j z c => by
    refine decide_eq_false fun q => ?_
    rw [← get_drop, z] at q
    cases q
  rcases strip (r0 := if e = true then 101 else 58) (by cases e <;> rfl) (by cases e <;> decide) a with ⟨z, kn⟩ | ⟨d1, s1, es, a1⟩
  · refine mark (c := 119) rfl rfl rfl (by decide) (by show 3 < 6; decide) (by show 1 < 6; decide) (ends i z 119) ?_
    refine mark (c := 101) rfl rfl rfl (by decide) (by show 4 < 6; decide) (by show 1 < 6; decide) (ends i z 101) ?_
    exact rd_body_rest (F := False) f il hb (.inr ⟨z, kn⟩) (fun q => q.elim)
  · rw [get_drop] at d1
    refine mark (c := 119) rfl rfl rfl (by decide) (by show 3 < 6; decide) (by show 1 < 6; decide) d1 ?_
    have e1 : L.drop (i + if w = true then 1 else 0) = s1 := by
      have q : (L.drop i).drop (mk1 w 119).length = s1 := by rw [es]; exact List.drop_left
      rw [List.drop_drop, len1] at q
      exact q
    have il1 : i + (if w = true then 1 else 0) ≤ L.length := by
      have q := congrArg List.length es
      rw [List.length_append, len1, ls] at q
      omega
    obtain ⟨i1, h1⟩ : ∃ j, j = i + (if w = true then 1 else 0) := ⟨_, rfl⟩
    rw [← h1] at e1 il1 ⊢
    rw [← e1] at a1
    have ls1 : (L.drop i1).length = L.length - i1 := List.length_drop
    rcases strip (r0 := 58) rfl (by decide) a1 with ⟨z, kn⟩ | ⟨d2, s2, es2, a2⟩
    · refine mark (c := 101) rfl rfl rfl (by decide) (by show 4 < 6; decide) (by show 1 < 6; decide) (ends i1 z 101) ?_
      exact rd_body_rest (F := False) f il1 hb (.inr ⟨z, kn⟩) (fun q => q.elim)
    · rw [get_drop] at d2
      refine mark (c := 101) rfl rfl rfl (by decide) (by show 4 < 6; decide) (by show 1 < 6; decide) d2 ?_
      have e2 : L.drop (i1 + if e = true then 1 else 0) = s2 := by
        have q : (L.drop i1).drop (mk1 e 101).length = s2 := by rw [es2]; exact List.drop_left
        rw [List.drop_drop, len2] at q
        exact q
      have il2 : i1 + (if e = true then 1 else 0) ≤ L.length := by
        have q := congrArg List.length es2
        rw [List.length_append, len2, ls1] at q
        omega
      obtain ⟨i2, h2⟩ : ∃ j, j = i1 + (if e = true then 1 else 0) := ⟨_, rfl⟩
      rw [← h2] at e2 il2 ⊢
      rw [← e2] at a2
      have lb : i + (mk1 w 119 ++ (mk1 e 101 ++ 58 :: (x ++ [59]))).length = i2 + 1 + x.length + 1 := by
        rw [List.length_append, List.length_append, len1, len2, h2, h1, List.length_cons, List.length_append, List.length_singleton]
        omega
      rw [lb] at a2
      exact rd_body_rest f il2 hb (.inl a2) fun k p H' s e => k p H' s e
theorem Ah.map {s h : List Nat} {F N F' N' : Prop} (a : Ah s h F N) (f : F → F') (g : N → N') : Ah s h F' N' := a.imp (fun ⟨p, e, k⟩ => ⟨p, e, f k⟩) fun ⟨t, ne, e, k⟩ => ⟨t, ne, e, g k⟩
/-- what is returned: the frame, and the place behind it -/
def FrO (H : Hp) (q : Addr) : Fr → Prop
  | .back n k => H q = some (.tup [.str "back", .str (S n), .int (k : Nat)])
  | .data n x w e => H q = some (.tup [.str "data", .str (S n), .str (S x), .bl w, .bl e])
def Got (H : Hp) (g : Fr) (i : Nat) (Q : VK) : Prop := ∀ p q H', Same H H' → FrO H' q g → H' p = some (.tup [.ref q, .int (i : Nat)]) → Q (.ref p) H'
def sp_back_at (K : PySem.W.Frag) : Sp := fun vs H Q _ => ∃ (L : List Nat) (i : Nat) (n : List Nat) (k : Nat), vs = [.str (S L), .int i] ∧ Fits L ∧ i ≤ L.length ∧ Fr.ok (.back n k) ∧
  Ah (L.drop i) (head n k 59) (Got H (.back n k) (i + (head n k 59).length) Q) (∀ H', Same H H' → Q .non H')
def t_back_at (K : PySem.W.Frag) : TS :=
  (tSeq (tAsg (tCall (sp_head_at K) [] E0 (tCons (tVar 0) (tCons (tVar 1) (tCons (tC (.int 999999999999999999999999999999999999999)) (tCons (tC (.str ";")) tNil))))) (gName 2))
    (tSeq (tIfS (tTest (tOp (rIsNn) (tVar 2) (tC .non))) (tRet (tC .non)) tNext)
    (tSeq (tAsg (tVar 2) (gTup K 3 (gCons (gName 3) (gCons (gName 4) (gCons (gName 1) gNil)))))
    (tRet (tTup (tCons (tTup (tCons (tC (.str "back")) (tCons (tVar 3) (tCons (tVar 4) tNil)))) (tCons (tVar 1) tNil)))))))
theorem ln_back_at (h : sp_back_at K vs H Q E) : vs.length = 2 := by obtain ⟨_, _, _, _, rfl, _⟩ := h; rfl
theorem rd_back_at (h : sp_back_at K vs H Q E) : t_back_at K (EndsOf Q) (start ["", "", "", "", ""] vs) H := by
  obtain ⟨L, i, n, k, rfl, f, il, ⟨hn, k1, k39⟩, a⟩ := h
  have l39 : (TL.numL k).length ≤ 39 := TL.numL_len (by decide) k39
  have lmo : (TL.numL 999999999999999999999999999999999999999).length = 39 := by decide +kernel
  refine ⟨_, rfl, _, rfl, L, i, 999999999999999999999999999999999999999, 59, n, k, rfl, f, il, hn, k1, by omega, by decide, by omega, .inr (by decide), a.map (fun got p H1 s1 h1 => ?_) (fun non H1 s1 => ?_)⟩
  · refine ⟨_, rfl, rfl, _, rfl, iteF' rfl ?_⟩
    refine ⟨_, rfl, g3 (SqT.of h1) ?_⟩
    refine ⟨_, rfl, _, rfl, two_fit.2.2.1, fun q hq => ⟨_, rfl, two_fit.2.1, fun p2 hp2 => ?_⟩⟩
    exact got p2 q _ ((s1.trans (same_new hq)).trans (same_new hp2)) (same_new hp2 _ _ upd_same) upd_same
  · exact ⟨_, rfl, rfl, _, rfl, iteT' rfl (non H1 s1)⟩
theorem g4 {i j l m : Nat} {a : Addr} {σ : L2.St} {R : L2.St → Hp → Prop} {x y z u : V} (s : SqT K H a [x, y, z, u]) (h : R ((((σ.set i (some x)).set j (some y)).set l (some z)).set m (some u)) H) :
    gTup K 4 (gCons (gName i) (gCons (gName j) (gCons (gName l) (gCons (gName m) gNil)))) (.ref a) σ H R := ⟨a, _, rfl, s, rfl, _, _, rfl, _, _, rfl, _, _, rfl, _, _, rfl, rfl, h⟩
def datas (n x : List Nat) (w e : Bool) : List Nat := head n x.length 44 ++ body x w e
def sp_data_at (K : PySem.W.Frag) : Sp := fun vs H Q _ => ∃ (L : List Nat) (i : Nat) (n x : List Nat) (w e : Bool), vs = [.str (S L), .int i] ∧ Fits L ∧ i ≤ L.length ∧ Fr.ok (.data n x w e) ∧
  Ah (L.drop i) (datas n x w e) (Got H (.data n x w e) (i + (datas n x w e).length) Q) (∀ H', Same H H' → Q .non H')
def t_data_at (K : PySem.W.Frag) : TS :=
  (tSeq (tAsg (tCall (sp_head_at K) [] E0 (tCons (tVar 0) (tCons (tVar 1) (tCons (tC (.int 200)) (tCons (tC (.str ",")) tNil))))) (gName 2))
    (tSeq (tIfS (tTest (tOp (rIsNn) (tVar 2) (tC .non))) (tRet (tC .non)) tNext)
    (tSeq (tAsg (tVar 2) (gTup K 3 (gCons (gName 3) (gCons (gName 4) (gCons (gName 1) gNil)))))
    (tSeq (tAsg (tCall (sp_body_at K) [] E0 (tCons (tVar 0) (tCons (tVar 1) (tCons (tVar 4) tNil)))) (gName 5))
    (tSeq (tIfS (tTest (tOp (rIsNn) (tVar 5) (tC .non))) (tRet (tC .non)) tNext)
    (tSeq (tAsg (tVar 5) (gTup K 4 (gCons (gName 6) (gCons (gName 7) (gCons (gName 8) (gCons (gName 1) gNil))))))
    (tRet (tTup (tCons (tTup (tCons (tC (.str "data")) (tCons (tVar 3) (tCons (tVar 6) (tCons (tVar 7) (tCons (tVar 8) tNil)))))) (tCons (tVar 1) tNil))))))))))
def t_frame_at (K : PySem.W.Frag) : TS :=
  (tSeq (tIfS (tTest (tOp (rEqU K) (tOp (rIx K) (tVar 0) (tVar 1)) (tC (.str "d")))) (tRet (tCall (sp_data_at K) [] E0 (tCons (tVar 0) (tCons (tOp (rAddU K) (tVar 1) (tC (.int 1))) tNil)))) tNext)
    (tSeq (tIfS (tTest (tOp (rEqU K) (tOp (rIx K) (tVar 0) (tVar 1)) (tC (.str "b")))) (tRet (tCall (sp_back_at K) [] E0 (tCons (tVar 0) (tCons (tOp (rAddU K) (tVar 1) (tC (.int 1))) tNil)))) tNext)
    tNever))
theorem ln_data_at (h : sp_data_at K vs H Q E) : vs.length = 2 := by obtain ⟨_, _, _, _, _, _, rfl, _⟩ := h; rfl
/-- the first part whole, and the second ahead; or a beginning of the first -/
theorem Ah.app {s a b : List Nat} {F N : Prop} (h : Ah s (a ++ b) F N) : (∃ s', s = a ++ s' ∧ Ah s' b F N) ∨ ∃ t, t ≠ [] ∧ s ++ t = a ∧ N := by
  rcases h with ⟨post, e, f⟩ | ⟨t, ne, e, f⟩
  · exact .inl ⟨b ++ post, by rw [e, List.append_assoc], .inl ⟨post, rfl, f⟩⟩
  · rcases List.append_eq_append_iff.mp e with ⟨c, e1, e2⟩ | ⟨c, e1, e2⟩
    · cases c with
      | nil =>
        rw [List.append_nil] at e1
        rw [List.nil_append] at e2
        exact .inl ⟨[], by rw [List.append_nil, e1], .inr ⟨t, ne, by rw [List.nil_append, e2], f⟩⟩
      | cons c0 c => exact .inr ⟨c0 :: c, by simp, e1.symm, f⟩
    · exact .inl ⟨c, e1, .inr ⟨t, ne, e2.symm, f⟩⟩
theorem rd_data_at (h : sp_data_at K vs H Q E) : t_data_at K (EndsOf Q) (start ["", "", "", "", "", "", "", "", ""] vs) H := by
  obtain ⟨L, i, n, x, w, e, rfl, f, il, ⟨hn, hb⟩, a⟩ := h
  have l3 : (TL.numL x.length).length ≤ 3 := TL.numL_len (by decide) (by have := hb.2.1; omega)
  have lmo : (TL.numL 200).length = 3 := by decide +kernel
  have none_ : ∀ H1, Same H H1 → (∀ H', Same H H' → Q .non H') → (tSeq (tIfS (tTest (tOp (rIsNn) (tVar 2) (tC .non))) (tRet (tC .non)) tNext) tNever) (EndsOf Q) [some (.str (S L)), some (.int (i : Nat)), some .non, none, none, none, none, none, none] H1 := fun H1 s1 non => ⟨_, rfl, rfl, _, rfl, iteT' rfl (non H1 s1)⟩
  rcases a.app with ⟨s', es, a⟩ | ⟨t, ne, et, non⟩
  · refine ⟨_, rfl, _, rfl, L, i, 200, 44, n, x.length, rfl, f, il, hn, hb.1, hb.2.1, by decide, by omega, .inl (by decide), .inl ⟨s', es, fun p H1 s1 h1 => ?_⟩⟩
    have ed : L.drop (i + (head n x.length 44).length) = s' := by
      have q : (L.drop i).drop (head n x.length 44).length = s' := by rw [es]; exact List.drop_left
      rwa [List.drop_drop] at q
    have il2 : i + (head n x.length 44).length ≤ L.length := by
      have q := congrArg List.length es
      rw [List.length_append, List.length_drop] at q
      omega
    rw [← ed] at a
    refine ⟨_, rfl, rfl, _, rfl, iteF' rfl ?_⟩
    refine ⟨_, rfl, g3 (SqT.of h1) ?_⟩
    refine ⟨_, rfl, _, rfl, _, rfl, L, i + (head n x.length 44).length, x, w, e, rfl, f, il2, hb, a.map (fun got p2 H2 s2 h2 => ?_) (fun non H2 s2 => ?_)⟩
    · refine ⟨_, rfl, rfl, _, rfl, iteF' rfl ?_⟩
      refine ⟨_, rfl, g4 (SqT.of h2) ?_⟩
      refine ⟨_, rfl, _, rfl, _, rfl, _, rfl, Nat.le_of_lt (small1000 (show 5 ≤ 1000 by decide)), fun q hq => ⟨_, rfl, two_fit.2.1, fun p3 hp3 => ?_⟩⟩
      refine got p3 q _ (((s1.trans s2).trans (same_new hq)).trans (same_new hp3)) (same_new hp3 _ _ upd_same) ?_
      have : i + (datas n x w e).length = i + (head n x.length 44).length + (body x w e).length := by unfold datas; rw [List.length_append]; omega
      rw [upd_same, this]
    · exact ⟨_, rfl, rfl, _, rfl, iteT' rfl (non H2 (s1.trans s2))⟩
  · refine ⟨_, rfl, _, rfl, L, i, 200, 44, n, x.length, rfl, f, il, hn, hb.1, hb.2.1, by decide, by omega, .inl (by decide), .inr ⟨t, ne, et, fun H1 s1 => ?_⟩⟩
    exact ⟨_, rfl, rfl, _, rfl, iteT' rfl (non H1 s1)⟩
def sp_frame_at (K : PySem.W.Frag) : Sp := fun vs H Q _ => ∃ (L : List Nat) (i : Nat) (g : Fr), vs = [.str (S L), .int i] ∧ Fits L ∧ i < L.length ∧ g.ok ∧ Ah (L.drop i) g.enc (Got H g (i + g.enc.length) Q) (∀ H', Same H H' → Q .non H')
theorem ln_frame_at (h : sp_frame_at K vs H Q E) : vs.length = 2 := by obtain ⟨_, _, _, rfl, _⟩ := h; rfl
theorem rd_frame_at (h : sp_frame_at K vs H Q E) : t_frame_at K (EndsOf Q) (start ["", ""] vs) H := by
  obtain ⟨L, i, g, rfl, f, il, ok, a⟩ := h
  have ls : (L.drop i).length = L.length - i := List.length_drop
  have one : ∀ (c : Nat) s', L.drop i = c :: s' → L[i] = c ∧ L.drop (i + 1) = s' := fun c s' e => by
    constructor
    · have e' : (L.drop i)[0]? = some c := by rw [e]; rfl
      rw [get_drop, List.getElem?_eq_getElem il] at e'
      exact Option.some.inj e'
    · have e' : (L.drop i).drop 1 = s' := by rw [e]; rfl
      rwa [List.drop_drop] at e'
  cases g with
  | back n k =>
    rcases Ah.cons (h := head n k 59) a with ⟨z, _⟩ | ⟨s', es, a⟩
    · rw [z] at ls
      simp only [List.length_nil] at ls
      omega
    obtain ⟨g0, ds⟩ := one _ _ es
    rw [← ds] at a
    refine ⟨_, rfl, _, rfl, .inr (.inr ⟨S L, (i : Int), 98, rfl, rfl, f.le, by rw [at_S il, g0], .inl ⟨rfl, _, rfl, iteF' (by decide +kernel) ?_⟩⟩)⟩
    refine ⟨_, rfl, _, rfl, .inr (.inr ⟨S L, (i : Int), 98, rfl, rfl, f.le, by rw [at_S il, g0], .inl ⟨rfl, _, rfl, iteT' (by decide +kernel) ?_⟩⟩)⟩
    refine ⟨_, rfl, _, rfl, .inl ⟨_, _, rfl, rfl, L, i + 1, n, k, rfl, f, il, ok, ?_⟩⟩
    have e : i + (Fr.enc (.back n k)).length = i + 1 + (head n k 59).length := by
      show i + ((head n k 59).length + 1) = _
      omega
    rw [e] at a
    exact a
  | data n x w e =>
    rcases Ah.cons (h := datas n x w e) a with ⟨z, _⟩ | ⟨s', es, a⟩
    · rw [z] at ls
      simp only [List.length_nil] at ls
      omega
    obtain ⟨g0, ds⟩ := one _ _ es
    rw [← ds] at a
    refine ⟨_, rfl, _, rfl, .inr (.inr ⟨S L, (i : Int), 100, rfl, rfl, f.le, by rw [at_S il, g0], .inl ⟨rfl, _, rfl, iteT' (by decide +kernel) ?_⟩⟩)⟩
    refine ⟨_, rfl, _, rfl, .inl ⟨_, _, rfl, rfl, L, i + 1, n, x, w, e, rfl, f, il, ok, ?_⟩⟩
    have e' : i + (Fr.enc (.data n x w e)).length = i + 1 + (datas n x w e).length := by
      show i + ((datas n x w e).length + 1) = _
      omega
    rw [e'] at a
    exact a
def encs (fs : List Fr) : List Nat := (fs.map Fr.enc).flatten
def FrsO (H : Hp) (as : List Addr) (fs : List Fr) : Prop := as.length = fs.length ∧ ∀ (j : Nat) a f, as[j]? = some a → fs[j]? = some f → FrO H a f
theorem FrO.same {q : Addr} {g : Fr} (h : FrO H q g) (s : Same H H') : FrO H' q g := by
  cases g with
  | back n k => exact s _ _ h
  | data n x w e => exact s _ _ h
theorem FrO.upd {q p : Addr} {g : Fr} {xs ys : List V} (h : FrO H q g) (hp : H p = some (.lst xs)) : FrO (upd H p (.lst ys)) q g := by
  have ne : ∀ zs, H q = some (.tup zs) → q ≠ p := fun zs e z => by rw [z, hp] at e; cases e
  cases g with
  | back n k => exact (upd_ne (ne _ h)).trans h
  | data n x w e => exact (upd_ne (ne _ h)).trans h
theorem FrsO.snoc {as : List Addr} {fs : List Fr} {a : Addr} {g : Fr} (h : FrsO H as fs) (hg : FrO H a g) : FrsO H (as ++ [a]) (fs ++ [g]) := by
  refine ⟨by rw [List.length_append, List.length_append, h.1]; rfl, fun j x y e1 e2 => ?_⟩
  by_cases c : j < as.length
  · rw [List.getElem?_append_left c] at e1
    rw [List.getElem?_append_left (by rw [← h.1]; exact c)] at e2
    exact h.2 j x y e1 e2
  · have l1 := (List.getElem?_eq_some_iff.mp e1).1
    rw [List.length_append, List.length_singleton] at l1
    have ej : j = as.length := by omega
    subst ej
    rw [List.getElem?_append_right (Nat.le_refl _), Nat.sub_self] at e1
    rw [h.1, List.getElem?_append_right (Nat.le_refl _), Nat.sub_self] at e2
    cases e1
    cases e2
    exact hg
def sp_read_frames (K : PySem.W.Frag) : Sp := fun vs H Q _ => ∃ (fs : List Fr) (g : Fr) (r t : List Nat), vs = [.str (S (encs fs ++ r))] ∧ Fits (encs fs ++ r) ∧ (∀ f ∈ fs, f.ok) ∧ g.ok ∧ t ≠ [] ∧ r ++ t = g.enc ∧ fs.length ≤ 2000 ∧
  ∀ p q as H', Same H H' → H q = none → H' p = some (.tup [.ref q, .str (S r)]) → H' q = some (.lst (as.map V.ref)) → FrsO H' as fs → Q (.ref p) H'
def t_read_frames (K : PySem.W.Frag) : TS :=
  (tSeq (tIfS (tNot (tB (tCB (rIsi K) (tCons (tVar 0) (tCons (tC (.ty "str")) tNil))))) tNever tNext)
    (tSeq (tAsg (tLst tNil) (gName 1))
    (tSeq (tAsg (tC (.int 0)) (gName 2))
    (tSeq (tWhile (tTest (tOp (rLtI) (tVar 2) (tCB (rLenU K) (tCons (tVar 0) tNil)))) (tSeq (tAsg (tCall (sp_frame_at K) [] E0 (tCons (tVar 0) (tCons (tVar 2) tNil))) (gName 3))
    (tSeq (tIfS (tTest (tOp (rIsNn) (tVar 3) (tC .non))) (tRet (tTup (tCons (tVar 1) (tCons (tSl (L2.rSlS) (tVar 0) (tPart (tVar 2)) tNoPart) tNil)))) tNext)
    (tSeq (tAsg (tVar 3) (gTup K 2 (gCons (gName 4) (gCons (gName 2) gNil))))
    (tDrop (tBM K "list" rAppend (tVar 1) (tCons (tVar 4) tNil)))))))
    (tRet (tTup (tCons (tVar 1) (tCons (tC (.str "")) tNil))))))))
theorem ln_read_frames (h : sp_read_frames K vs H Q E) : vs.length = 1 := by obtain ⟨_, _, _, _, rfl, _⟩ := h; rfl
theorem enc_pos (g : Fr) : 1 ≤ g.enc.length := by
  cases g with
  | back n k => show 1 ≤ _ + 1; omega
  | data n x w e => show 1 ≤ _ + 1; omega
theorem rd_read_frames (h : sp_read_frames K vs H Q E) : t_read_frames K (EndsOf Q) (start ["", "", "", "", ""] vs) H := by
  obtain ⟨fs, g, r, t, rfl, f, oks, og, tn, et, few, k⟩ := h
  refine ⟨_, rfl, _, _, _, _, true, rfl, .ty _, .base (.str _), kit_same, true, rfl, iteF' rfl ?_⟩
  refine ⟨Nat.zero_le _, fun q hq => ?_⟩
  refine ⟨fun m σ G => ∃ (done rest : List Fr) (as : List Addr) (s3 s4 : Option V), fs = done ++ rest ∧ m = rest.length ∧ σ = [some (.str (S (encs fs ++ r))), some (.ref q), some (.int (encs done).length), s3, s4] ∧ Same H G ∧ G q = some (.lst (as.map V.ref)) ∧ FrsO G as done,
    ⟨_, [], fs, [], none, none, rfl, rfl, rfl, same_new hq, upd_same, ⟨rfl, fun j a f e => nomatch e⟩⟩, ?_⟩
  rintro m σ G ⟨done, rest, as, s3, s4, ef, rfl, rfl, s, hG, fo⟩
  have el : encs fs = encs done ++ encs rest := by unfold encs; rw [ef, List.map_append, List.flatten_append]
  have ll : (encs fs ++ r).length = (encs done).length + (encs rest).length + r.length := by rw [el, List.length_append, List.length_append]
  refine ⟨_, rfl, _, rfl, .inl ⟨_, (encs fs ++ r).length, rfl, len_of f, _, _, rfl, rfl, _, rfl, ?_⟩⟩
  have dl : (encs fs ++ r).drop (encs done).length = encs rest ++ r := by rw [el, List.append_assoc, List.drop_left]
  refine ifD (fun c => ?_) (fun c => ?_)
  · cases rest with
    | nil =>
      have e0 : encs ([] : List Fr) = [] := rfl
      rw [e0, List.nil_append] at dl
      rw [List.append_nil] at ef
      subst ef
      refine ⟨fun _ _ => False, fun _ _ z => z.elim, ?_⟩
      refine ⟨_, rfl, _, rfl, encs fs ++ r, (encs fs).length, g, rfl, f, by omega, og, .inr ⟨t, tn, by rw [dl]; exact et, fun H1 s1 => ?_⟩⟩
      refine ⟨_, rfl, rfl, _, rfl, iteT' rfl ?_⟩
      have ec : cutS (S (encs fs ++ r)) (some ((encs fs).length : Int)) none = S r := by rw [cut_from (by rw [List.length_append]; omega), dl]
      refine ⟨_, rfl, _, rfl, _, rfl, _, rfl, S (encs fs ++ r), rfl, f.le, ?_⟩
      rw [ec]
      refine ⟨two_fit.2.1, fun p hp => ?_⟩
      have sp := s1.trans (same_new (o := .tup [.ref q, .str (S r)]) hp)
      exact k p q as _ (s.trans sp) hq upd_same (sp _ _ hG) ⟨fo.1, fun j a f e1 e2 => (fo.2 j a f e1 e2).same sp⟩
    | cons f1 rest =>
      have e1 : encs (f1 :: rest) = f1.enc ++ encs rest := rfl
      have pos := enc_pos f1
      refine ⟨fun σ' G' => ∃ m', m' < (f1 :: rest).length ∧ ∃ (done rest : List Fr) (as : List Addr) (s3 s4 : Option V), fs = done ++ rest ∧ m' = rest.length ∧ σ' = [some (.str (S (encs fs ++ r))), some (.ref q), some (.int (encs done).length), s3, s4] ∧ Same H G' ∧ G' q = some (.lst (as.map V.ref)) ∧ FrsO G' as done, fun σ' G' h => h, ?_⟩
      have lf := congrArg List.length ef
      rw [List.length_append, List.length_cons] at lf
      refine ⟨_, rfl, _, rfl, encs fs ++ r, (encs done).length, f1, rfl, f, by omega, oks f1 (by rw [ef]; exact List.mem_append_right _ List.mem_cons_self), .inl ⟨encs rest ++ r, by rw [dl, e1, List.append_assoc], fun p a H1 s1 hfo hp => ?_⟩⟩
      refine ⟨_, rfl, rfl, _, rfl, iteF' rfl ⟨_, rfl, g2 (SqT.of hp) ⟨_, rfl, .inl ⟨rfl, _, SqL.of (s1 _ _ hG)⟩, _, rfl, q, as.map V.ref, .ref a, rfl, rfl, s1 _ _ hG, ?_, ?_⟩⟩⟩
      · rw [List.length_map, fo.1]
        have : (2000 : Nat) < sizeLine := by rw [sizeLine_eq]; decide
        omega
      · refine ⟨rest.length, Nat.lt_succ_self _, done ++ [f1], rest, as ++ [a], some (V.ref p), some (V.ref a), by rw [ef, List.append_assoc]; rfl, rfl, ?_, fun c o e => ?_, ?_, ?_⟩
        · have : (encs (done ++ [f1])).length = (encs done).length + f1.enc.length := by
            unfold encs
            rw [List.map_append, List.flatten_append, List.length_append]
            simp
          rw [this]
          rfl
        · rw [upd_ne (ne_of_none e hq)]
          exact s1 _ _ (s _ _ e)
        · rw [upd_same, List.map_append]
          rfl
        · have fo1 : FrsO H1 as done := ⟨fo.1, fun j a f e1 e2 => (fo.2 j a f e1 e2).same s1⟩
          have fo2 := fo1.snoc hfo
          exact ⟨fo2.1, fun j x y e1 e2 => (fo2.2 j x y e1 e2).upd (s1 _ _ hG)⟩
  · have r0 : rest = [] := by
      cases rest with
      | nil => rfl
      | cons f1 rest =>
        have e1 : encs (f1 :: rest) = f1.enc ++ encs rest := rfl
        have pos := enc_pos f1
        have q := List.length_append (as := f1.enc) (bs := encs rest)
        rw [e1] at ll
        omega
    subst r0
    have e0 : encs ([] : List Fr) = [] := rfl
    rw [e0] at ll
    have rn : r = [] := by
      apply List.length_eq_zero_iff.mp
      simp only [List.length_nil] at ll
      omega
    rw [List.append_nil] at ef
    subst ef
    refine ⟨_, rfl, two_fit.2.1, fun p hp => ?_⟩
    have sp := same_new (o := .tup [.ref q, .str ""]) hp
    refine k p q as _ (s.trans sp) hq ?_ (sp _ _ hG) ⟨fo.1, fun j a f e1 e2 => (fo.2 j a f e1 e2).same sp⟩
    rw [upd_same, rn]
    rfl
theorem S_fit {l : List Nat} (h : l.length ≤ 1000) : (S l).length ≤ sizeLine := by
  rw [len_S]
  exact Nat.le_of_lt (small1000 h)
theorem num_S (k : Nat) : Str.ofString (toString ((k : Nat) : Int)) = S (TL.numL k) := by
  rw [← TL.tl_num k]
theorem num_log {k : Nat} (h : k < 10 ^ 39) : ((k : Nat) : Int).natAbs.log2 < 1920 := of_decide_eq_true (small_log (by
  have : (10 : Nat) ^ 39 ≤ 10 ^ 100 := by decide
  omega))
section
variable {ts : List TE} {acc l : List Nat} {σ : L2.St} {QQ : Str → Hp → Prop} {s : Str} {i k : Nat}
theorem js_const (e : s = S l) (few : (acc ++ l).length ≤ 1000) (q : tJs ts (S (acc ++ l)) σ H QQ) : tJs (tC (.str s) :: ts) (S acc) σ H QQ := by
  subst e
  exact ⟨S l, rfl, by rw [app_S]; exact S_fit few, by rw [app_S]; exact q⟩
theorem js_var (e : σ[i]? = some (some (.str (S l)))) (few : (acc ++ l).length ≤ 1000) (q : tJs ts (S (acc ++ l)) σ H QQ) : tJs (tFmt (tVar i) :: ts) (S acc) σ H QQ :=
  ⟨_, e, .inl ⟨S l, rfl, S_fit (by rw [List.length_append] at few; omega), S l, rfl, by rw [app_S]; exact S_fit few, by rw [app_S]; exact q⟩⟩
theorem js_num (e : σ[i]? = some (some (.int (k : Nat)))) (lt : k < 10 ^ 39) (few : (acc ++ TL.numL k).length ≤ 1000) (q : tJs ts (S (acc ++ TL.numL k)) σ H QQ) : tJs (tFmt (tVar i) :: ts) (S acc) σ H QQ :=
  ⟨_, e, .inr ⟨(k : Nat), rfl, num_log lt, _, rfl, by rw [num_S, app_S]; exact S_fit few, by rw [num_S, app_S]; exact q⟩⟩
theorem js_len (e : σ[i]? = some (some (.str (S l)))) (lt : l.length ≤ 1000) (few : (acc ++ TL.numL l.length).length ≤ 1000) (q : tJs ts (S (acc ++ TL.numL l.length)) σ H QQ) : tJs (tFmt (tCB (rLenU K) (tCons (tVar i) tNil)) :: ts) (S acc) σ H QQ :=
  ⟨_, e, .inl ⟨_, l.length, rfl, ⟨S_fit lt, (len_S l).symm⟩, .inr ⟨((l.length : Nat) : Int), rfl, num_log (Nat.lt_of_le_of_lt lt (by decide)), _, rfl, by rw [num_S, app_S]; exact S_fit few, by rw [num_S, app_S]; exact q⟩⟩⟩
end
theorem g5 {a : Addr} {σ : L2.St} {R : L2.St → Hp → Prop} {i1 i2 i3 i4 i5 : Nat} {x1 x2 x3 x4 x5 : V} (s : SqT K H a [x1, x2, x3, x4, x5]) (h : R (((((σ.set i1 (some x1)).set i2 (some x2)).set i3 (some x3)).set i4 (some x4)).set i5 (some x5)) H) :
    gTup K 5 (gCons (gName i1) (gCons (gName i2) (gCons (gName i3) (gCons (gName i4) (gCons (gName i5) gNil))))) (.ref a) σ H R := ⟨a, _, rfl, s, rfl, _, _, rfl, _, _, rfl, _, _, rfl, _, _, rfl, _, _, rfl, rfl, h⟩
def sp_show_frame (K : PySem.W.Frag) : Sp := fun vs H Q _ => ∃ (a : Addr) (g : Fr), vs = [.ref a] ∧ FrO H a g ∧ g.ok ∧ Q (.str (S g.enc)) H
def t_show_frame (K : PySem.W.Frag) : TS :=
  (tSeq (tIfS (tTest (tOp (rEqU K) (tOp (rIx K) (tVar 0) (tC (.int 0))) (tC (.str "back")))) (tSeq (tAsg (tVar 0) (gTup K 3 (gCons (gName 1) (gCons (gName 2) (gCons (gName 3) gNil)))))
    (tRet (PkC.tJoined [(tC (.str "b")), (tFmt (tVar 2)), (tC (.str ",")), (tFmt (tVar 3)), (tC (.str ";"))]))) tNext)
    (tSeq (tAsg (tVar 0) (gTup K 5 (gCons (gName 1) (gCons (gName 4) (gCons (gName 5) (gCons (gName 6) (gCons (gName 7) gNil)))))))
    (tSeq (tAsg (tOp (rAddU K) (tIf (tB (tVar 6)) (tC (.str "w")) (tC (.str ""))) (tIf (tB (tVar 7)) (tC (.str "e")) (tC (.str "")))) (gName 8))
    (tRet (PkC.tJoined [(tC (.str "d")), (tFmt (tVar 4)), (tC (.str ",")), (tFmt (tCB (rLenU K) (tCons (tVar 5) tNil))), (tC (.str ",")), (tFmt (tVar 8)), (tC (.str ":")), (tFmt (tVar 5)), (tC (.str ";"))])))))
theorem ln_show_frame (h : sp_show_frame K vs H Q E) : vs.length = 1 := by obtain ⟨_, _, rfl, _⟩ := h; rfl
theorem rd_show_frame (h : sp_show_frame K vs H Q E) : t_show_frame K (EndsOf Q) (start ["", "", "", "", "", "", "", "", ""] vs) H := by
  obtain ⟨a, g, rfl, fo, ok, k⟩ := h
  cases g with
  | back n m =>
    obtain ⟨⟨n1, n2, n3⟩, k1, k39⟩ := ok
    have l39 : (TL.numL m).length ≤ 39 := TL.numL_len (by decide) k39
    refine ⟨_, rfl, .inr (.inl ⟨a, _, 0, _, rfl, rfl, SqT.of fo, rfl, .inl ⟨rfl, _, rfl, iteT' rfl ?_⟩⟩)⟩
    refine ⟨_, rfl, g3 (SqT.of fo) ?_⟩
    refine js_const (acc := []) (l := [98]) rfl (by simp) ?_
    refine js_var (l := n) rfl (by simp; omega) (js_const (l := [44]) rfl (by simp; omega) (js_num (k := m) rfl k39 (by simp; omega) (js_const (l := [59]) rfl (by simp; omega) ?_)))
    have e : [] ++ [98] ++ n ++ [44] ++ TL.numL m ++ [59] = Fr.enc (.back n m) := by simp [Fr.enc, head]
    rw [e]
    exact k
  | data n x w e =>
    obtain ⟨⟨n1, n2, n3⟩, b1, b2, b3⟩ := ok
    have l3 : (TL.numL x.length).length ≤ 3 := TL.numL_len (by decide) (by omega)
    refine ⟨_, rfl, .inr (.inl ⟨a, _, 0, _, rfl, rfl, SqT.of fo, rfl, .inl ⟨rfl, _, rfl, iteF' (by decide +kernel) ?_⟩⟩)⟩
    refine ⟨_, rfl, g5 (SqT.of fo) ?_⟩
    have lm : (marks w e).length ≤ 2 := by cases w <;> cases e <;> decide
    have fin : ∀ D : Ends, (∀ out, out = S (Fr.enc (.data n x w e)) → D.rt (.str out) H) →
        tRet (PkC.tJoined [(tC (.str "d")), (tFmt (tVar 4)), (tC (.str ",")), (tFmt (tCB (rLenU K) (tCons (tVar 5) tNil))), (tC (.str ",")), (tFmt (tVar 8)), (tC (.str ":")), (tFmt (tVar 5)), (tC (.str ";"))]) D
          [some (.ref a), some (.str "data"), none, none, some (.str (S n)), some (.str (S x)), some (.bl w), some (.bl e), some (.str (S (marks w e)))] H := by
      intro D q
      refine js_const (acc := []) (l := [100]) rfl (by simp) ?_
      refine js_var (l := n) rfl (by simp; omega) (js_const (l := [44]) rfl (by simp; omega) (js_len (l := x) rfl (by omega) (by simp; omega) (js_const (l := [44]) rfl (by simp; omega) (js_var (l := marks w e) rfl (by simp; omega)
        (js_const (l := [58]) rfl (by simp; omega) (js_var (l := x) rfl (by simp; omega) (js_const (l := [59]) rfl (by simp; omega) ?_)))))))
      refine q _ ?_
      have e : [] ++ [100] ++ n ++ [44] ++ TL.numL x.length ++ [44] ++ marks w e ++ [58] ++ x ++ [59] = Fr.enc (.data n x w e) := by simp [Fr.enc, head, body]
      rw [e]
    have fin := fin (EndsOf Q) fun out eo => by subst eo; exact k
    refine ⟨_, rfl, w, rfl, ?_⟩
    cases w with
    | true =>
      refine iteT' rfl ⟨_, rfl, e, rfl, ?_⟩
      cases e with
      | true => exact iteT' rfl (.inr (.inl ⟨_, _, rfl, rfl, S_fit (l := [119, 101]) (by decide), fin⟩))
      | false => exact iteF' rfl (.inr (.inl ⟨_, _, rfl, rfl, S_fit (l := [119]) (by decide), fin⟩))
    | false =>
      refine iteF' rfl ⟨_, rfl, e, rfl, ?_⟩
      cases e with
      | true => exact iteT' rfl (.inr (.inl ⟨_, _, rfl, rfl, S_fit (l := [101]) (by decide), fin⟩))
      | false => exact iteF' rfl (.inr (.inl ⟨_, _, rfl, rfl, S_fit (l := []) (by decide), fin⟩))
/-- the text of signs drawn one by one -/
theorem sgs_join (cs : List Nat) : Txt.join "" ((cs.map fun c => S [c])) = S cs := by
  have e : (cs.map fun c => S [c]) = (cs.map fun c => [c]).map SX.S := by rw [List.map_map]; rfl
  rw [e]
  have j := SX.join_S [] (cs.map fun c => [c])
  have e2 : TL.joinL [] (cs.map fun c => [c]) = cs := by
    clear e j
    induction cs with
    | nil => rfl
    | cons c cs ih =>
      cases cs with
      | nil => rfl
      | cons d cs => exact congrArg (c :: ·) ih
  rw [e2] at j
  exact j
theorem sgs_fit {cs : List Nat} (h : cs.length ≤ 1000) : ((cs.map fun c => S [c]).map (·.length)).sum + (cs.map fun c => S [c]).length * ("" : Str).length ≤ 16777216 := by
  have e : ((cs.map fun c => S [c]).map (·.length)).sum ≤ cs.length := by
    clear h
    induction cs with
    | nil => exact Nat.le_refl _
    | cons c cs ih =>
      rw [List.map_cons, List.map_cons, List.sum_cons, List.length_cons]
      have : (S [c]).length = 1 := rfl
      omega
  have e0 : ("" : Str).length = 0 := rfl
  rw [e0]
  omega
theorem drawnS {l : List Nat} {v : Int} (h0 : 0 ≤ v) (lt : v < l.length) : ∃ c, atI (S l).cps.toList v = some c ∧ c ∈ l := by
  have lt' : v.toNat < l.length := by omega
  refine ⟨l[v.toNat], ?_, List.getElem_mem lt'⟩
  have := at_S (L := l) lt'
  rwa [Int.toNat_of_nonneg h0] at this
/-- ''.join of signs out of a text, each one drawn -/
theorem draw_join {Qd : Hp → Prop} {b l D : Addr} {m : Nat} {P : Nat → Prop} {te : TE} {σ : L2.St} (hl : 4 = σ.length) (h3 : σ[3]? = some none) (B : Bag H b l) (few : m ≤ 1000)
    (ht : ∀ G, Bag G b l → ∀ (i : Nat) (Q : VK), (∀ (c : Nat) G', P c → Bag G' b l → Kp b G G' → Q (.str (S [c])) G') → te (σ.set 3 (some (.int i))) G Q) (hD : H D = none)
    (k : ∀ (cs : List Nat) G, cs.length = m → (∀ c ∈ cs, P c) → G D = some (.lst ((cs.map fun c => S [c]).map V.str)) → Bag G b l → Kp b H G → Qd G) :
    ∃ W : Nat → Nat → Hp → Prop, (∃ m, W 0 m (upd H D (.lst []))) ∧ ∀ i q H, W i q H →
      ((Itr 0 m).stop i H ∧ Qd H) ∨ ((Itr 0 m).go i H ∧ ∃ Nx : Hp → Prop, (∀ H', Nx H' → ∃ m', m' < q ∧ W (i + 1) m' H') ∧ ∀ x H', (Itr 0 m).yld i H x H' → (gName 3) x (wipe σ [3]) H' fun σ2 H2 => wipe σ2 [3] = wipe σ [3] ∧ tYes σ2 H2 fun b H3 =>
        if b = true then te σ2 H3 fun y H4 => ∃ acc, H4 D = some (.lst acc) ∧ acc.length < sizeLine ∧ Nx (upd H4 D (.lst (acc ++ [y]))) else Nx H3) := by
  obtain ⟨l3, e3⟩ := List.getElem?_eq_some_iff.mp h3
  have wp : wipe σ [3] = σ := (congrArg (σ.set 3) e3.symm).trans (List.set_getElem_self l3)
  have nb : D ≠ b := fun e => by
    obtain ⟨_, e1⟩ := B.at
    rw [e, e1] at hD
    cases hD
  have nl : D ≠ l := fun e => by
    obtain ⟨_, e1⟩ := B.at2
    rw [e, e1] at hD
    cases hD
  refine lc_range (lo := 0) (n := m) (fun i G => Bag G b l ∧ Kp b H G ∧ ∃ cs : List Nat, cs.length = i ∧ (∀ c ∈ cs, P c) ∧ G D = some (.lst ((cs.map fun c => S [c]).map V.str))) ⟨B.same (same_new hD), Kp.of (same_new hD), [], rfl, (fun c hc => nomatch hc), upd_same⟩ ?_ ?_
  · rintro i G hi ⟨B5, k5, cs, lc, sg, hz⟩
    rw [wp]
    have e0 : ((0 : Int) + (i : Int)) = ((i : Nat) : Int) := by omega
    rw [e0]
    refine ⟨?_, ?_⟩
    · show (σ.set 3 (some (.int (i : Int)))).set 3 none = σ
      rw [List.set_set]
      exact wp
    refine ht G B5 i _ fun c G' pc B6 k6 => ?_
    refine ⟨_, k6 _ _ hz nb, small1000 (by rw [List.length_map, List.length_map, lc]; omega), B6.put nb.symm nl.symm, (k5.trans k6).other hD, cs ++ [c], by rw [List.length_append, lc]; rfl, fun d hd => ?_, ?_⟩
    · rcases List.mem_append.mp hd with z | z
      · exact sg d z
      · rw [List.mem_singleton.mp z]
        exact pc
    · rw [upd_same, List.map_append, List.map_append]
      rfl
  · rintro G ⟨B5, k5, cs, lc, sg, hz⟩
    exact k cs G lc sg hz B5 k5
def sp_law_draw_letters (K : PySem.W.Frag) : Sp := fun vs H Q _ => ∃ (b l : Addr) (m : Nat), vs = [.ref b, .int m] ∧ Bag H b l ∧ 1 ≤ m ∧ m ≤ 200 ∧ ∀ (x : List Nat) H', Body x → Bag H' b l → Kp b H H' → Q (.str (S x)) H'
def t_law_draw_letters (K : PySem.W.Frag) : TS :=
  (tSeq (tAsg (tC (.str "abd;:,we0129 ~Z")) (gName 2))
    (Evl.tCut (tIfS (tTest (tOp (rEqU K) (tCall (sp_law_take K) [] E0 (tCons (tVar 0) (tCons (tC (.int 2)) tNil))) (tC (.int 0)))) (tSeq (tAsg (tC (.str " !\"#$&'()*+,-./0123456789:;<=>?\x40[\\]^_`{|}~ABCDEFGHIJKLMNOPQRSTUVWXYZ")) (gName 2))
    (tAsg (tOp (rAddU K) (tVar 2) (tC (.str "abcdefghijklmnopqrstuvwxyz"))) (gName 2))) tNext)
    (tRet (PkB.tJoinL K (tC (.str "")) (tLc (iRng1 (tCons (tVar 1) tNil)) (gName 3) tYes (tOp (rIx K) (tVar 2) (tCall (sp_law_take K) [] E0 (tCons (tVar 0) (tCons (tCB (rLenU K) (tCons (tVar 2) tNil)) tNil)))) [3])))))
theorem ln_law_draw_letters (h : sp_law_draw_letters K vs H Q E) : vs.length = 2 := by obtain ⟨_, _, _, rfl, _⟩ := h; rfl
def sg1 : List Nat := ("abd;:,we0129 ~Z" : Str).cps.toList
def sg2 : List Nat := (" !\"#$&'()*+,-./0123456789:;<=>?\x40[\\]^_`{|}~ABCDEFGHIJKLMNOPQRSTUVWXYZ" : Str).cps.toList
def abc : List Nat := ("abcdefghijklmnopqrstuvwxyz" : Str).cps.toList
theorem sg_ok : (sg1.all good = true ∧ 0 < sg1.length ∧ sg1.length ≤ 500) ∧ ((sg2 ++ abc).all good = true ∧ 0 < (sg2 ++ abc).length ∧ (sg2 ++ abc).length ≤ 500) ∧ (abc.all (inR 97 122) = true ∧ abc.length = 26) := by
  unfold sg1 sg2 abc
  decide +kernel
theorem rd_law_draw_letters (h : sp_law_draw_letters K vs H Q E) : t_law_draw_letters K (EndsOf Q) (start ["", "", "", ""] vs) H := by
  obtain ⟨b, l, m, rfl, B, m1, m2, k⟩ := h
  refine ⟨fun σ' G => ∃ sg : List Nat, σ' = [some (.ref b), some (.int (m : Nat)), some (.str (S sg)), none] ∧ sg.all good = true ∧ 0 < sg.length ∧ sg.length ≤ 500 ∧ Bag G b l ∧ Kp b H G, ?_, ?_⟩
  · refine ⟨_, rfl, b, l, 2, rfl, B, by decide, by decide, fun j G j0 j1 B1 k1 => .inl ⟨rfl, _, rfl, ?_⟩⟩
    refine ifI (fun _ => ?_) (fun _ => ⟨sg1, rfl, sg_ok.1.1, sg_ok.1.2.1, sg_ok.1.2.2, B1, k1⟩)
    have f2 := sg_ok.2.1
    exact ⟨_, rfl, .inr (.inl ⟨_, _, rfl, rfl, S_fit (l := sg2 ++ abc) (by omega), sg2 ++ abc, rfl, f2.1, f2.2.1, f2.2.2, B1, k1⟩)⟩
  · rintro σ' G ⟨sg, rfl, al, l0, l1, B1, k1⟩
    refine ⟨⟨_, rfl⟩, _, rfl, (m : Nat), rfl, by omega, by omega, fun D hD => ?_⟩
    refine draw_join (σ := [some (.ref b), some (.int (m : Nat)), some (.str (S sg)), none]) (m := ((m : Nat) : Int).toNat) (P := fun c => good c = true) rfl rfl B1 (by omega) (fun G' B' i Q' q => ?_) hD fun cs G5 lc sg' hz B5 k5 => ?_
    · refine ⟨_, rfl, _, rfl, _, rfl, .inl ⟨_, sg.length, rfl, ⟨S_fit (by omega), (len_S sg).symm⟩, b, l, _, rfl, B', by omega, by omega, fun v G6 v0 v1 B6 k6 => ?_⟩⟩
      obtain ⟨c, hc, mc⟩ := drawnS (l := sg) v0 v1
      exact .inr (.inr ⟨S sg, v, c, rfl, rfl, S_fit (by omega), hc, q c G6 (List.all_eq_true.mp al c mc) B6 k6⟩)
    · have lc : cs.length = m := lc
      refine ⟨"", D, cs.map fun c => S [c], rfl, rfl, .inl (SqL.of hz), sgs_fit (by omega), ?_⟩
      rw [sgs_join]
      exact k cs G5 ⟨by omega, by omega, List.all_eq_true.mpr sg'⟩ B5 (k1.trans k5)
def sp_law_draw_word (K : PySem.W.Frag) : Sp := fun vs H Q _ => ∃ (b l : Addr), vs = [.ref b] ∧ Bag H b l ∧ ∀ (n : List Nat) H', Name n → Bag H' b l → Kp b H H' → Q (.str (S n)) H'
def t_law_draw_word (K : PySem.W.Frag) : TS :=
  (tSeq (tAsg (tC (.str "abcdefghijklmnopqrstuvwxyz")) (gName 1))
    (tSeq (tAsg (PkB.tJoinL K (tC (.str "")) (tLc (iRng1 (tCons (tOp (rAddU K) (tC (.int 1)) (tCall (sp_law_take K) [] E0 (tCons (tVar 0) (tCons (tC (.int 8)) tNil)))) tNil)) (gName 3) tYes (tOp (rIx K) (tVar 1) (tCall (sp_law_take K) [] E0 (tCons (tVar 0) (tCons (tC (.int 26)) tNil)))) [3])) (gName 2))
    (tRet (tOp (rIx K) (tLst (tCons (tVar 2) (tCons (tVar 2) (tCons (tC (.str "pipe")) (tCons (tC (.str "we")) tNil))))) (tCall (sp_law_take K) [] E0 (tCons (tVar 0) (tCons (tC (.int 4)) tNil)))))))
theorem ln_law_draw_word (h : sp_law_draw_word K vs H Q E) : vs.length = 1 := by obtain ⟨_, _, rfl, _⟩ := h; rfl
theorem rd_law_draw_word (h : sp_law_draw_word K vs H Q E) : t_law_draw_word K (EndsOf Q) (start ["", "", "", ""] vs) H := by
  obtain ⟨b, l, rfl, B, k⟩ := h
  refine ⟨⟨_, rfl⟩, _, rfl, b, l, 8, rfl, B, by decide, by decide, fun y G y0 y1 B1 k1 => .inl ⟨_, _, rfl, rfl, 1 + y, rfl, by omega, by omega, fun D hD => ?_⟩⟩
  have abcs := sg_ok.2.2
  refine draw_join (σ := [some (.ref b), some (.str (S abc)), none, none]) (m := (1 + y).toNat) (P := fun c => inR 97 122 c = true) rfl rfl B1 (by omega) (fun G' B' i Q' q => ?_) hD fun cs G5 lc sg' hz B5 k5 => ?_
  · refine ⟨_, rfl, _, rfl, b, l, 26, rfl, B', by decide, by decide, fun v G6 v0 v1 B6 k6 => ?_⟩
    obtain ⟨c, hc, mc⟩ := drawnS (l := abc) v0 (by rw [abcs.2]; exact v1)
    exact .inr (.inr ⟨S abc, v, c, rfl, rfl, S_fit (by omega), hc, q c G6 (List.all_eq_true.mp abcs.1 c mc) B6 k6⟩)
  · refine ⟨"", D, cs.map fun c => S [c], rfl, rfl, .inl (SqL.of hz), sgs_fit (by omega), ?_⟩
    rw [sgs_join]
    have k5 := k1.trans k5
    refine ⟨_, rfl, _, rfl, two_fit.2.2.2, fun p hp => ?_⟩
    have g1 := same_new (o := .lst [.str (S cs), .str (S cs), .str "pipe", .str "we"]) hp
    refine ⟨_, rfl, b, l, 4, rfl, B5.same g1, by decide, by decide, fun j G6 j0 j1 B6 k6 => ?_⟩
    obtain ⟨n, hn, nn⟩ : ∃ n : List Nat, atI [V.str (S cs), .str (S cs), .str "pipe", .str "we"] j = some (.str (S n)) ∧ Name n := by
      have nc : Name cs := ⟨by omega, by omega, List.all_eq_true.mpr sg'⟩
      rcases (by omega : j = 0 ∨ j = 1 ∨ j = 2 ∨ j = 3) with rfl | rfl | rfl | rfl
      · exact ⟨cs, rfl, nc⟩
      · exact ⟨cs, rfl, nc⟩
      · exact ⟨[112, 105, 112, 101], rfl, by decide, by decide, by decide⟩
      · exact ⟨[119, 101], rfl, by decide, by decide, by decide⟩
    exact .inl ⟨p, _, j, _, rfl, rfl, SqL.of (k6 p _ upd_same (B5.nb hp)), hn, k n G6 nn B6 ((k5.trans (Kp.of g1)).trans k6)⟩
theorem scale39 : ∀ n : Nat, n < 39 → PySem.intText? ("1" ++ Txt.mul "0" (n : Int)) = some (10 ^ n) ∧ (("1" : Str) ++ Txt.mul "0" (n : Int)).length ≤ 640 ∧ (Txt.mul "0" (n : Int)).length ≤ 100 := by decide +kernel
def sp_law_draw_number (K : PySem.W.Frag) : Sp := fun vs H Q _ => ∃ (b l : Addr), vs = [.ref b] ∧ Bag H b l ∧ ∀ (k : Nat) H', 1 ≤ k → k < 10 ^ 39 → Bag H' b l → Kp b H H' → Q (.int (k : Nat)) H'
def t_law_draw_number (K : PySem.W.Frag) : TS :=
  (tSeq (tAsg (tCB (rIntU) (tCons (tOp (rAddU K) (tC (.str "1")) (tOp (rMulU K) (tC (.str "0")) (tCall (sp_law_take K) [] E0 (tCons (tVar 0) (tCons (tC (.int 39)) tNil))))) tNil)) (gName 1))
    (tRet (tOp (rIx K) (tLst (tCons (tOp (rAddU K) (tC (.int 1)) (tCall (sp_law_take K) [] E0 (tCons (tVar 0) (tCons (tC (.int 12)) tNil)))) (tCons (tVar 1) (tCons (tOp (rSubI) (tOp (rMulU K) (tVar 1) (tC (.int 10))) (tC (.int 1))) tNil)))) (tCall (sp_law_take K) [] E0 (tCons (tVar 0) (tCons (tC (.int 3)) tNil))))))
theorem ln_law_draw_number (h : sp_law_draw_number K vs H Q E) : vs.length = 1 := by obtain ⟨_, _, rfl, _⟩ := h; rfl
theorem rd_law_draw_number (h : sp_law_draw_number K vs H Q E) : t_law_draw_number K (EndsOf Q) (start ["", ""] vs) H := by
  obtain ⟨b, l, rfl, B, k⟩ := h
  refine ⟨_, rfl, b, l, 39, rfl, B, by decide, by decide, fun e H2 e0 e1 B1 k1 => ?_⟩
  obtain ⟨m, rfl⟩ : ∃ m : Nat, e = (m : Int) := ⟨e.toNat, by omega⟩
  obtain ⟨q1, q2, q3⟩ := scale39 m (by omega)
  refine .inr (.inl ⟨_, _, rfl, rfl, by decide, by omega, by omega, .inr (.inl ⟨_, _, rfl, rfl, ?_, .inr ⟨_, _, rfl, q1, q2, ?_⟩⟩)⟩)
  · have e : ((Str.ofString "1").length) = 1 := rfl
    exact Nat.le_of_lt (small1000 (by omega))
  have p1 : 1 ≤ 10 ^ m := Nat.one_le_pow _ _ (by decide)
  have p2 : 10 ^ m ≤ 10 ^ 38 := Nat.pow_le_pow_right (by decide) (by omega)
  have ec : (10 : Int) ^ m = ((10 ^ m : Nat) : Int) := (Int.natCast_pow 10 m).symm
  rw [ec]
  generalize 10 ^ m = pw at p1 p2
  have pb : ((pw : Nat) : Int).natAbs ≤ 10 ^ 100 := by
    have : (10 : Nat) ^ 38 ≤ 10 ^ 100 := by decide
    omega
  refine ⟨_, rfl, b, l, 12, rfl, B1, by decide, by decide, fun y G y0 y1 B2 k2 => .inl ⟨_, _, rfl, rfl, _, rfl, _, rfl, .inl ⟨_, _, rfl, rfl, mul_ok pb (by decide), _, _, rfl, rfl, two_fit.2.2.1, fun p hp => ?_⟩⟩⟩
  have g1 := same_new (o := .lst [.int (1 + y), .int (pw : Nat), .int ((pw : Nat) * 10 - 1)]) hp
  refine ⟨_, rfl, b, l, 3, rfl, B2.same g1, by decide, by decide, fun j G6 j0 j1 B6 k6 => ?_⟩
  obtain ⟨n, hn, n1, n2⟩ : ∃ n : Nat, atI [V.int (1 + y), .int (pw : Nat), .int ((pw : Nat) * 10 - 1)] j = some (.int (n : Nat)) ∧ 1 ≤ n ∧ n < 10 ^ 39 := by
    rcases (by omega : j = 0 ∨ j = 1 ∨ j = 2) with rfl | rfl | rfl
    · exact ⟨(1 + y).toNat, by rw [Int.toNat_of_nonneg (by omega)]; rfl, by omega, by omega⟩
    · exact ⟨pw, rfl, p1, by omega⟩
    · exact ⟨((pw : Int) * 10 - 1).toNat, by rw [Int.toNat_of_nonneg (by omega)]; rfl, by omega, by omega⟩
  exact .inl ⟨p, _, j, _, rfl, rfl, SqL.of (k6 p _ upd_same (B2.nb hp)), hn, k n G6 n1 n2 B6 (((k1.trans k2).trans (Kp.of g1)).trans k6)⟩
def sp_law_draw_frame (K : PySem.W.Frag) : Sp := fun vs H Q _ => ∃ (b l : Addr), vs = [.ref b] ∧ Bag H b l ∧ ∀ (a : Addr) (g : Fr) H', g.ok → FrO H' a g → a ≠ b → Bag H' b l → Kp b H H' → Q (.ref a) H'
def t_law_draw_frame (K : PySem.W.Frag) : TS :=
  (tSeq (tIfS (tTest (tOp (rEqU K) (tCall (sp_law_take K) [] E0 (tCons (tVar 0) (tCons (tC (.int 3)) tNil))) (tC (.int 0)))) (tRet (tTup (tCons (tC (.str "back")) (tCons (tCall (sp_law_draw_word K) [] E0 (tCons (tVar 0) tNil)) (tCons (tCall (sp_law_draw_number K) [] E0 (tCons (tVar 0) tNil)) tNil))))) tNext)
    (tSeq (tAsg (tOp (rIx K) (tLst (tCons (tC (.int 1)) (tCons (tOp (rAddU K) (tC (.int 1)) (tCall (sp_law_take K) [] E0 (tCons (tVar 0) (tCons (tC (.int 9)) tNil)))) (tCons (tOp (rAddU K) (tC (.int 1)) (tCall (sp_law_take K) [] E0 (tCons (tVar 0) (tCons (tC (.int 200)) tNil)))) (tCons (tC (.int 200)) tNil))))) (tCall (sp_law_take K) [] E0 (tCons (tVar 0) (tCons (tC (.int 4)) tNil)))) (gName 1))
    (tRet (tTup (tCons (tC (.str "data")) (tCons (tCall (sp_law_draw_word K) [] E0 (tCons (tVar 0) tNil)) (tCons (tCall (sp_law_draw_letters K) [] E0 (tCons (tVar 0) (tCons (tVar 1) tNil))) (tCons (tOp (rEqU K) (tCall (sp_law_take K) [] E0 (tCons (tVar 0) (tCons (tC (.int 2)) tNil))) (tC (.int 0))) (tCons (tOp (rEqU K) (tCall (sp_law_take K) [] E0 (tCons (tVar 0) (tCons (tC (.int 2)) tNil))) (tC (.int 0))) tNil)))))))))
theorem ln_law_draw_frame (h : sp_law_draw_frame K vs H Q E) : vs.length = 1 := by obtain ⟨_, _, rfl, _⟩ := h; rfl
theorem rd_law_draw_frame (h : sp_law_draw_frame K vs H Q E) : t_law_draw_frame K (EndsOf Q) (start ["", ""] vs) H := by
  obtain ⟨b, l, rfl, B, k⟩ := h
  refine ⟨_, rfl, b, l, 3, rfl, B, by decide, by decide, fun j G j0 j1 B1 k1 => .inl ⟨rfl, _, rfl, ?_⟩⟩
  refine ifI (fun _ => ?_) (fun _ => ?_)
  · refine ⟨_, rfl, b, l, rfl, B1, fun n G2 hn B2 k2 => ⟨_, rfl, b, l, rfl, B2, fun m G3 m1 m2 B3 k3 => ⟨two_fit.2.2.1, fun p hp => ?_⟩⟩⟩
    have g := same_new (o := .tup [.str "back", .str (S n), .int (m : Nat)]) hp
    exact k p (.back n m) _ ⟨hn, m1, m2⟩ upd_same (B3.nb hp) (B3.same g) (((k1.trans k2).trans k3).trans (Kp.of g))
  · refine ⟨_, rfl, b, l, 9, rfl, B1, by decide, by decide, fun y G2 y0 y1 B2 k2 => .inl ⟨_, _, rfl, rfl, _, rfl, b, l, 200, rfl, B2, by decide, by decide, fun z G3 z0 z1 B3 k3 => .inl ⟨_, _, rfl, rfl, two_fit.2.2.2, fun p hp => ?_⟩⟩⟩
    have g1 := same_new (o := .lst [.int 1, .int (1 + y), .int (1 + z), .int 200]) hp
    refine ⟨_, rfl, b, l, 4, rfl, B3.same g1, by decide, by decide, fun j G4 j0 j1 B4 k4 => ?_⟩
    obtain ⟨m, hm, m1, m2⟩ : ∃ m : Nat, atI [V.int 1, .int (1 + y), .int (1 + z), .int 200] j = some (.int (m : Nat)) ∧ 1 ≤ m ∧ m ≤ 200 := by
      rcases (by omega : j = 0 ∨ j = 1 ∨ j = 2 ∨ j = 3) with rfl | rfl | rfl | rfl
      · exact ⟨1, rfl, by omega, by omega⟩
      · exact ⟨(1 + y).toNat, by rw [Int.toNat_of_nonneg (by omega)]; rfl, by omega, by omega⟩
      · exact ⟨(1 + z).toNat, by rw [Int.toNat_of_nonneg (by omega)]; rfl, by omega, by omega⟩
      · exact ⟨200, rfl, by omega, by omega⟩
    refine .inl ⟨p, _, j, _, rfl, rfl, SqL.of (k4 p _ upd_same (B3.nb hp)), hm, ?_⟩
    refine ⟨_, rfl, b, l, rfl, B4, fun n G5 hn B5 k5 => ⟨_, rfl, _, rfl, b, l, m, rfl, B5, m1, m2, fun x G6 hx B6 k6 => ?_⟩⟩
    refine ⟨_, rfl, b, l, 2, rfl, B6, by decide, by decide, fun w G7 w0 w1 B7 k7 => .inl ⟨rfl, _, rfl, b, l, 2, rfl, B7, by decide, by decide, fun e G8 e0 e1 B8 k8 => .inl ⟨rfl, Nat.le_of_lt (small1000 (show 5 ≤ 1000 by decide)), fun p2 hp2 => ?_⟩⟩⟩
    have g := same_new (o := .tup [.str "data", .str (S n), .str (S x), .bl (decide (V.int w = V.int 0)), .bl (decide (V.int e = V.int 0))]) hp2
    exact k p2 (.data n x _ _) _ ⟨hn, hx⟩ upd_same (B8.nb hp2) (B8.same g) ((((((((k1.trans k2).trans k3).trans (Kp.of g1)).trans k4).trans k5).trans k6).trans k7).trans (k8.trans (Kp.of g)))
theorem add_S {a b : List Nat} (h : (a ++ b).length ≤ 1000) (k : Q (.str (S (a ++ b))) H) : rAddU K (.str (S a)) (.str (S b)) H Q :=
  .inr (.inl ⟨S a, S b, rfl, rfl, by rw [← len_S] at h; rw [← Str.length_append, app_S]; exact Nat.le_of_lt (small1000 h), by rw [app_S]; exact k⟩)
def sp_law_text (K : PySem.W.Frag) : Sp := fun vs H Q _ => ∃ (a : Addr) (g : Fr), vs = [.ref a] ∧ FrO H a g ∧ g.ok ∧ ∀ H', Same H H' → Q (.str (S g.enc)) H'
def t_law_text (K : PySem.W.Frag) : TS :=
  (tSeq (tIfS (tTest (tOp (rEqU K) (tOp (rIx K) (tVar 0) (tC (.int 0))) (tC (.str "back")))) (tRet (tOp (rAddU K) (tOp (rAddU K) (tOp (rAddU K) (tOp (rAddU K) (tC (.str "b")) (tOp (rIx K) (tVar 0) (tC (.int 1)))) (tC (.str ","))) (tCB (PkC.rStrI) (tCons (tOp (rIx K) (tVar 0) (tC (.int 2))) tNil))) (tC (.str ";")))) tNext)
    (tSeq (tAsg (tOp (rAddU K) (tOp (rIx K) (tLst (tCons (tC (.str "")) (tCons (tC (.str "w")) tNil))) (tCB (rIntU) (tCons (tOp (rIx K) (tVar 0) (tC (.int 3))) tNil))) (tOp (rIx K) (tLst (tCons (tC (.str "")) (tCons (tC (.str "e")) tNil))) (tCB (rIntU) (tCons (tOp (rIx K) (tVar 0) (tC (.int 4))) tNil)))) (gName 1))
    (tRet (tOp (rAddU K) (tOp (rAddU K) (tOp (rAddU K) (tOp (rAddU K) (tOp (rAddU K) (tOp (rAddU K) (tOp (rAddU K) (tOp (rAddU K) (tC (.str "d")) (tOp (rIx K) (tVar 0) (tC (.int 1)))) (tC (.str ","))) (tCB (PkC.rStrI) (tCons (tCB (rLenU K) (tCons (tOp (rIx K) (tVar 0) (tC (.int 2))) tNil)) tNil))) (tC (.str ","))) (tVar 1)) (tC (.str ":"))) (tOp (rIx K) (tVar 0) (tC (.int 2)))) (tC (.str ";"))))))
theorem ln_law_text (h : sp_law_text K vs H Q E) : vs.length = 1 := by obtain ⟨_, _, rfl, _⟩ := h; rfl
theorem rd_law_text (h : sp_law_text K vs H Q E) : t_law_text K (EndsOf Q) (start ["", ""] vs) H := by
  obtain ⟨a, g, rfl, fo, ok, k⟩ := h
  cases g with
  | back n m =>
    obtain ⟨⟨n1, n2, n3⟩, k1, k39⟩ := ok
    have l39 : (TL.numL m).length ≤ 39 := TL.numL_len (by decide) k39
    refine ⟨_, rfl, .inr (.inl ⟨a, _, 0, _, rfl, rfl, SqT.of fo, rfl, .inl ⟨rfl, _, rfl, iteT' rfl ?_⟩⟩)⟩
    refine ⟨_, rfl, .inr (.inl ⟨a, _, 1, _, rfl, rfl, SqT.of fo, rfl, add_S (a := [98]) (by simp; omega) (add_S (b := [44]) (by simp; omega) ?_)⟩)⟩
    refine ⟨_, rfl, .inr (.inl ⟨a, _, 2, _, rfl, rfl, SqT.of fo, rfl, (m : Nat), rfl, num_log k39, ?_⟩)⟩
    rw [num_S]
    refine add_S (by simp; omega) (add_S (b := [59]) (by simp; omega) ?_)
    have e : [98] ++ n ++ [44] ++ TL.numL m ++ [59] = Fr.enc (.back n m) := by simp [Fr.enc, head]
    rw [e]
    exact k H (Same.refl H)
  | data n x w e =>
    obtain ⟨⟨n1, n2, n3⟩, b1, b2, b3⟩ := ok
    have l3 : (TL.numL x.length).length ≤ 3 := TL.numL_len (by decide) (by omega)
    have lm : (marks w e).length ≤ 2 := by cases w <;> cases e <;> decide
    have pick : ∀ (b : Bool) (c : Nat) (z : Str), z = S [c] → atI [V.str "", .str z] (if b = true then 1 else 0) = some (.str (S (mk1 b c))) := fun b c z ez => by subst ez; cases b <;> rfl
    refine ⟨_, rfl, .inr (.inl ⟨a, _, 0, _, rfl, rfl, SqT.of fo, rfl, .inl ⟨rfl, _, rfl, iteF' (by decide +kernel) ?_⟩⟩)⟩
    refine ⟨two_fit.2.1, fun p hp => ?_⟩
    have g1 := same_new (o := .lst [.str "", .str "w"]) hp
    have fo1 := fo.same g1
    refine ⟨_, rfl, .inr (.inl ⟨a, _, 3, _, rfl, rfl, SqT.of fo1, rfl, .inl (.inr ⟨w, rfl, .inl ⟨p, _, _, _, rfl, rfl, SqL.of upd_same, pick w 119 "w" rfl, ?_⟩⟩)⟩)⟩
    refine ⟨two_fit.2.1, fun p2 hp2 => ?_⟩
    have g2' := same_new (o := .lst [.str "", .str "e"]) hp2
    have fo2 := fo1.same g2'
    refine ⟨_, rfl, .inr (.inl ⟨a, _, 4, _, rfl, rfl, SqT.of fo2, rfl, .inl (.inr ⟨e, rfl, .inl ⟨p2, _, _, _, rfl, rfl, SqL.of upd_same, pick e 101 "e" rfl, ?_⟩⟩)⟩)⟩
    have em : mk1 w 119 ++ mk1 e 101 = marks w e := rfl
    refine add_S (by rw [em]; omega) ?_
    rw [em]
    refine ⟨_, rfl, .inr (.inl ⟨a, _, 1, _, rfl, rfl, SqT.of fo2, rfl, add_S (a := [100]) (by simp; omega) (add_S (b := [44]) (by simp; omega) ?_)⟩)⟩
    refine ⟨_, rfl, .inr (.inl ⟨a, _, 2, _, rfl, rfl, SqT.of fo2, rfl, .inl ⟨_, x.length, rfl, ⟨S_fit (by omega), (len_S x).symm⟩, ((x.length : Nat) : Int), rfl, num_log (Nat.lt_of_le_of_lt b2 (by decide)), ?_⟩⟩)⟩
    rw [num_S]
    refine add_S (by simp; omega) (add_S (b := [44]) (by simp; omega) ?_)
    refine ⟨_, rfl, add_S (by simp; omega) (add_S (b := [58]) (by simp; omega) ?_)⟩
    refine ⟨_, rfl, .inr (.inl ⟨a, _, 2, _, rfl, rfl, SqT.of fo2, rfl, add_S (by simp; omega) (add_S (b := [59]) (by simp; omega) ?_)⟩)⟩
    have ee : [100] ++ n ++ [44] ++ TL.numL x.length ++ [44] ++ marks w e ++ [58] ++ x ++ [59] = Fr.enc (.data n x w e) := by simp [Fr.enc, head, body]
    rw [ee]
    exact k _ (g1.trans g2')
def Fr.pd : Fr → PyData
  | .back n k => .tuple [.str "back", .str (S n), .int (k : Nat)]
  | .data n x w e => .tuple [.str "data", .str (S n), .str (S x), .bool w, .bool e]
theorem FrO.dp {q : Addr} {g : Fr} (h : FrO H q g) : Dp K H (.ref q) g.pd := by
  cases g with
  | back n k => exact .tup (SqT.of h) (.cons (.str _) (.cons (.str _) (.cons (.int _) .nil)))
  | data n x w e => exact .tup (SqT.of h) (.cons (.str _) (.cons (.str _) (.cons (.str _) (.cons (.bl _) (.cons (.bl _) .nil)))))
theorem frs_dp : ∀ {as : List Addr} {fs : List Fr}, FrsO H as fs → DpAll K H (as.map V.ref) (fs.map Fr.pd)
  | [], [], _ => .nil
  | [], g :: fs, h => absurd h.1 (by simp)
  | a :: as, [], h => absurd h.1 (by simp)
  | a :: as, g :: fs, h => .cons (h.2 0 a g rfl rfl).dp (frs_dp ⟨by have := h.1; simpa using this, fun j x y e1 e2 => h.2 (j + 1) x y e1 e2⟩)
theorem gt_S {l : List Nat} (h : ∀ c ∈ l, c ≤ 126) : GoodTo 0 (10 * l.length + 8) (.str (S l)) := by
  refine ⟨?_, by simp [PyData.depth], rfl, by show 10 * (S l).length + 8 ≤ _; rw [len_S]; exact Nat.le_refl _⟩
  show PyData.strOk (S l) = true
  unfold PyData.strOk
  rw [Array.all_eq_true']
  intro c hc
  have := h c (by simpa [S] using hc)
  exact decide_eq_true (by omega)
theorem name_le {n : List Nat} (h : Name n) : ∀ c ∈ n, c ≤ 126 := fun c hc => by
  have := List.all_eq_true.mp h.2.2 c hc
  unfold inR at this
  have := of_decide_eq_true (Bool.and_eq_true_iff.mp this).2
  omega
theorem body_le {x : List Nat} (h : Body x) : ∀ c ∈ x, c ≤ 126 := fun c hc => by
  have := List.all_eq_true.mp h.2.2 c hc
  unfold good inR at this
  exact of_decide_eq_true (Bool.and_eq_true_iff.mp (Bool.and_eq_true_iff.mp this).1).2
theorem fr_good {g : Fr} (ok : g.ok) : GoodTo 1 2400 g.pd := by
  cases g with
  | back n k =>
    have kb : ((k : Nat) : Int).natAbs ≤ 10 ^ 100 := by
      have := ok.2.2
      have : (10 : Nat) ^ 39 ≤ 10 ^ 100 := by decide
      omega
    have q := gt_tuple (at_cons (gt_S (l := [98, 97, 99, 107]) (by decide)) (at_cons (gt_S (name_le ok.1)) (at_cons (gt_int (n := (k : Nat)) kb) at_nil)))
    show GoodTo 1 2400 (.tuple [.str (S [98, 97, 99, 107]), .str (S n), .int (k : Nat)])
    exact ⟨q.lay, by have := q.dep; simpa using this, q.wr, by have := q.sz; have := ok.1.2.1; simp only [List.length_cons, List.length_nil] at *; omega⟩
  | data n x w e =>
    have q := gt_tuple (at_cons (gt_S (l := [100, 97, 116, 97]) (by decide)) (at_cons (gt_S (name_le ok.1)) (at_cons (gt_S (body_le ok.2)) (at_cons (gt_bool w) (at_cons (gt_bool e) at_nil)))))
    show GoodTo 1 2400 (.tuple [.str (S [100, 97, 116, 97]), .str (S n), .str (S x), .bool w, .bool e])
    exact ⟨q.lay, by have := q.dep; simpa using this, q.wr, by have := q.sz; have := ok.1.2.1; have := ok.2.2.1; simp only [List.length_cons, List.length_nil] at *; omega⟩
theorem frs_good : ∀ {fs : List Fr}, (∀ g ∈ fs, g.ok) → AllTo 1 (2404 * fs.length) (fs.map Fr.pd)
  | [], _ => ⟨at_nil.lay, by simp [PyData.depthAll], at_nil.wr, at_nil.sz⟩
  | g :: fs, h => by
    have q := at_cons (fr_good (h g List.mem_cons_self)) (frs_good fun f hf => h f (List.mem_cons_of_mem _ hf))
    refine ⟨q.lay, by have := q.dep; simpa using this, q.wr, ?_⟩
    have := q.sz
    show sizL (g.pd :: fs.map Fr.pd) ≤ 2404 * (fs.length + 1)
    omega
theorem enc_le {g : Fr} (ok : g.ok) : (∀ c ∈ g.enc, c ≤ 126) ∧ g.enc.length ≤ 250 := by
  have hd : ∀ {n : List Nat} {k sg : Nat}, Name n → sg ≤ 126 → ∀ c ∈ head n k sg, c ≤ 126 := fun {n k sg} hn hs c hc => by
    unfold head at hc
    rcases List.mem_append.mp hc with h | h
    · exact name_le hn c h
    · rcases List.mem_cons.mp h with h | h
      · omega
      · rcases List.mem_append.mp h with h | h
        · have := TL.numL_digits k c h
          omega
        · rw [List.mem_singleton.mp h]
          exact hs
  cases g with
  | back n k =>
    have l39 : (TL.numL k).length ≤ 39 := TL.numL_len (by decide) ok.2.2
    refine ⟨fun c hc => ?_, ?_⟩
    · rcases List.mem_cons.mp hc with h | h
      · omega
      · exact hd ok.1 (by decide) c h
    · have := ok.1.2.1
      simp [Fr.enc, head]
      omega
  | data n x w e =>
    have l3 : (TL.numL x.length).length ≤ 3 := TL.numL_len (by decide) (by have := ok.2.2.1; omega)
    have lm : (marks w e).length ≤ 2 ∧ ∀ c ∈ marks w e, c ≤ 126 := by cases w <;> cases e <;> decide
    refine ⟨fun c hc => ?_, ?_⟩
    · rcases List.mem_cons.mp hc with h | h
      · omega
      · rcases List.mem_append.mp h with h | h
        · exact hd ok.1 (by decide) c h
        · rcases List.mem_append.mp h with h | h
          · exact lm.2 c h
          · rcases List.mem_cons.mp h with h | h
            · omega
            · rcases List.mem_append.mp h with h | h
              · exact body_le ok.2 c h
              · rw [List.mem_singleton.mp h]
                decide
    · have := ok.1.2.1
      have := ok.2.2.1
      simp [Fr.enc, head, body]
      omega
/-- what is told, and what is due: the same data -/
theorem told_good {fs : List Fr} {r : List Nat} (oks : ∀ g ∈ fs, g.ok) (few : fs.length ≤ 2000) (hr : ∀ c ∈ r, c ≤ 126) (lr : r.length ≤ 300) : Good (.tuple [.list (fs.map Fr.pd), .str (S r)]) :=
  (gt_tuple (at_cons (gt_list (frs_good oks)) (at_cons (gt_S hr) at_nil))).good (by decide) (by omega)
theorem told_dp {p q : Addr} {as : List Addr} {fs : List Fr} {r : List Nat} (h : H p = some (.tup [.ref q, .str (S r)])) (hq : H q = some (.lst (as.map V.ref))) (fo : FrsO H as fs) : Dp K H (.ref p) (.tuple [.list (fs.map Fr.pd), .str (S r)]) :=
  .tup (SqT.of h) (.cons (.lst (SqL.of hq) (frs_dp fo)) (.cons (.str _) .nil))
theorem FrsO.same {as : List Addr} {fs : List Fr} (h : FrsO H as fs) (s : Same H H') : FrsO H' as fs := ⟨h.1, fun j a f e1 e2 => (h.2 j a f e1 e2).same s⟩
theorem encs_join (fs : List Fr) : Txt.join "" (fs.map fun g => S g.enc) = S (encs fs) := by
  have e : (fs.map fun g => S g.enc) = (fs.map Fr.enc).map SX.S := by rw [List.map_map]; rfl
  rw [e]
  have j := SX.join_S [] (fs.map Fr.enc)
  have e2 : TL.joinL [] (fs.map Fr.enc) = encs fs := by
    unfold encs
    clear e j
    induction fs with
    | nil => rfl
    | cons c cs ih =>
      cases cs with
      | nil => simp [TL.joinL]
      | cons d cs =>
        rw [List.map_cons, List.flatten_cons, ← ih]
        rfl
  rw [e2] at j
  exact j
theorem encs_len : ∀ {fs : List Fr}, (∀ g ∈ fs, g.ok) → (encs fs).length ≤ 250 * fs.length
  | [], _ => Nat.le_refl _
  | g :: fs, h => by
    have e : encs (g :: fs) = g.enc ++ encs fs := rfl
    have := (enc_le (h g List.mem_cons_self)).2
    have := encs_len fun f hf => h f (List.mem_cons_of_mem _ hf)
    rw [e, List.length_append, List.length_cons]
    omega
theorem FrO.kp {b q : Addr} {g : Fr} (h : FrO H q g) (k : Kp b H H') (n : q ≠ b) : FrO H' q g := by
  cases g with
  | back n' m => exact k _ _ h n
  | data n' x w e => exact k _ _ h n
/-- the frames drawn -/
structure St40 (G : Hp) (b l D : Addr) (as : List Addr) (fs : List Fr) : Prop where
  bag : Bag G b l
  lst : G D = some (.lst (as.map V.ref))
  fo : FrsO G as fs
  nb : ∀ a ∈ as, a ≠ b
  nD : D ≠ b
  oks : ∀ g ∈ fs, g.ok
  few : fs.length ≤ 6
theorem St40.step {b l D : Addr} {as : List Addr} {fs : List Fr} (S : St40 G b l D as fs) (B : Bag G' b l) (k : Kp b G G') : St40 G' b l D as fs :=
  ⟨B, k _ _ S.lst S.nD, ⟨S.fo.1, fun j a f e1 e2 => (S.fo.2 j a f e1 e2).kp k (S.nb a (List.mem_of_getElem? e1))⟩, S.nb, S.nD, S.oks, S.few⟩
theorem St40.same {b l D : Addr} {as : List Addr} {fs : List Fr} (S : St40 G b l D as fs) (s : Same G G') : St40 G' b l D as fs := S.step (S.bag.same s) (Kp.of s)
/-- [f(frame) for each frame], f telling its text -/
theorem each_text {De : Hp → Prop} {b l D E0 : Addr} {as : List Addr} {fs : List Fr} {te : TE} {σ : L2.St} (S0 : St40 H b l D as fs) (h10 : σ[10]? = some none) (hE : H E0 = none)
    (ht : ∀ G (a : Addr) (g : Fr) (Q : VK), FrO G a g → g.ok → (∀ G', Same G G' → Q (.str (S g.enc)) G') → te (σ.set 10 (some (.ref a))) G Q)
    (k : ∀ G, Same H G → G E0 = some (.lst ((fs.map fun g => S g.enc).map V.str)) → De G) :
    ∃ W : Nat → Nat → Hp → Prop, (∃ m, W 0 m (upd H E0 (.lst []))) ∧ ∀ i q H, W i q H →
      ((Itl K D).stop i H ∧ De H) ∨ ((Itl K D).go i H ∧ ∃ Nx : Hp → Prop, (∀ H', Nx H' → ∃ m', m' < q ∧ W (i + 1) m' H') ∧ ∀ x H', (Itl K D).yld i H x H' → (gName 10) x (wipe σ [10]) H' fun σ2 H2 => wipe σ2 [10] = wipe σ [10] ∧ tYes σ2 H2 fun b H3 =>
        if b = true then te σ2 H3 fun y H4 => ∃ acc, H4 E0 = some (.lst acc) ∧ acc.length < sizeLine ∧ Nx (upd H4 E0 (.lst (acc ++ [y]))) else Nx H3) := by
  obtain ⟨l3, e3⟩ := List.getElem?_eq_some_iff.mp h10
  have wp : wipe σ [10] = σ := (congrArg (σ.set 10) e3.symm).trans (List.set_getElem_self l3)
  refine lc_list (K := K) (a := D) (xs := as.map V.ref) (fun i G => Same H G ∧ G E0 = some (.lst (((fs.take i).map fun g => S g.enc).map V.str))) ⟨same_new hE, upd_same⟩ (fun i G _ s => SqL.of (s.1 _ _ S0.lst)) ?_ ?_
  · rintro i x G hx ⟨s, hz⟩
    obtain ⟨lt, ex⟩ := List.getElem?_eq_some_iff.mp hx
    rw [List.length_map] at lt
    rw [List.getElem_map] at ex
    subst ex
    have lt' : i < fs.length := by rw [← S0.fo.1]; exact lt
    rw [wp]
    refine ⟨?_, ?_⟩
    · show (σ.set 10 (some (.ref as[i]))).set 10 none = σ
      rw [List.set_set]
      exact wp
    refine ht G as[i] fs[i] _ ((S0.fo.2 i _ _ (List.getElem?_eq_getElem lt) (List.getElem?_eq_getElem lt')).same s) (S0.oks _ (List.getElem_mem lt')) fun G' g => ?_
    refine ⟨_, g _ _ hz, small1000 ?_, fun c o e => ?_, ?_⟩
    · have := S0.few
      rw [List.length_map, List.length_map, List.length_take]
      omega
    · rw [upd_ne (ne_of_none e hE)]
      exact g _ _ (s _ _ e)
    · rw [upd_same, List.take_succ_eq_append_getElem lt', List.map_append, List.map_append]
      rfl
  · rintro G ⟨s, hz⟩
    rw [List.length_map, S0.fo.1, List.take_length] at hz
    exact k G s hz
theorem texts_dp {p : Addr} {fs : List Fr} (h : H p = some (.lst ((fs.map fun g => S g.enc).map V.str))) : Dp K H (.ref p) (.list (fs.map fun g => PyData.str (S g.enc))) := .lst (SqL.of h) (by
  clear h
  induction fs with
  | nil => exact .nil
  | cons g fs ih => exact .cons (.str _) ih)
theorem texts_good : ∀ {fs : List Fr}, (∀ g ∈ fs, g.ok) → AllTo 0 (2512 * fs.length) (fs.map fun g => PyData.str (S g.enc))
  | [], _ => at_nil
  | g :: fs, h => by
    obtain ⟨e1, e2⟩ := enc_le (h g List.mem_cons_self)
    have q := at_cons (gt_S e1) (texts_good fun f hf => h f (List.mem_cons_of_mem _ hf))
    refine ⟨q.lay, by have := q.dep; simpa using this, q.wr, ?_⟩
    have := q.sz
    show sizL (.str (S g.enc) :: fs.map fun g => PyData.str (S g.enc)) ≤ 2512 * (fs.length + 1)
    omega
theorem cut_to {l : List Nat} {n : Nat} (h : n ≤ l.length) : cutS (S l) none (some (n : Int)) = S (l.take n) := by
  unfold cutS
  rw [HT.sIx_none, HT.sIx_nat, len_S, Nat.min_eq_left h]
  rfl
theorem sum_len : ∀ (fs : List Fr), ((fs.map fun g => S g.enc).map (·.length)).sum = (encs fs).length
  | [] => rfl
  | g :: fs => by
    have e : encs (g :: fs) = g.enc ++ encs fs := rfl
    rw [e, List.length_append, ← sum_len fs, List.map_cons, List.map_cons, List.sum_cons, len_S]
def fr1 : Fr := .back [97] 1
theorem fr1_ok : fr1.ok := ⟨⟨by decide, by decide, by decide⟩, by decide, by decide⟩
theorem fr1_enc : fr1.enc = [98, 97, 44, 49, 59] := by decide +kernel
theorem many_text : Txt.mul "ba,1;" 1500 = S (encs (List.replicate 1500 fr1) ++ []) := by
  have e := mul_S (a := [98, 97, 44, 49, 59]) (n := 1500) (by decide) (by simp)
  have e2 : encs (List.replicate 1500 fr1) = (List.replicate 1500 [98, 97, 44, 49, 59]).flatten := by
    unfold encs
    rw [List.map_replicate, fr1_enc]
  rw [List.append_nil, e2]
  exact e
theorem rep_flat (t : Addr) : ∀ n : Nat, (List.replicate n [V.ref t]).flatten = (List.replicate n t).map V.ref
  | 0 => rfl
  | n + 1 => by rw [List.replicate_succ, List.flatten_cons, rep_flat t n]; rfl
theorem rep_frs {n : Nat} {t : Addr} {g : Fr} (h : FrO H t g) : FrsO H (List.replicate n t) (List.replicate n g) := by
  refine ⟨by simp, fun j a f e1 e2 => ?_⟩
  have i1 := (List.mem_replicate.mp (List.mem_of_getElem? e1)).2
  have i2 := (List.mem_replicate.mp (List.mem_of_getElem? e2)).2
  rw [i1, i2]
  exact h
end
end Pk
set_option Elab.async false
set_option linter.all false
set_option maxRecDepth 100000
set_option maxHeartbeats 2000000
namespace PkC
open PySem PySem.Spec L2 PyProof.Rows
def tSplit (to te : TE) : TE := tM1 (fun x xs H Q => ∃ a b, x = .str a ∧ xs = [.str b] ∧ (b.length == 0) = false ∧ a.length + 2 ≤ sizeLine ∧ rNewStrs (Txt.split a b) H Q) to te
def rFind3 : V → List V → Hp → VK → Prop := fun x xs H Q => ∃ (a b : Str) (i : Int), x = .str a ∧ xs = [.str b, .int i] ∧ Q (.int (Txt.find3 a b i)) H
end PkC
namespace Pk
open PySem PySem.Spec L2 PyProof.Rows PkC
/-! ### what a reader of frames does, on lists of signs -/
inductive Rd (α : Type) where
  | bad
  | part
  | got (x : α) (s : List Nat)
def cutAt (c : Nat) : List Nat → List Nat
  | [] => []
  | x :: r => if x = c then [] else x :: cutAt c r
theorem cutAt_app {c : Nat} : ∀ {n r : List Nat}, c ∉ n → cutAt c (n ++ r) = n ++ cutAt c r
  | [], r, _ => rfl
  | x :: n, r, h => by
    have h1 : x ≠ c := fun e => h (by rw [e]; exact List.mem_cons_self)
    have h2 : c ∉ n := fun e => h (List.mem_cons_of_mem _ e)
    show (if x = c then [] else x :: cutAt c (n ++ r)) = _
    rw [if_neg h1, cutAt_app h2]
    rfl
theorem cutAt_no {c : Nat} {s : List Nat} (h : c ∉ s) : cutAt c s = s := by
  have := cutAt_app (r := []) h
  rwa [List.append_nil, show cutAt c [] = [] from rfl, List.append_nil] at this
theorem cutAt_hit {c : Nat} {n r : List Nat} (h : c ∉ n) : cutAt c (n ++ c :: r) = n := by
  rw [cutAt_app h]
  show n ++ (if c = c then [] else _) = n
  rw [if_pos rfl, List.append_nil]
theorem cutAt_spl (c : Nat) : ∀ (s acc : List Nat), (TL.spl [c] 0 acc s)[0]? = some (acc ++ cutAt c s)
  | [], acc => by rw [TL.spl_nil]; simp [cutAt]
  | x :: r, acc => by
    have hp : TL.pre [c] (x :: r) = decide (x = c) := by
      show ([x] == [c]) = _
      by_cases e : x = c
      · subst e; simp
      · rw [decide_eq_false e]; simp [e]
    by_cases e : x = c
    · rw [TL.spl_hit (by rw [hp, decide_eq_true e])]
      subst e
      simp [cutAt]
    · show (if TL.pre [c] (x :: r) = true then _ else _)[0]? = _
      rw [hp, decide_eq_false e, if_neg (by decide), cutAt_spl c r (acc ++ [x])]
      simp [cutAt, e]
theorem runOf_spec (lo hi : Nat) : ∀ (m : Nat) (s : List Nat), ∃ r, s = runOf lo hi m s ++ r ∧ (runOf lo hi m s).all (inR lo hi) = true ∧ (runOf lo hi m s).length ≤ m ∧ (r = [] ∨ ∃ c r', r = c :: r' ∧ (inR lo hi c = false ∨ (runOf lo hi m s).length = m))
  | 0, s => ⟨s, rfl, rfl, Nat.le_refl _, by
    cases s with
    | nil => exact .inl rfl
    | cons c r => exact .inr ⟨c, r, rfl, .inr rfl⟩⟩
  | m + 1, [] => ⟨[], rfl, rfl, Nat.zero_le _, .inl rfl⟩
  | m + 1, c :: s => by
    show ∃ r, c :: s = (if inR lo hi c = true then c :: runOf lo hi m s else []) ++ r ∧ (if inR lo hi c = true then c :: runOf lo hi m s else []).all (inR lo hi) = true ∧ (if inR lo hi c = true then c :: runOf lo hi m s else []).length ≤ m + 1 ∧
      (r = [] ∨ ∃ d r', r = d :: r' ∧ (inR lo hi d = false ∨ (if inR lo hi c = true then c :: runOf lo hi m s else []).length = m + 1))
    by_cases h : inR lo hi c = true
    · rw [if_pos h]
      obtain ⟨r, e1, e2, e3, e4⟩ := runOf_spec lo hi m s
      refine ⟨r, by rw [List.cons_append, ← e1], by rw [List.all_cons, h, e2]; rfl, by rw [List.length_cons]; omega, e4.imp id fun ⟨d, r', q, z⟩ => ⟨d, r', q, z.imp id fun w => by rw [List.length_cons, w]⟩⟩
    · rw [if_neg h]
      exact ⟨c :: s, rfl, rfl, Nat.zero_le _, .inr ⟨c, s, rfl, .inl (by simpa using h)⟩⟩
/-- the digits of a head, what stands behind them -/
def digT (sg : Nat) (n d r : List Nat) : Rd (List Nat × Nat) := match r with
  | [] => .part
  | c :: t => if d = [] ∨ c ≠ sg then .bad else .got (n, NumText.digitsVal d) t
def digE (mo sg : Nat) (n d r : List Nat) : Rd (List Nat × Nat) := if d[0]? = some 48 ∨ mo < NumText.digitsVal d then .bad else digT sg n d r
def digR (mo sg : Nat) (n s : List Nat) : Rd (List Nat × Nat) := digE mo sg n (runOf 48 57 (TL.numL mo).length s) (s.drop (runOf 48 57 (TL.numL mo).length s).length)
def headE (mo sg : Nat) (n r : List Nat) : Rd (List Nat × Nat) := match r with
  | [] => .part
  | c :: t => if n = [] ∨ c ≠ 44 then .bad else digR mo sg n t
def headR (mo sg : Nat) (s : List Nat) : Rd (List Nat × Nat) := headE mo sg (runOf 97 122 8 s) (s.drop (runOf 97 122 8 s).length)
def skip (c : Nat) (s : List Nat) : List Nat := if s[0]? = some c then s.drop 1 else s
def tailE (x : List Nat) (w e : Bool) (r : List Nat) : Rd (List Nat × Bool × Bool) := match r with
  | [] => .part
  | c :: t => if c ≠ 59 then .bad else .got (x, w, e) t
def bodyE (many : Nat) (w e : Bool) (s : List Nat) : Rd (List Nat × Bool × Bool) := match s with
  | [] => .part
  | c :: t => if c ≠ 58 then .bad else if (t.take many).all good = false then .bad else tailE (t.take many) w e (t.drop many)
def bodyR (many : Nat) (s : List Nat) : Rd (List Nat × Bool × Bool) := bodyE many (decide (s[0]? = some 119)) (decide ((skip 119 s)[0]? = some 101)) (skip 101 (skip 119 s))
def Rd.bind {α β : Type} (r : Rd α) (f : α → List Nat → Rd β) : Rd β := match r with
  | .bad => .bad
  | .part => .part
  | .got x s => f x s
def backR (s : List Nat) : Rd Fr := (headR (10 ^ 39 - 1) 59 s).bind fun x t => .got (.back x.1 x.2) t
def dataR (s : List Nat) : Rd Fr := (headR 200 44 s).bind fun x t => (bodyR x.2 t).bind fun y u => .got (.data x.1 y.1 y.2.1 y.2.2) u
def frameR : List Nat → Rd Fr
  | [] => .bad
  | c :: s => if c = 100 then dataR s else if c = 98 then backR s else .bad
def Suf (t s : List Nat) : Prop := ∃ p, s = p ++ t
theorem Suf.trans {a b c : List Nat} (h : Suf a b) (h2 : Suf b c) : Suf a c := by
  obtain ⟨p, rfl⟩ := h
  obtain ⟨q, rfl⟩ := h2
  exact ⟨q ++ p, by rw [List.append_assoc]⟩
theorem Suf.drop (n : Nat) (s : List Nat) : Suf (s.drop n) s := ⟨s.take n, (List.take_append_drop n s).symm⟩
theorem Suf.cons (c : Nat) (s : List Nat) : Suf s (c :: s) := ⟨[c], rfl⟩
theorem Suf.len {a b : List Nat} (h : Suf a b) : a.length ≤ b.length := by
  obtain ⟨p, rfl⟩ := h
  rw [List.length_append]
  omega
theorem Suf.mem {a b : List Nat} (h : Suf a b) {c : Nat} (m : c ∈ a) : c ∈ b := by
  obtain ⟨p, rfl⟩ := h
  exact List.mem_append_right _ m
theorem val_pos {d : List Nat} {c : Nat} (h : c ≠ 48) (a : inR 48 57 c = true) : 1 ≤ NumText.digitsVal (c :: d) := by
  have q := val_prefix d [c]
  have : NumText.digitsVal [c] = 0 * 10 + (c - 48) := rfl
  unfold inR at a
  simp only [Bool.and_eq_true, decide_eq_true_eq] at a
  have e : [c] ++ d = c :: d := rfl
  rw [e] at q
  omega
theorem head_got {mo sg : Nat} {s t : List Nat} {x : List Nat × Nat} (h : headR mo sg s = .got x t) : Name x.1 ∧ 1 ≤ x.2 ∧ x.2 ≤ mo ∧ Suf t s ∧ t.length + 4 ≤ s.length := by
  obtain ⟨r, e1, e2, e3, e4⟩ := runOf_spec 97 122 8 s
  unfold headR at h
  generalize runOf 97 122 8 s = n at e1 e2 e3 e4 h
  have sr : Suf (s.drop n.length) s := Suf.drop _ _
  unfold headE at h
  cases hr : s.drop n.length with
  | nil => rw [hr] at h; exact nomatch h
  | cons c u =>
    rw [hr] at h sr
    dsimp only at h
    by_cases b : n = [] ∨ c ≠ 44
    · rw [if_pos b] at h; exact nomatch h
    rw [if_neg b] at h
    obtain ⟨q, d1, d2, d3, d4⟩ := runOf_spec 48 57 (TL.numL mo).length u
    unfold digR at h
    generalize runOf 48 57 (TL.numL mo).length u = d at d1 d2 d3 d4 h
    have sd : Suf (u.drop d.length) u := Suf.drop _ _
    unfold digE at h
    by_cases b2 : d[0]? = some 48 ∨ mo < NumText.digitsVal d
    · rw [if_pos b2] at h; exact nomatch h
    rw [if_neg b2] at h
    unfold digT at h
    cases hd : u.drop d.length with
    | nil => rw [hd] at h; exact nomatch h
    | cons c2 w =>
      rw [hd] at h sd
      dsimp only at h
      by_cases b3 : d = [] ∨ c2 ≠ sg
      · rw [if_pos b3] at h; exact nomatch h
      rw [if_neg b3] at h
      injection h with h1 h2
      subst h1 h2
      have n0 : n ≠ [] := fun z => b (.inl z)
      refine ⟨⟨List.length_pos_iff.mpr n0, e3, e2⟩, ?_, by dsimp only; omega, (Suf.cons c2 w).trans (sd.trans ((Suf.cons c u).trans sr)), ?_⟩
      rotate_left
      · have d0 : d ≠ [] := fun z => b3 (.inl z)
        have q1 := congrArg List.length hr
        have q2 := congrArg List.length hd
        rw [List.length_drop, List.length_cons] at q1 q2
        have := List.length_pos_iff.mpr n0
        have := List.length_pos_iff.mpr d0
        omega
      cases d with
      | nil => exact absurd rfl (fun z => b3 (.inl z))
      | cons d0 d =>
        refine val_pos (fun z => b2 (.inl (by rw [z]; rfl))) ?_
        rw [List.all_cons, Bool.and_eq_true] at d2
        exact d2.1
theorem body_got {many : Nat} {s t : List Nat} {y : List Nat × Bool × Bool} (h : bodyR many s = .got y t) (hm : 1 ≤ many) (hm2 : many ≤ 200) : Body y.1 ∧ Suf t s := by
  unfold bodyR at h
  have sk : ∀ c (s : List Nat), Suf (skip c s) s := fun c s => by
    unfold skip
    split
    · exact Suf.drop _ _
    · exact ⟨[], rfl⟩
  have ss : Suf (skip 101 (skip 119 s)) s := (sk _ _).trans (sk _ _)
  unfold bodyE at h
  cases hs : skip 101 (skip 119 s) with
  | nil => rw [hs] at h; exact nomatch h
  | cons c u =>
    rw [hs] at h ss
    dsimp only at h
    by_cases b : c ≠ 58
    · rw [if_pos b] at h; exact nomatch h
    rw [if_neg b] at h
    by_cases b2 : (u.take many).all good = false
    · rw [if_pos b2] at h; exact nomatch h
    rw [if_neg b2] at h
    unfold tailE at h
    have sd := Suf.drop many u
    cases hd : u.drop many with
    | nil => rw [hd] at h; exact nomatch h
    | cons c2 w =>
      rw [hd] at h sd
      dsimp only at h
      by_cases b3 : c2 ≠ 59
      · rw [if_pos b3] at h; exact nomatch h
      rw [if_neg b3] at h
      injection h with h1 h2
      subst h1 h2
      have l : many < u.length := by
        have := congrArg List.length hd
        rw [List.length_drop, List.length_cons] at this
        omega
      have lt : (u.take many).length = many := by rw [List.length_take]; omega
      exact ⟨⟨by dsimp only; omega, by dsimp only; omega, by simpa using b2⟩, (Suf.cons c2 w).trans (sd.trans ((Suf.cons c u).trans ss))⟩
theorem frame_got {s t : List Nat} {g : Fr} (h : frameR s = .got g t) : g.ok ∧ ∃ c u, s = c :: u ∧ Suf t u ∧ t.length + 4 ≤ u.length := by
  cases s with
  | nil => exact nomatch h
  | cons c s =>
    have h : (if c = 100 then dataR s else if c = 98 then backR s else Rd.bad) = .got g t := h
    by_cases c1 : c = 100
    · rw [if_pos c1] at h
      unfold dataR at h
      cases hh : headR 200 44 s with
      | bad => rw [hh] at h; exact nomatch h
      | part => rw [hh] at h; exact nomatch h
      | got x u =>
        rw [hh] at h
        have h : (bodyR x.2 u).bind (fun y u => Rd.got (Fr.data x.1 y.1 y.2.1 y.2.2) u) = .got g t := h
        obtain ⟨n, k1, k2, su, l4⟩ := head_got hh
        cases hb : bodyR x.2 u with
        | bad => rw [hb] at h; exact nomatch h
        | part => rw [hb] at h; exact nomatch h
        | got y w =>
          rw [hb] at h
          obtain ⟨bo, sw⟩ := body_got hb k1 k2
          have h : Rd.got (Fr.data x.1 y.1 y.2.1 y.2.2) w = Rd.got g t := h
          injection h with h1 h2
          subst h1 h2
          exact ⟨⟨n, bo⟩, c, s, rfl, sw.trans su, by have := sw.len; omega⟩
    · rw [if_neg c1] at h
      by_cases c2 : c = 98
      · rw [if_pos c2] at h
        unfold backR at h
        cases hh : headR (10 ^ 39 - 1) 59 s with
        | bad => rw [hh] at h; exact nomatch h
        | part => rw [hh] at h; exact nomatch h
        | got x u =>
          rw [hh] at h
          obtain ⟨n, k1, k2, su, l4⟩ := head_got hh
          have h : Rd.got (Fr.back x.1 x.2) u = Rd.got g t := h
          injection h with h1 h2
          subst h1 h2
          exact ⟨⟨n, k1, by omega⟩, c, s, rfl, su, l4⟩
      · rw [if_neg c2] at h
        exact nomatch h
/-- all that is read of a text -/
def readR : Nat → List Nat → Option (List Fr × List Nat)
  | 0, _ => none
  | _ + 1, [] => some ([], [])
  | n + 1, c :: s => match frameR (c :: s) with
    | .bad => none
    | .part => some ([], c :: s)
    | .got f t => (readR n t).map fun x => (f :: x.1, x.2)
/-! ### the law's own reading, on lists of signs -/
def isWord (n : List Nat) : Bool := decide (0 < n.length) && decide (n.length < 9) && n.all (inR 97 122)
def isNum (top : Nat) (d : List Nat) : Bool := !decide (d = []) && decide (d.length ≤ 39) && d.all (inR 48 57) && !decide (d[0]? = some 48) && decide (NumText.digitsVal d ≤ top)
def lawDig (top en : Nat) (n r : List Nat) : Rd (List Nat × Nat) :=
  if n = [] ∨ (cutAt en r ≠ [] ∧ isNum top (cutAt en r) = false) then .bad else if en ∉ r then .part else if cutAt en r = [] then .bad else .got (n, NumText.digitsVal (cutAt en r)) (r.drop ((cutAt en r).length + 1))
def lawHead (top en : Nat) (s : List Nat) : Rd (List Nat × Nat) :=
  if cutAt 44 s ≠ [] ∧ isWord (cutAt 44 s) = false then .bad else if 44 ∉ s then .part else lawDig top en (cutAt 44 s) (s.drop ((cutAt 44 s).length + 1))
theorem val_nil : NumText.digitsVal [] = 0 := rfl
theorem all_not {lo hi c : Nat} {n : List Nat} (a : n.all (inR lo hi) = true) (h : inR lo hi c = false) : c ∉ n := fun m => by
  have := List.all_eq_true.mp a c m
  rw [h] at this
  cases this
theorem all_cons_false {f : Nat → Bool} {a b : List Nat} {c : Nat} (h : f c = false) : (a ++ c :: b).all f = false := by
  rw [List.all_append, List.all_cons, h]
  simp
theorem digs (top mo sg M : Nat) (n s : List Nat) (hn : n ≠ []) (hs : inR 48 57 sg = false) (hM : (TL.numL mo).length = M) (h39 : M ≤ 39) (same : ∀ d : List Nat, d.length ≤ M → d.all (inR 48 57) = true → (NumText.digitsVal d ≤ mo ↔ NumText.digitsVal d ≤ top))
    (more : ∀ d : List Nat, M < d.length → d.all (inR 48 57) = true → d[0]? ≠ some 48 → d.length ≤ 39 → top < NumText.digitsVal d) : lawDig top sg n s = digR mo sg n s := by
  obtain ⟨r, e1, e2, e3, e4⟩ := runOf_spec 48 57 (TL.numL mo).length s
  unfold digR
  generalize runOf 48 57 (TL.numL mo).length s = d at e1 e2 e3 e4 ⊢
  rw [hM] at e3 e4
  subst e1
  rw [List.drop_left]
  have nd : sg ∉ d := all_not e2 hs
  have num : d ≠ [] → (isNum top d = false ↔ (d[0]? = some 48 ∨ mo < NumText.digitsVal d)) := fun ne => by
    have q := same d e3 e2
    unfold isNum
    rw [decide_eq_false ne, decide_eq_true (show d.length ≤ 39 by omega), e2]
    by_cases z : d[0]? = some 48
    · simp [z]
    · simp [z]
      omega
  have key : cutAt sg (d ++ r) = d → ((n = [] ∨ (cutAt sg (d ++ r) ≠ [] ∧ isNum top (cutAt sg (d ++ r)) = false)) ↔ (d[0]? = some 48 ∨ mo < NumText.digitsVal d)) := fun ex => by
    rw [ex]
    by_cases d0 : d = []
    · subst d0
      simp [hn, val_nil]
    · simp [hn, d0, num d0]
  unfold lawDig digE digT
  rcases e4 with rfl | ⟨c, r', rfl, e4⟩
  · have ec : cutAt sg (d ++ []) = d := by rw [List.append_nil]; exact cutAt_no nd
    have k := key ec
    by_cases b : d[0]? = some 48 ∨ mo < NumText.digitsVal d
    · rw [if_pos (k.mpr b), if_pos b]
    · rw [if_neg (fun z => b (k.mp z)), if_neg b, if_pos (by rw [List.append_nil]; exact nd)]
  · by_cases ce : c = sg
    · subst ce
      have ec : cutAt c (d ++ c :: r') = d := cutAt_hit nd
      have k := key ec
      by_cases b : d[0]? = some 48 ∨ mo < NumText.digitsVal d
      · rw [if_pos (k.mpr b), if_pos b]
      · rw [if_neg (fun z => b (k.mp z)), if_neg b, if_neg (by simp), ec]
        by_cases d0 : d = []
        · simp [d0]
        · rw [if_neg d0]
          have : (d ++ c :: r').drop (d.length + 1) = r' := by rw [List.drop_append]; simp
          simp [d0, this]
    · have ec : cutAt sg (d ++ c :: r') = d ++ c :: cutAt sg r' := by
        rw [cutAt_app nd]
        show d ++ (if c = sg then _ else _) = _
        rw [if_neg ce]
      have bad : isNum top (d ++ c :: cutAt sg r') = false := by
        rcases e4 with e4 | e4
        · unfold isNum
          rw [all_cons_false e4]
          simp
        · by_cases a : (d ++ c :: cutAt sg r').all (inR 48 57) = true
          · by_cases z : (d ++ c :: cutAt sg r')[0]? = some 48
            · unfold isNum
              simp [z]
            · by_cases l : (d ++ c :: cutAt sg r').length ≤ 39
              · have := more _ (by rw [List.length_append, List.length_cons]; omega) a z l
                unfold isNum
                rw [decide_eq_false (show ¬ NumText.digitsVal (d ++ c :: cutAt sg r') ≤ top by omega)]
                simp
              · unfold isNum
                rw [decide_eq_false l]
                simp
          · unfold isNum
            rw [Bool.not_eq_true] at a
            rw [a]
            simp
      rw [if_pos (.inr ⟨by rw [ec]; simp, by rw [ec]; exact bad⟩)]
      by_cases b : d[0]? = some 48 ∨ mo < NumText.digitsVal d
      · rw [if_pos b]
      · rw [if_neg b]
        show _ = if d = [] ∨ c ≠ sg then Rd.bad else _
        rw [if_pos (.inr ce)]
theorem heads (top mo sg M : Nat) (s : List Nat) (hs : inR 48 57 sg = false) (hM : (TL.numL mo).length = M) (h39 : M ≤ 39) (same : ∀ d : List Nat, d.length ≤ M → d.all (inR 48 57) = true → (NumText.digitsVal d ≤ mo ↔ NumText.digitsVal d ≤ top))
    (more : ∀ d : List Nat, M < d.length → d.all (inR 48 57) = true → d[0]? ≠ some 48 → d.length ≤ 39 → top < NumText.digitsVal d) : lawHead top sg s = headR mo sg s := by
  obtain ⟨r, e1, e2, e3, e4⟩ := runOf_spec 97 122 8 s
  unfold headR
  generalize runOf 97 122 8 s = n at e1 e2 e3 e4 ⊢
  subst e1
  rw [List.drop_left]
  have nn : 44 ∉ n := all_not e2 (by decide)
  have word : n ≠ [] → isWord n = true := fun ne => by
    unfold isWord
    have := List.length_pos_iff.mpr ne
    rw [decide_eq_true this, decide_eq_true (show n.length < 9 by omega), e2]
    rfl
  unfold lawHead headE
  rcases e4 with rfl | ⟨c, r', rfl, e4⟩
  · rw [List.append_nil, cutAt_no nn, if_neg (fun z => by rw [word z.1] at z; exact nomatch z.2), if_pos nn]
  · by_cases ce : c = 44
    · subst ce
      rw [cutAt_hit nn, if_neg (fun z => by rw [word z.1] at z; exact nomatch z.2), if_neg (by simp)]
      have : (n ++ 44 :: r').drop (n.length + 1) = r' := by rw [List.drop_append]; simp
      rw [this]
      by_cases n0 : n = []
      · show lawDig _ _ _ _ = if n = [] ∨ 44 ≠ 44 then _ else _
        rw [if_pos (.inl n0)]
        unfold lawDig
        rw [if_pos (.inl n0)]
      · show lawDig _ _ _ _ = if n = [] ∨ 44 ≠ 44 then _ else _
        rw [if_neg (by simp [n0]), digs top mo sg M n r' n0 hs hM h39 same more]
    · have ec : cutAt 44 (n ++ c :: r') = n ++ c :: cutAt 44 r' := by
        rw [cutAt_app nn]
        show n ++ (if c = 44 then _ else _) = _
        rw [if_neg ce]
      have bad : isWord (n ++ c :: cutAt 44 r') = false := by
        unfold isWord
        rcases e4 with e4 | e4
        · rw [all_cons_false e4]
          simp
        · rw [decide_eq_false (show ¬ (n ++ c :: cutAt 44 r').length < 9 by rw [List.length_append, List.length_cons]; omega)]
          simp
      rw [ec, if_pos ⟨by simp, bad⟩]
      show Rd.bad = if n = [] ∨ c ≠ 44 then Rd.bad else _
      rw [if_pos (.inr ce)]
def ascii (c : Nat) : Bool := inR 32 126 c
def lawTail (m x : List Nat) (r : List Nat) : Rd (List Nat × Bool × Bool) := match r with
  | [] => .part
  | c :: t => if c = 59 then .got (x, decide (119 ∈ m), decide (101 ∈ m)) t else .bad
def kinds4 : List (List Nat) := [[], [119], [101], [119, 101]]
def lawBody (many : Nat) (r : List Nat) : Rd (List Nat × Bool × Bool) :=
  if cutAt 58 r ∉ kinds4 then .bad else if 58 ∉ r then .part else
  if ((r.drop ((cutAt 58 r).length + 1)).take many).all ascii = false then .bad else lawTail (cutAt 58 r) ((r.drop ((cutAt 58 r).length + 1)).take many) (r.drop ((cutAt 58 r).length + 1 + many))
theorem marks_of (r : List Nat) : ∃ m ∈ kinds4, r = m ++ skip 101 (skip 119 r) ∧ decide (r[0]? = some 119) = decide (119 ∈ m) ∧ decide ((skip 119 r)[0]? = some 101) = decide (101 ∈ m) ∧ 58 ∉ m ∧
    ∀ c t, skip 101 (skip 119 r) = c :: t → c ≠ 58 → ∀ y, m ++ c :: y ∉ kinds4 := by
  unfold skip
  cases r with
  | nil => exact ⟨[], by decide, rfl, by decide, by decide, by decide, fun c t e => nomatch e⟩
  | cons a r =>
    by_cases h1 : a = 119
    · subst h1
      cases r with
      | nil => exact ⟨[119], by decide, rfl, by decide, by decide, by decide, fun c t e => nomatch e⟩
      | cons b r =>
        by_cases h2 : b = 101
        · subst h2
          exact ⟨[119, 101], by decide, rfl, by simp, by simp, by decide, fun c t e _ y => by simp [kinds4]⟩
        · refine ⟨[119], by decide, by simp [h2], by simp, by simp [h2], by decide, fun c t e _ y => ?_⟩
          simp [h2] at e
          simp [kinds4]
          intro z
          omega
    · by_cases h2 : a = 101
      · subst h2
        exact ⟨[101], by decide, rfl, by simp, by simp, by decide, fun c t e _ y => by simp [kinds4]⟩
      · refine ⟨[], by decide, by simp [h1, h2], by simp [h1], by simp [h1, h2], by decide, fun c t e _ y => ?_⟩
        simp [h1, h2] at e
        simp [kinds4]
        omega
theorem bodies {many : Nat} {r : List Nat} (no37 : 37 ∉ r) : lawBody many r = bodyR many r := by
  obtain ⟨m, hm, e, ew, ee, n58, nk⟩ := marks_of r
  unfold bodyR
  rw [ew, ee]
  generalize skip 101 (skip 119 r) = s at e nk ⊢
  subst e
  unfold lawBody bodyE
  cases s with
  | nil => rw [List.append_nil, cutAt_no n58, if_neg (not_not_intro hm), if_pos n58]
  | cons c t =>
    by_cases ce : c = 58
    · subst ce
      have ed : (m ++ 58 :: t).drop (m.length + 1) = t := by rw [List.drop_append]; simp
      have ed2 : (m ++ 58 :: t).drop (m.length + 1 + many) = t.drop many := by rw [← List.drop_drop, ed]
      rw [cutAt_hit n58, if_neg (not_not_intro hm), if_neg (by simp), ed, ed2]
      have ea : (t.take many).all ascii = (t.take many).all good := by
        have : ∀ x ∈ t.take many, ascii x = good x := fun x hx => by
          unfold good ascii
          have : x ≠ 37 := fun z => no37 (by rw [← z]; exact List.mem_append_right _ (List.mem_cons_of_mem _ (List.mem_of_mem_take hx)))
          rw [decide_eq_true this, Bool.and_true]
        rw [Bool.eq_iff_iff, List.all_eq_true, List.all_eq_true]
        exact ⟨fun h x hx => by rw [← this x hx]; exact h x hx, fun h x hx => by rw [this x hx]; exact h x hx⟩
      rw [ea]
      show _ = if ¬ (58 : Nat) = 58 then Rd.bad else _
      rw [if_neg (not_not_intro rfl)]
      by_cases g : (t.take many).all good = false
      · rw [if_pos g, if_pos g]
      · rw [if_neg g, if_neg g]
        unfold lawTail tailE
        cases t.drop many with
        | nil => rfl
        | cons d u =>
          by_cases de : d = 59
          · show (if d = 59 then _ else _) = if ¬ d = 59 then _ else _
            rw [if_pos de, if_neg (not_not_intro de)]
          · show (if d = 59 then _ else _) = if ¬ d = 59 then _ else _
            rw [if_neg de, if_pos de]
    · have ec : cutAt 58 (m ++ c :: t) = m ++ c :: cutAt 58 t := by
        rw [cutAt_app n58]
        show m ++ (if c = 58 then _ else _) = _
        rw [if_neg ce]
      rw [ec, if_pos (nk c t rfl ce _)]
      show Rd.bad = if ¬ c = 58 then Rd.bad else _
      rw [if_pos ce]
def lawBack (s : List Nat) : Rd Fr := (lawHead (10 ^ 39) 59 s).bind fun x t => .got (.back x.1 x.2) t
def lawData (s : List Nat) : Rd Fr := (lawHead 200 44 s).bind fun x t => (lawBody x.2 t).bind fun y u => .got (.data x.1 y.1 y.2.1 y.2.2) u
theorem val_fold : ∀ (d : List Nat) (acc : Nat), d.all (inR 48 57) = true → d.foldl (fun acc c => acc * 10 + (c - 48)) acc < (acc + 1) * 10 ^ d.length
  | [], acc, _ => by simp
  | c :: r, acc, h => by
    rw [List.all_cons, Bool.and_eq_true] at h
    have q := val_fold r (acc * 10 + (c - 48)) h.2
    have c9 : c - 48 ≤ 9 := by
      have := h.1
      unfold inR at this
      simp only [Bool.and_eq_true, decide_eq_true_eq] at this
      omega
    have z : (acc * 10 + (c - 48) + 1) * 10 ^ r.length ≤ ((acc + 1) * 10) * 10 ^ r.length := Nat.mul_le_mul_right _ (by omega)
    rw [List.length_cons, Nat.pow_succ, Nat.mul_comm (10 ^ r.length) 10, ← Nat.mul_assoc]
    exact Nat.lt_of_lt_of_le q z
theorem val_lt {d : List Nat} (h : d.all (inR 48 57) = true) : NumText.digitsVal d < 10 ^ d.length := by
  have := val_fold d 0 h
  rw [Nat.zero_add, Nat.one_mul] at this
  exact this
theorem reads (c : Nat) (s : List Nat) (h : 37 ∉ s) : frameR (c :: s) = if c = 100 then lawData s else if c = 98 then lawBack s else .bad := by
  have n200 : (TL.numL 200).length = 3 := by decide +kernel
  have n39 : (TL.numL (10 ^ 39 - 1)).length = 39 := by decide +kernel
  have e1 : lawHead 200 44 s = headR 200 44 s := heads 200 200 44 3 s (by decide) n200 (by decide) (fun _ _ _ => Iff.rfl) fun d l a z l2 => by
    obtain ⟨d0, d1, d2, d3, r, rfl⟩ : ∃ d0 d1 d2 d3 r, d = [d0, d1, d2, d3] ++ r := by
      match d, l with
      | d0 :: d1 :: d2 :: d3 :: r, _ => exact ⟨d0, d1, d2, d3, r, rfl⟩
    have q := val_prefix r [d0, d1, d2, d3]
    have a0 : inR 48 57 d0 = true := List.all_eq_true.mp a d0 (by simp)
    have a1 : inR 48 57 d1 = true := List.all_eq_true.mp a d1 (by simp)
    have a2 : inR 48 57 d2 = true := List.all_eq_true.mp a d2 (by simp)
    have a3 : inR 48 57 d3 = true := List.all_eq_true.mp a d3 (by simp)
    have z0 : d0 ≠ 48 := fun e => z (by rw [e]; rfl)
    unfold inR at a0 a1 a2 a3
    simp only [Bool.and_eq_true, decide_eq_true_eq] at a0 a1 a2 a3
    have v : NumText.digitsVal [d0, d1, d2, d3] = ((((0 * 10 + (d0 - 48)) * 10 + (d1 - 48)) * 10 + (d2 - 48)) * 10 + (d3 - 48)) := rfl
    omega
  have e2 : lawHead (10 ^ 39) 59 s = headR (10 ^ 39 - 1) 59 s := heads (10 ^ 39) (10 ^ 39 - 1) 59 39 s (by decide) n39 (by decide) (fun d l a => by
      have := val_lt a
      have p : 10 ^ d.length ≤ 10 ^ 39 := Nat.pow_le_pow_right (by decide) l
      omega) fun d l a z l2 => absurd l2 (by omega)
  show (if c = 100 then dataR s else if c = 98 then backR s else Rd.bad) = _
  by_cases c1 : c = 100
  · rw [if_pos c1, if_pos c1]
    unfold dataR lawData
    rw [e1]
    cases hh : headR 200 44 s with
    | bad => rfl
    | part => rfl
    | got x t =>
      have sub : 37 ∉ t := fun m => h ((head_got hh).2.2.2.1.mem m)
      show (bodyR x.2 t).bind _ = (lawBody x.2 t).bind _
      rw [bodies sub]
  · rw [if_neg c1, if_neg c1]
    unfold backR lawBack
    rw [e2]
/-! ### the program's reader -/
section
variable {K : PySem.W.Frag} {C : Cs} {vs : List V} {H H' G G' : Hp} {Q : VK} {E : XK} {v : V} {L : List Nat}
/-- what comes of reading at a place of L -/
def Out {α : Type} (r : Rd α) (L : List Nat) (bad part : Prop) (got : α → Nat → Prop) : Prop := match r with
  | .bad => bad
  | .part => part
  | .got x s => ∀ j : Nat, j ≤ L.length → L.drop j = s → got x j
def sp_head_atX (K : PySem.W.Frag) (C : Cs) : Sp := fun vs H Q E => ∃ (L : List Nat) (i mo sg : Nat), vs = [.str (S L), .int i, .int mo, .str (S [sg])] ∧ Fits L ∧ i ≤ L.length ∧ mo < 10 ^ 39 ∧
  Out (headR mo sg (L.drop i)) L (∀ H', Same H H' → E (.ref C.BadFrame) none H') (∀ H', Same H H' → Q .non H') (fun x j => ∀ p H', Same H H' → H' p = some (.tup [.str (S x.1), .int x.2, .int j]) → Q (.ref p) H')
def t_head_atX (K : PySem.W.Frag) (C : Cs) (E : XK) : TS :=
  (tSeq (tAsg (tCall (sp_run_at K) [] E0 (tCons (tVar 0) (tCons (tVar 1) (tCons (tC (.str "a")) (tCons (tC (.str "z")) (tCons (tC (.int 8)) tNil)))))) (gTup K 2 (gCons (gName 4) (gCons (gName 1) gNil))))
    (tSeq (tIfS (tTest (tOp (rEqU K) (tVar 1) (tCB (rLenU K) (tCons (tVar 0) tNil)))) (tRet (tC .non)) tNext)
    (tSeq (tIfS (tOr (tTest (tOp (rEqU K) (tVar 4) (tC (.str "")))) (tTest (tOp (rNeU K) (tOp (rIx K) (tVar 0) (tVar 1)) (tC (.str ","))))) (tRaise0 C.BadFrame E) tNext)
    (tSeq (tAsg (tCall (sp_run_at K) [] E0 (tCons (tVar 0) (tCons (tOp (rAddU K) (tVar 1) (tC (.int 1))) (tCons (tC (.str "0")) (tCons (tC (.str "9")) (tCons (tCB (rLenU K) (tCons (tCB (PkC.rStrI) (tCons (tVar 2) tNil)) tNil)) tNil)))))) (gTup K 2 (gCons (gName 5) (gCons (gName 1) gNil))))
    (tSeq (tIfS (tOr (tB (tBM K "str" PkC.rSw1 (tVar 5) (tCons (tC (.str "0")) tNil))) (tAnd (tTest (tOp (rNeU K) (tVar 5) (tC (.str "")))) (tTest (tOp (rGtI) (tCB (rIntU) (tCons (tVar 5) tNil)) (tVar 2))))) (tRaise0 C.BadFrame E) tNext)
    (tSeq (tIfS (tTest (tOp (rEqU K) (tVar 1) (tCB (rLenU K) (tCons (tVar 0) tNil)))) (tRet (tC .non)) tNext)
    (tSeq (tIfS (tOr (tTest (tOp (rEqU K) (tVar 5) (tC (.str "")))) (tTest (tOp (rNeU K) (tOp (rIx K) (tVar 0) (tVar 1)) (tVar 3)))) (tRaise0 C.BadFrame E) tNext)
    (tRet (tTup (tCons (tVar 4) (tCons (tCB (rIntU) (tCons (tVar 5) tNil)) (tCons (tOp (rAddU K) (tVar 1) (tC (.int 1))) tNil))))))))))))
theorem ln_head_atX (h : sp_head_atX K C vs H Q E) : vs.length = 4 := by obtain ⟨_, _, _, _, rfl, _⟩ := h; rfl
theorem emp_S {l : List Nat} : decide (V.str (S l) = V.str "") = decide (l = []) := by
  rw [decide_eq_decide]
  constructor
  · intro z
    have z2 : (S l).cps.toList = ("" : Str).cps.toList := by rw [V.str.inj z]
    exact z2
  · intro z
    rw [z]
    rfl
theorem one_S {c d : Nat} : decide (V.str ⟨#[c]⟩ = V.str (S [d])) = decide (c = d) := by
  rw [decide_eq_decide]
  constructor
  · intro z
    have z2 : (⟨#[c]⟩ : Str).cps.toList = (S [d]).cps.toList := by rw [V.str.inj z]
    have : [c] = [d] := z2
    injection this
  · intro z
    rw [z]
theorem drop_nil_iff {i : Nat} (h : i ≤ L.length) : L.drop i = [] ↔ i = L.length := by
  rw [List.drop_eq_nil_iff]
  omega
theorem drop_get {i c : Nat} {t : List Nat} (h : L.drop i = c :: t) : ∃ lt : i < L.length, L[i] = c ∧ L.drop (i + 1) = t := by
  have lt : i < L.length := by
    have := congrArg List.length h
    rw [List.length_drop, List.length_cons] at this
    omega
  refine ⟨lt, ?_⟩
  rw [List.drop_eq_getElem_cons lt] at h
  injection h with h1 h2
  exact ⟨h1, h2⟩
theorem rd_head_atX (h : sp_head_atX K C vs H Q E) : t_head_atX K C E (EndsOf Q) (start ["", "", "", "", "", ""] vs) H := by
  obtain ⟨L, i, mo, sg, rfl, f, il, m39, out⟩ := h
  refine ⟨_, rfl, _, rfl, L, i, 97, 122, 8, rfl, f, il, fun p1 H1 s1 h1 => g2 (SqT.of h1) ?_⟩
  clear h1
  obtain ⟨r, e1, e2, e3, e4⟩ := runOf_spec 97 122 8 (L.drop i)
  unfold headR at out
  generalize runOf 97 122 8 (L.drop i) = n at e1 e2 e3 e4 out ⊢
  have en : L.drop (i + n.length) = r := by rw [← List.drop_drop, e1, List.drop_left]
  have er : (L.drop i).drop n.length = r := by rw [List.drop_drop]; exact en
  rw [er] at out
  have il2 : i + n.length ≤ L.length := by
    have := congrArg List.length e1
    rw [List.length_drop, List.length_append] at this
    omega
  refine ⟨_, rfl, _, rfl, .inl ⟨_, L.length, rfl, len_of f, .inl ⟨rfl, _, rfl, ?_⟩⟩⟩
  cases r with
  | nil => exact ifI (fun _ => out H1 s1) fun z => absurd (by have := (drop_nil_iff il2).mp en; omega) z
  | cons c u =>
    obtain ⟨lt, gc, du⟩ := drop_get en
    refine ifI (fun z => absurd z (by omega)) fun _ => ?_
    refine ⟨_, rfl, .inl ⟨rfl, _, rfl, ?_⟩⟩
    rw [emp_S]
    by_cases n0 : n = []
    · have out : ∀ H', Same H H' → E (.ref C.BadFrame) none H' := by
        have : headE mo sg n (c :: u) = .bad := by unfold headE; exact if_pos (.inl n0)
        rw [this] at out
        exact out
      exact iteT' (decide_eq_true n0) (iteT' rfl (out H1 s1))
    refine iteF' (decide_eq_false n0) ?_
    refine ⟨_, rfl, _, rfl, .inr (.inr ⟨S L, ((i + n.length : Nat) : Int), c, rfl, rfl, f.le, by rw [at_S lt, gc], .inl ⟨rfl, _, rfl, ?_⟩⟩)⟩
    have e44 : (V.str "," : V) = V.str (S [44]) := rfl
    rw [e44, one_S]
    by_cases c44 : c = 44
    · subst c44
      have out : Out (digR mo sg n u) L (∀ H', Same H H' → E (.ref C.BadFrame) none H') (∀ H', Same H H' → Q .non H') (fun x j => ∀ p H', Same H H' → H' p = some (.tup [.str (S x.1), .int x.2, .int j]) → Q (.ref p) H') := by
        have : headE mo sg n (44 :: u) = digR mo sg n u := by unfold headE; exact if_neg (by simp [n0])
        rw [this] at out
        exact out
      refine iteF' (by rw [decide_eq_true rfl]; rfl) ?_
      -- the digits
      have f39 : (TL.numL mo).length ≤ 39 := TL.numL_len (by decide) m39
      have hd : (Str.ofString (toString ((mo : Nat) : Int))).length = (TL.numL mo).length := by rw [← TL.tl_num mo]; exact Array.length_toList.symm
      have b39 : (10 : Nat) ^ 39 ≤ 10 ^ 100 := by decide
      have l100 : (Str.ofString (toString ((mo : Nat) : Int))).length ≤ 100 := by rw [hd]; omega
      refine ⟨_, rfl, _, rfl, .inl ⟨_, _, rfl, rfl, ?_⟩⟩
      refine ⟨_, rfl, _, rfl, of_decide_eq_true (small_log (by omega)), .inl ⟨_, _, rfl, ⟨Nat.le_of_lt (small1000 (Nat.le_trans l100 (by decide))), rfl⟩, L, i + n.length + 1, 48, 57, _, rfl, f, by omega, fun p2 H2 s2 h2 => g2 (SqT.of h2) ?_⟩⟩
      clear h2
      rw [hd, du]
      have s12 := s1.trans s2
      obtain ⟨q, d1, d2, d3, d4⟩ := runOf_spec 48 57 (TL.numL mo).length u
      unfold digR at out
      generalize runOf 48 57 (TL.numL mo).length u = D at d1 d2 d3 d4 out ⊢
      have eq : L.drop (i + n.length + 1 + D.length) = q := by rw [← List.drop_drop, du, d1, List.drop_left]
      have eq2 : u.drop D.length = q := by rw [d1, List.drop_left]
      rw [eq2] at out
      have jl : i + n.length + 1 + D.length ≤ L.length := by
        have := congrArg List.length d1
        rw [← du, List.length_drop, List.length_append] at this
        omega
      have intD : D ≠ [] → intText? (S D) = some ((NumText.digitsVal D : Nat) : Int) ∧ (S D).length ≤ 640 := fun ne => ⟨SX.int_S d2 ne (by omega), by rw [len_S]; omega⟩
      refine ⟨_, rfl, rfl, S D, S [48], rfl, rfl, _, rfl, ?_⟩
      rw [sw1_S]
      have bad : (D[0]? = some 48 ∨ mo < NumText.digitsVal D) → E (.ref C.BadFrame) none H2 := fun b => by
        have : digE mo sg n D q = .bad := by unfold digE; exact if_pos b
        rw [this] at out
        exact out H2 s12
      by_cases b0 : D[0]? = some 48
      · exact iteT' (decide_eq_true b0) (iteT' rfl (bad (.inl b0)))
      refine iteF' (decide_eq_false b0) ?_
      refine ⟨_, rfl, .inl ⟨rfl, _, rfl, ?_⟩⟩
      rw [emp_S]
      -- behind them
      have go : ¬ mo < NumText.digitsVal D → Out (digT sg n D q) L (∀ H', Same H H' → E (.ref C.BadFrame) none H') (∀ H', Same H H' → Q .non H') (fun x j => ∀ p H', Same H H' → H' p = some (.tup [.str (S x.1), .int x.2, .int j]) → Q (.ref p) H') := fun b => by
        have : digE mo sg n D q = digT sg n D q := by unfold digE; exact if_neg (by simp [b0]; omega)
        rw [this] at out
        exact out
      by_cases D0 : D = []
      · subst D0
        have go := go (by rw [val_nil]; omega)
        refine iteF' rfl (iteF' rfl ?_)
        refine ⟨_, rfl, _, rfl, .inl ⟨_, L.length, rfl, len_of f, .inl ⟨rfl, _, rfl, ?_⟩⟩⟩
        cases q with
        | nil => exact ifI (fun _ => go H2 s12) fun z => absurd (by have := (drop_nil_iff jl).mp eq; omega) z
        | cons c t =>
          obtain ⟨lt2, gc2, dt⟩ := drop_get eq
          refine ifI (fun z => absurd z (by omega)) fun _ => ?_
          refine ⟨_, rfl, .inl ⟨rfl, _, rfl, iteT' rfl ?_⟩⟩
          have : digT sg n [] (c :: t) = .bad := by unfold digT; exact if_pos (.inl rfl)
          rw [this] at go
          exact iteT' rfl (go H2 s12)
      · obtain ⟨i1, i2⟩ := intD D0
        refine iteT' (by rw [decide_eq_false D0]; rfl) ?_
        refine ⟨_, rfl, .inr ⟨S D, _, rfl, i1, i2, _, rfl, _, _, rfl, rfl, _, rfl, ?_⟩⟩
        by_cases big : mo < NumText.digitsVal D
        · exact iteT' (decide_eq_true (by omega)) (bad (.inr big))
        have go := go big
        refine iteF' (decide_eq_false (by omega)) ?_
        refine ⟨_, rfl, _, rfl, .inl ⟨_, L.length, rfl, len_of f, .inl ⟨rfl, _, rfl, ?_⟩⟩⟩
        cases q with
        | nil => exact ifI (fun _ => go H2 s12) fun z => absurd (by have := (drop_nil_iff jl).mp eq; omega) z
        | cons c t =>
          obtain ⟨lt2, gc2, dt⟩ := drop_get eq
          refine ifI (fun z => absurd z (by omega)) fun _ => ?_
          refine ⟨_, rfl, .inl ⟨rfl, _, rfl, ?_⟩⟩
          rw [emp_S]
          refine iteF' (decide_eq_false D0) ?_
          refine ⟨_, rfl, _, rfl, .inr (.inr ⟨S L, ((i + n.length + 1 + D.length : Nat) : Int), c, rfl, rfl, f.le, by rw [at_S lt2, gc2], ?_⟩)⟩
          refine ⟨_, rfl, .inl ⟨rfl, _, rfl, ?_⟩⟩
          rw [one_S]
          by_cases cs : c = sg
          · have : digT sg n D (c :: t) = .got (n, NumText.digitsVal D) t := if_neg (by simp [D0, cs])
            rw [this] at go
            refine iteF' (by rw [decide_eq_true cs]; rfl) ?_
            refine ⟨_, rfl, _, rfl, .inr ⟨S D, _, rfl, i1, i2, _, rfl, .inl ⟨_, _, rfl, rfl, two_fit.2.2.1, fun p hp => go (i + n.length + 1 + D.length + 1) (by omega) dt p _ (s12.trans (same_new hp)) ?_⟩⟩⟩
            rw [upd_same]
            rfl
          · have : digT sg n D (c :: t) = .bad := if_pos (.inr cs)
            rw [this] at go
            exact iteT' (by rw [decide_eq_false cs]; rfl) (go H2 s12)
    · have out : ∀ H', Same H H' → E (.ref C.BadFrame) none H' := by
        have : headE mo sg n (c :: u) = .bad := by unfold headE; exact if_pos (.inr c44)
        rw [this] at out
        exact out
      exact iteT' (by rw [decide_eq_false c44]; rfl) (out H1 s1)
def sp_is_let41 (K : PySem.W.Frag) : Sp := fun vs H Q _ => ∃ x : List Nat, vs = [.str (S x)] ∧ x ≠ [] ∧ x.length ≤ 1000 ∧ ∀ H', Same H H' → Q (.bl (x.all good)) H'
def t_is_let41 (K : PySem.W.Frag) : TS :=
  (tSeq (tIfS (tOr (tNot (tB (tCB (rIsi K) (tCons (tVar 0) (tCons (tC (.ty "str")) tNil))))) (tTest (tOp (rEqU K) (tCB (rLenU K) (tCons (tVar 0) tNil)) (tC (.int 0))))) (tRet (tC (.bl false))) tNext)
    (tRet (tCB (rAll K) (tCons (tLc (iStr (tVar 0)) (gName 1) tYes (tAndV (tChain (rLeU) (rLeU) (tC (.int 32)) (tCB (rOrd) (tCons (tVar 1) tNil)) (tC (.int 126))) (tOp (rNeU K) (tCB (rOrd) (tCons (tVar 1) tNil)) (tC (.int 37)))) [1]) tNil))))
theorem ln_is_let41 (h : sp_is_let41 K vs H Q E) : vs.length = 1 := by obtain ⟨_, rfl, _⟩ := h; rfl
theorem good_dec (c : Nat) : good c = (decide (32 ≤ c) && decide (c ≤ 126) && decide (c ≠ 37)) := rfl
theorem rd_is_let41 (h : sp_is_let41 K vs H Q E) : t_is_let41 K (EndsOf Q) (start ["", ""] vs) H := by
  obtain ⟨x, rfl, ne, lx, k⟩ := h
  have pos := List.length_pos_iff.mpr ne
  have fit : (S x).length ≤ sizeLine := by rw [len_S]; exact Nat.le_of_lt (small1000 lx)
  refine ⟨_, rfl, _, _, _, _, true, rfl, .ty _, .base (.str _), kit_same, true, rfl, iteF' rfl ?_⟩
  refine ⟨_, rfl, .inl ⟨_, x.length, rfl, ⟨fit, (len_S x).symm⟩, .inl ⟨rfl, _, rfl, ?_⟩⟩⟩
  refine ifI (fun z => absurd z (by omega)) fun _ => ?_
  refine ⟨_, rfl, S x, rfl, fun D hD => ?_⟩
  refine lc_str (fun i G => Same H G ∧ G D = some (.lst (((x.take i).map good).map V.bl))) ⟨same_new hD, upd_same⟩ ?_ ?_
  · rintro i c G hc ⟨s, hz⟩
    refine ⟨rfl, ?_⟩
    obtain ⟨lt, ec⟩ := List.getElem?_eq_some_iff.mp hc
    have lt' : i < x.length := lt
    have ec' : x[i] = c := ec
    have e : (⟨#[c]⟩ : Str).cps.getD 0 0 = c := rfl
    have done : ∀ b : Bool, b = good c → ∃ acc, G D = some (.lst acc) ∧ acc.length < sizeLine ∧ Same H (upd G D (.lst (acc ++ [V.bl b]))) ∧ (upd G D (.lst (acc ++ [V.bl b]))) D = some (.lst (((x.take (i + 1)).map good).map V.bl)) := fun b hb => by
      refine ⟨_, hz, small1000 ?_, fun a o q => ?_, ?_⟩
      · rw [List.length_map, List.length_map, List.length_take]
        omega
      · rw [upd_ne (ne_of_none q hD)]
        exact s a o q
      · rw [upd_same, List.take_succ_eq_append_getElem lt', List.map_append, List.map_append, hb, ec']
        rfl
    refine ⟨_, rfl, _, rfl, rfl, .inl ⟨_, _, rfl, rfl, _, rfl, ?_⟩⟩
    rw [e]
    by_cases c1 : 32 ≤ c
    · refine iteT' (decide_eq_true (by omega)) (.inl ⟨_, _, rfl, rfl, ?_⟩)
      refine ⟨decide (c ≤ 126), by show V.bl (decide ((c : Int) ≤ 126)) = _; rw [show decide ((c : Int) ≤ 126) = decide (c ≤ 126) by rw [decide_eq_decide]; omega], ?_⟩
      by_cases c2 : c ≤ 126
      · refine iteT' (decide_eq_true c2) ⟨_, rfl, _, rfl, rfl, .inl ⟨rfl, ?_⟩⟩
        rw [e]
        refine done _ ?_
        have n37 : (!decide (V.int (c : Nat) = V.int 37)) = decide (c ≠ 37) := by
          by_cases z : c = 37
          · subst z
            rfl
          · rw [decide_eq_true z, decide_eq_false fun y => z (by have := V.int.inj y; omega)]
            rfl
        rw [n37, good_dec, decide_eq_true c1, decide_eq_true c2]
        rfl
      · refine iteF' (decide_eq_false c2) (done _ ?_)
        rw [good_dec, decide_eq_false c2, Bool.and_false, Bool.false_and]
    · refine iteF' (decide_eq_false (by omega)) ⟨false, rfl, iteF' rfl (done _ ?_)⟩
      rw [good_dec, decide_eq_false c1]
      rfl
  · rintro G ⟨s, hz⟩
    have e : (S x).cps.toList.length = x.length := rfl
    rw [e, List.take_length] at hz
    refine ⟨D, x.map good, rfl, SqL.of hz, ?_⟩
    have e2 : (x.map good).all id = x.all good := by rw [List.all_map]; rfl
    rw [e2]
    exact k G s
def sp_body_atX (K : PySem.W.Frag) (C : Cs) : Sp := fun vs H Q E => ∃ (L : List Nat) (i many : Nat), vs = [.str (S L), .int i, .int many] ∧ Fits L ∧ i ≤ L.length ∧ many ≤ 1000 ∧
  Out (bodyR many (L.drop i)) L (∀ H', Same H H' → E (.ref C.BadFrame) none H') (∀ H', Same H H' → Q .non H') (fun y j => ∀ p H', Same H H' → H' p = some (.tup [.str (S y.1), .bl y.2.1, .bl y.2.2, .int j]) → Q (.ref p) H')
def t_body_atX (K : PySem.W.Frag) (C : Cs) (E : XK) : TS :=
  (tSeq (tAsg (tBM K "str" PkC.rSw3 (tVar 0) (tCons (tC (.str "w")) (tCons (tVar 1) tNil))) (gName 3))
    (tSeq (tAsg (tIf (tB (tVar 3)) (tOp (rAddU K) (tVar 1) (tC (.int 1))) (tVar 1)) (gName 1))
    (tSeq (tAsg (tBM K "str" PkC.rSw3 (tVar 0) (tCons (tC (.str "e")) (tCons (tVar 1) tNil))) (gName 4))
    (tSeq (tAsg (tIf (tB (tVar 4)) (tOp (rAddU K) (tVar 1) (tC (.int 1))) (tVar 1)) (gName 1))
    (tSeq (tIfS (tTest (tOp (rEqU K) (tVar 1) (tCB (rLenU K) (tCons (tVar 0) tNil)))) (tRet (tC .non)) tNext)
    (tSeq (tIfS (tTest (tOp (rNeU K) (tOp (rIx K) (tVar 0) (tVar 1)) (tC (.str ":")))) (tRaise0 C.BadFrame E) tNext)
    (tSeq (tAsg (tSl (L2.rSlS) (tVar 0) (tPart (tOp (rAddU K) (tVar 1) (tC (.int 1)))) (tPart (tOp (rAddU K) (tOp (rAddU K) (tVar 1) (tC (.int 1))) (tVar 2)))) (gName 5))
    (tSeq (tAsg (tOp (rAddU K) (tOp (rAddU K) (tVar 1) (tC (.int 1))) (tVar 2)) (gName 1))
    (tSeq (tIfS (tAnd (tTest (tOp (rNeU K) (tVar 5) (tC (.str "")))) (tNot (tB (tCall (sp_is_let41 K) [] E0 (tCons (tVar 5) tNil))))) (tRaise0 C.BadFrame E) tNext)
    (tSeq (tIfS (tTest (tOp (rGeI) (tVar 1) (tCB (rLenU K) (tCons (tVar 0) tNil)))) (tRet (tC .non)) tNext)
    (tSeq (tIfS (tTest (tOp (rNeU K) (tOp (rIx K) (tVar 0) (tVar 1)) (tC (.str ";")))) (tRaise0 C.BadFrame E) tNext)
    (tRet (tTup (tCons (tVar 5) (tCons (tVar 3) (tCons (tVar 4) (tCons (tOp (rAddU K) (tVar 1) (tC (.int 1))) tNil)))))))))))))))))
theorem ln_body_atX (h : sp_body_atX K C vs H Q E) : vs.length = 3 := by obtain ⟨_, _, _, rfl, _⟩ := h; rfl
def body_restX (K : PySem.W.Frag) (C : Cs) (E : XK) : TS :=
  (tSeq (tIfS (tTest (tOp (rEqU K) (tVar 1) (tCB (rLenU K) (tCons (tVar 0) tNil)))) (tRet (tC .non)) tNext)
    (tSeq (tIfS (tTest (tOp (rNeU K) (tOp (rIx K) (tVar 0) (tVar 1)) (tC (.str ":")))) (tRaise0 C.BadFrame E) tNext)
    (tSeq (tAsg (tSl (L2.rSlS) (tVar 0) (tPart (tOp (rAddU K) (tVar 1) (tC (.int 1)))) (tPart (tOp (rAddU K) (tOp (rAddU K) (tVar 1) (tC (.int 1))) (tVar 2)))) (gName 5))
    (tSeq (tAsg (tOp (rAddU K) (tOp (rAddU K) (tVar 1) (tC (.int 1))) (tVar 2)) (gName 1))
    (tSeq (tIfS (tAnd (tTest (tOp (rNeU K) (tVar 5) (tC (.str "")))) (tNot (tB (tCall (sp_is_let41 K) [] E0 (tCons (tVar 5) tNil))))) (tRaise0 C.BadFrame E) tNext)
    (tSeq (tIfS (tTest (tOp (rGeI) (tVar 1) (tCB (rLenU K) (tCons (tVar 0) tNil)))) (tRet (tC .non)) tNext)
    (tSeq (tIfS (tTest (tOp (rNeU K) (tOp (rIx K) (tVar 0) (tVar 1)) (tC (.str ";")))) (tRaise0 C.BadFrame E) tNext)
    (tRet (tTup (tCons (tVar 5) (tCons (tVar 3) (tCons (tVar 4) (tCons (tOp (rAddU K) (tVar 1) (tC (.int 1))) tNil)))))))))))))
def body_lastX (K : PySem.W.Frag) (C : Cs) (E : XK) : TS :=
  (tSeq (tIfS (tTest (tOp (rGeI) (tVar 1) (tCB (rLenU K) (tCons (tVar 0) tNil)))) (tRet (tC .non)) tNext)
    (tSeq (tIfS (tTest (tOp (rNeU K) (tOp (rIx K) (tVar 0) (tVar 1)) (tC (.str ";")))) (tRaise0 C.BadFrame E) tNext)
    (tRet (tTup (tCons (tVar 5) (tCons (tVar 3) (tCons (tVar 4) (tCons (tOp (rAddU K) (tVar 1) (tC (.int 1))) tNil))))))))
theorem rd_body_restX {i many : Nat} {w e : Bool} {a5 : Option V} (f : Fits L) (il : i ≤ L.length) (ml : many ≤ 1000)
    (out : Out (bodyE many w e (L.drop i)) L (∀ H', Same H H' → E (.ref C.BadFrame) none H') (∀ H', Same H H' → Q .non H') (fun y j => ∀ p H', Same H H' → H' p = some (.tup [.str (S y.1), .bl y.2.1, .bl y.2.2, .int j]) → Q (.ref p) H')) :
    body_restX K C E (EndsOf Q) [some (.str (S L)), some (.int (i : Nat)), some (.int many), some (.bl w), some (.bl e), a5] H := by
  refine ⟨_, rfl, _, rfl, .inl ⟨_, L.length, rfl, len_of f, .inl ⟨rfl, _, rfl, ?_⟩⟩⟩
  cases hs : L.drop i with
  | nil =>
    rw [hs] at out
    exact ifI (fun _ => out H (Same.refl H)) fun z => absurd (by have := (drop_nil_iff il).mp hs; omega) z
  | cons c t =>
    rw [hs] at out
    obtain ⟨lt, gc, dt⟩ := drop_get hs
    refine ifI (fun z => absurd z (by omega)) fun _ => ?_
    refine ⟨_, rfl, _, rfl, .inr (.inr ⟨S L, (i : Int), c, rfl, rfl, f.le, by rw [at_S lt, gc], .inl ⟨rfl, _, rfl, ?_⟩⟩)⟩
    have e58 : (V.str ":" : V) = V.str (S [58]) := rfl
    rw [e58, one_S]
    by_cases c58 : c = 58
    · subst c58
      have out : Out (if (t.take many).all good = false then Rd.bad else tailE (t.take many) w e (t.drop many)) L (∀ H', Same H H' → E (.ref C.BadFrame) none H') (∀ H', Same H H' → Q .non H') (fun y j => ∀ p H', Same H H' → H' p = some (.tup [.str (S y.1), .bl y.2.1, .bl y.2.2, .int j]) → Q (.ref p) H') := by
        have : bodyE many w e (58 :: t) = (if (t.take many).all good = false then Rd.bad else tailE (t.take many) w e (t.drop many)) := by unfold bodyE; exact if_neg (by simp)
        rw [this] at out
        exact out
      refine iteF' (by rw [decide_eq_true rfl]; rfl) ?_
      refine ⟨_, rfl, _, rfl, .inl ⟨_, _, rfl, rfl, _, rfl, _, rfl, .inl ⟨_, _, rfl, rfl, _, rfl, .inl ⟨_, _, rfl, rfl, _, rfl, S L, rfl, f.le, ?_⟩⟩⟩⟩
      have ec : cutS (S L) (some ((i : Int) + 1)) (some ((i : Int) + 1 + (many : Int))) = S (t.take many) := by
        have := cut_S2 (l := L) (i := i + 1) (j := i + 1 + many) (by omega) lt
        rw [dt, Nat.add_sub_cancel_left] at this
        exact this
      dsimp only [gName]
      rw [ec]
      refine ⟨_, rfl, .inl ⟨_, _, rfl, rfl, _, rfl, .inl ⟨_, _, rfl, rfl, ?_⟩⟩⟩
      have ed : L.drop (i + 1 + many) = t.drop many := by rw [← List.drop_drop, dt]
      have last : (t.take many).all good = true → ∀ H1, Same H H1 → body_lastX K C E (EndsOf Q) [some (.str (S L)), some (.int ((i : Int) + 1 + (many : Nat))), some (.int many), some (.bl w), some (.bl e), some (.str (S (t.take many)))] H1 := by
        intro g H1 s1
        rw [if_neg (by rw [g]; decide)] at out
        refine ⟨_, rfl, _, rfl, .inl ⟨_, L.length, rfl, len_of f, _, _, rfl, rfl, _, rfl, ?_⟩⟩
        cases hq : t.drop many with
        | nil =>
          rw [hq] at out ed
          have := List.drop_eq_nil_iff.mp ed
          exact ifD (fun _ => out H1 s1) fun z => absurd (show (L.length : Int) ≤ (i : Int) + 1 + (many : Nat) by omega) z
        | cons c u =>
          rw [hq] at out ed
          obtain ⟨lt2, gc2, du⟩ := drop_get ed
          refine ifD (fun z => absurd z (by omega)) fun _ => ?_
          refine ⟨_, rfl, _, rfl, .inr (.inr ⟨S L, ((i + 1 + many : Nat) : Int), c, rfl, rfl, f.le, by rw [at_S lt2, gc2], .inl ⟨rfl, _, rfl, ?_⟩⟩)⟩
          have e59 : (V.str ";" : V) = V.str (S [59]) := rfl
          rw [e59, one_S]
          by_cases c59 : c = 59
          · have : tailE (t.take many) w e (c :: u) = .got (t.take many, w, e) u := by unfold tailE; exact if_neg (by simp [c59])
            rw [this] at out
            refine iteF' (by rw [decide_eq_true c59]; rfl) ?_
            refine ⟨_, rfl, _, rfl, _, rfl, _, rfl, .inl ⟨_, _, rfl, rfl, Nat.le_of_lt (small1000 (show 4 ≤ 1000 by decide)), fun p hp => out (i + 1 + many + 1) (by omega) du p _ (s1.trans (same_new hp)) ?_⟩⟩
            rw [upd_same]
            rfl
          · have : tailE (t.take many) w e (c :: u) = .bad := by unfold tailE; exact if_pos c59
            rw [this] at out
            exact iteT' (by rw [decide_eq_false c59]; rfl) (out H1 s1)
      by_cases x0 : t.take many = []
      · have g0 : (t.take many).all good = true := by rw [x0]; rfl
        have last := last g0
        refine ⟨_, rfl, .inl ⟨rfl, _, rfl, ?_⟩⟩
        rw [x0] at last ⊢
        exact iteF' rfl (iteF' rfl (last H (Same.refl H)))
      · refine ⟨_, rfl, .inl ⟨rfl, _, rfl, iteT' (by rw [emp_S, decide_eq_false x0]; rfl) ?_⟩⟩
        refine ⟨_, rfl, t.take many, rfl, x0, by rw [List.length_take]; omega, fun H1 s1 => ⟨_, rfl, ?_⟩⟩
        cases g : (t.take many).all good with
        | true => exact iteF' rfl (last g H1 s1)
        | false =>
          rw [if_pos g] at out
          exact iteT' rfl (out H1 s1)
    · have : bodyE many w e (c :: t) = .bad := by unfold bodyE; exact if_pos c58
      rw [this] at out
      exact iteT' (by rw [decide_eq_false c58]; rfl) (out H (Same.refl H))
theorem skip_drop {i c : Nat} {b : Bool} (hb : decide (L[i]? = some c) = b) (il : i ≤ L.length) : L.drop (i + (if b = true then 1 else 0)) = skip c (L.drop i) ∧ i + (if b = true then 1 else 0) ≤ L.length := by
  unfold skip
  rw [get_drop]
  cases b with
  | true =>
    have z := of_decide_eq_true hb
    have := (List.getElem?_eq_some_iff.mp z).1
    rw [if_pos rfl, if_pos z, List.drop_drop]
    exact ⟨rfl, by omega⟩
  | false =>
    rw [if_neg (by decide), if_neg (of_decide_eq_false hb)]
    exact ⟨rfl, il⟩
theorem rd_body_atX (h : sp_body_atX K C vs H Q E) : t_body_atX K C E (EndsOf Q) (start ["", "", "", "", "", ""] vs) H := by
  obtain ⟨L, i, many, rfl, f, il, ml, out⟩ := h
  unfold bodyR at out
  rw [get_drop] at out
  refine mark (j := 3) (c := 119) (b := decide (L[i]? = some 119)) rfl rfl rfl (by decide) (by show 3 < 6; decide) (by show 1 < 6; decide) rfl ?_
  obtain ⟨ed, il1⟩ := skip_drop (b := decide (L[i]? = some 119)) rfl il
  generalize decide (L[i]? = some 119) = w at out ed il1 ⊢
  rw [← ed, get_drop] at out
  generalize i + (if w = true then 1 else 0) = i1 at out ed il1 ⊢
  refine mark (j := 4) (c := 101) (b := decide (L[i1]? = some 101)) rfl rfl rfl (by decide) (by show 4 < 6; decide) (by show 1 < 6; decide) rfl ?_
  obtain ⟨ed2, il2⟩ := skip_drop (b := decide (L[i1]? = some 101)) rfl il1
  generalize decide (L[i1]? = some 101) = e at out ed2 il2 ⊢
  rw [← ed2] at out
  exact rd_body_restX f il2 ml out
def sp_back_atX (K : PySem.W.Frag) (C : Cs) : Sp := fun vs H Q E => ∃ (L : List Nat) (i : Nat), vs = [.str (S L), .int i] ∧ Fits L ∧ i ≤ L.length ∧ Out (backR (L.drop i)) L (∀ H', Same H H' → E (.ref C.BadFrame) none H') (∀ H', Same H H' → Q .non H') (fun g j => Got H g j Q)
def sp_data_atX (K : PySem.W.Frag) (C : Cs) : Sp := fun vs H Q E => ∃ (L : List Nat) (i : Nat), vs = [.str (S L), .int i] ∧ Fits L ∧ i ≤ L.length ∧ Out (dataR (L.drop i)) L (∀ H', Same H H' → E (.ref C.BadFrame) none H') (∀ H', Same H H' → Q .non H') (fun g j => Got H g j Q)
def sp_frame_atX (K : PySem.W.Frag) (C : Cs) : Sp := fun vs H Q E => ∃ (L : List Nat) (i : Nat), vs = [.str (S L), .int i] ∧ Fits L ∧ i < L.length ∧ Out (frameR (L.drop i)) L (∀ H', Same H H' → E (.ref C.BadFrame) none H') (∀ H', Same H H' → Q .non H') (fun g j => Got H g j Q)
def t_back_atX (K : PySem.W.Frag) (C : Cs) (E : XK) : TS :=
  (tSeq (tAsg (tCall (sp_head_atX K C) [] E (tCons (tVar 0) (tCons (tVar 1) (tCons (tC (.int 999999999999999999999999999999999999999)) (tCons (tC (.str ";")) tNil))))) (gName 2))
    (tSeq (tIfS (tTest (tOp (rIsNn) (tVar 2) (tC .non))) (tRet (tC .non)) tNext)
    (tSeq (tAsg (tVar 2) (gTup K 3 (gCons (gName 3) (gCons (gName 4) (gCons (gName 1) gNil)))))
    (tRet (tTup (tCons (tTup (tCons (tC (.str "back")) (tCons (tVar 3) (tCons (tVar 4) tNil)))) (tCons (tVar 1) tNil)))))))
def t_data_atX (K : PySem.W.Frag) (C : Cs) (E : XK) : TS :=
  (tSeq (tAsg (tCall (sp_head_atX K C) [] E (tCons (tVar 0) (tCons (tVar 1) (tCons (tC (.int 200)) (tCons (tC (.str ",")) tNil))))) (gName 2))
    (tSeq (tIfS (tTest (tOp (rIsNn) (tVar 2) (tC .non))) (tRet (tC .non)) tNext)
    (tSeq (tAsg (tVar 2) (gTup K 3 (gCons (gName 3) (gCons (gName 4) (gCons (gName 1) gNil)))))
    (tSeq (tAsg (tCall (sp_body_atX K C) [] E (tCons (tVar 0) (tCons (tVar 1) (tCons (tVar 4) tNil)))) (gName 5))
    (tSeq (tIfS (tTest (tOp (rIsNn) (tVar 5) (tC .non))) (tRet (tC .non)) tNext)
    (tSeq (tAsg (tVar 5) (gTup K 4 (gCons (gName 6) (gCons (gName 7) (gCons (gName 8) (gCons (gName 1) gNil))))))
    (tRet (tTup (tCons (tTup (tCons (tC (.str "data")) (tCons (tVar 3) (tCons (tVar 6) (tCons (tVar 7) (tCons (tVar 8) tNil)))))) (tCons (tVar 1) tNil))))))))))
def t_frame_atX (K : PySem.W.Frag) (C : Cs) (E : XK) : TS :=
  (tSeq (tIfS (tTest (tOp (rEqU K) (tOp (rIx K) (tVar 0) (tVar 1)) (tC (.str "d")))) (tRet (tCall (sp_data_atX K C) [] E (tCons (tVar 0) (tCons (tOp (rAddU K) (tVar 1) (tC (.int 1))) tNil)))) tNext)
    (tSeq (tIfS (tTest (tOp (rEqU K) (tOp (rIx K) (tVar 0) (tVar 1)) (tC (.str "b")))) (tRet (tCall (sp_back_atX K C) [] E (tCons (tVar 0) (tCons (tOp (rAddU K) (tVar 1) (tC (.int 1))) tNil)))) tNext)
    (tRaise0 C.BadFrame E)))
theorem ln_back_atX (h : sp_back_atX K C vs H Q E) : vs.length = 2 := by obtain ⟨_, _, rfl, _⟩ := h; rfl
theorem ln_data_atX (h : sp_data_atX K C vs H Q E) : vs.length = 2 := by obtain ⟨_, _, rfl, _⟩ := h; rfl
theorem ln_frame_atX (h : sp_frame_atX K C vs H Q E) : vs.length = 2 := by obtain ⟨_, _, rfl, _⟩ := h; rfl
theorem rd_back_atX (h : sp_back_atX K C vs H Q E) : t_back_atX K C E (EndsOf Q) (start ["", "", "", "", ""] vs) H := by
  obtain ⟨L, i, rfl, f, il, out⟩ := h
  unfold backR at out
  refine ⟨_, rfl, _, rfl, L, i, 10 ^ 39 - 1, 59, rfl, f, il, by decide, ?_⟩
  cases hh : headR (10 ^ 39 - 1) 59 (L.drop i) with
  | bad =>
    rw [hh] at out
    exact out
  | part =>
    rw [hh] at out
    exact fun H1 s1 => ⟨_, rfl, rfl, _, rfl, iteT' rfl (out H1 s1)⟩
  | got x t =>
    rw [hh] at out
    intro j jl ej p H1 s1 h1
    have got : Got H (.back x.1 x.2) j Q := out j jl ej
    refine ⟨_, rfl, rfl, _, rfl, iteF' rfl ?_⟩
    refine ⟨_, rfl, g3 (SqT.of h1) ?_⟩
    refine ⟨_, rfl, _, rfl, two_fit.2.2.1, fun q hq => ⟨_, rfl, two_fit.2.1, fun p2 hp2 => ?_⟩⟩
    exact got p2 q _ ((s1.trans (same_new hq)).trans (same_new hp2)) (same_new hp2 _ _ upd_same) upd_same
theorem rd_data_atX (h : sp_data_atX K C vs H Q E) : t_data_atX K C E (EndsOf Q) (start ["", "", "", "", "", "", "", "", ""] vs) H := by
  obtain ⟨L, i, rfl, f, il, out⟩ := h
  unfold dataR at out
  refine ⟨_, rfl, _, rfl, L, i, 200, 44, rfl, f, il, by decide, ?_⟩
  cases hh : headR 200 44 (L.drop i) with
  | bad =>
    rw [hh] at out
    exact out
  | part =>
    rw [hh] at out
    exact fun H1 s1 => ⟨_, rfl, rfl, _, rfl, iteT' rfl (out H1 s1)⟩
  | got x t =>
    rw [hh] at out
    have out : Out ((bodyR x.2 t).bind fun y u => .got (.data x.1 y.1 y.2.1 y.2.2) u) L (∀ H', Same H H' → E (.ref C.BadFrame) none H') (∀ H', Same H H' → Q .non H') (fun g j => Got H g j Q) := out
    intro j jl ej p H1 s1 h1
    refine ⟨_, rfl, rfl, _, rfl, iteF' rfl ?_⟩
    refine ⟨_, rfl, g3 (SqT.of h1) ?_⟩
    refine ⟨_, rfl, _, rfl, _, rfl, L, j, x.2, rfl, f, jl, by have := (head_got hh).2.2.1; omega, ?_⟩
    rw [ej]
    cases hb : bodyR x.2 t with
    | bad =>
      rw [hb] at out
      exact fun H2 s2 => out H2 (s1.trans s2)
    | part =>
      rw [hb] at out
      exact fun H2 s2 => ⟨_, rfl, rfl, _, rfl, iteT' rfl (out H2 (s1.trans s2))⟩
    | got y u =>
      rw [hb] at out
      intro k kl ek p2 H2 s2 h2
      have got : Got H (.data x.1 y.1 y.2.1 y.2.2) k Q := out k kl ek
      refine ⟨_, rfl, rfl, _, rfl, iteF' rfl ?_⟩
      refine ⟨_, rfl, g4 (SqT.of h2) ?_⟩
      refine ⟨_, rfl, _, rfl, _, rfl, _, rfl, Nat.le_of_lt (small1000 (show 5 ≤ 1000 by decide)), fun q hq => ⟨_, rfl, two_fit.2.1, fun p3 hp3 => ?_⟩⟩
      exact got p3 q _ (((s1.trans s2).trans (same_new hq)).trans (same_new hp3)) (same_new hp3 _ _ upd_same) upd_same
theorem rd_frame_atX (h : sp_frame_atX K C vs H Q E) : t_frame_atX K C E (EndsOf Q) (start ["", ""] vs) H := by
  obtain ⟨L, i, rfl, f, il, out⟩ := h
  rw [List.drop_eq_getElem_cons il] at out
  have out : Out (if L[i] = 100 then dataR (L.drop (i + 1)) else if L[i] = 98 then backR (L.drop (i + 1)) else Rd.bad) L (∀ H', Same H H' → E (.ref C.BadFrame) none H') (∀ H', Same H H' → Q .non H') (fun g j => Got H g j Q) := out
  have ed : (V.str "d" : V) = V.str (S [100]) := rfl
  have eb : (V.str "b" : V) = V.str (S [98]) := rfl
  refine ⟨_, rfl, _, rfl, .inr (.inr ⟨S L, (i : Int), L[i], rfl, rfl, f.le, at_S il, .inl ⟨rfl, _, rfl, ?_⟩⟩)⟩
  rw [ed, one_S]
  by_cases c1 : L[i] = 100
  · rw [if_pos c1] at out
    refine iteT' (decide_eq_true c1) ?_
    exact ⟨_, rfl, _, rfl, .inl ⟨_, _, rfl, rfl, L, i + 1, rfl, f, il, out⟩⟩
  rw [if_neg c1] at out
  refine iteF' (decide_eq_false c1) ?_
  refine ⟨_, rfl, _, rfl, .inr (.inr ⟨S L, (i : Int), L[i], rfl, rfl, f.le, at_S il, .inl ⟨rfl, _, rfl, ?_⟩⟩)⟩
  rw [eb, one_S]
  by_cases c2 : L[i] = 98
  · rw [if_pos c2] at out
    refine iteT' (decide_eq_true c2) ?_
    exact ⟨_, rfl, _, rfl, .inl ⟨_, _, rfl, rfl, L, i + 1, rfl, f, il, out⟩⟩
  rw [if_neg c2] at out
  exact iteF' (decide_eq_false c2) (out H (Same.refl H))
/-- what comes of a whole text -/
def OutR (r : Option (List Fr × List Nat)) (bad : Prop) (got : List Fr → List Nat → Prop) : Prop := match r with
  | none => bad
  | some (fs, t) => got fs t
def GotR (H : Hp) (Q : VK) (fs : List Fr) (t : List Nat) : Prop := ∀ p q as H', Same H H' → H' p = some (.tup [.ref q, .str (S t)]) → H' q = some (.lst (as.map V.ref)) → FrsO H' as fs → Q (.ref p) H'
def sp_read_framesX (K : PySem.W.Frag) (C : Cs) : Sp := fun vs H Q E => (∃ L : List Nat, vs = [.str (S L)] ∧ Fits L ∧ OutR (readR (L.length + 1) L) (∀ H', Same H H' → E (.ref C.BadFrame) none H') (GotR H Q)) ∨
  ∃ v t, vs = [v] ∧ TyX K H v t ∧ PySem.W.kitOne K t (.type "str") = some false ∧ E (.ref C.BadFrame) none H
def t_read_framesX (K : PySem.W.Frag) (C : Cs) (E : XK) : TS :=
  (tSeq (tIfS (tNot (tB (tCB (rIsi K) (tCons (tVar 0) (tCons (tC (.ty "str")) tNil))))) (tRaise0 C.BadFrame E) tNext)
    (tSeq (tAsg (tLst tNil) (gName 1))
    (tSeq (tAsg (tC (.int 0)) (gName 2))
    (tSeq (tWhile (tTest (tOp (rLtI) (tVar 2) (tCB (rLenU K) (tCons (tVar 0) tNil)))) (tSeq (tAsg (tCall (sp_frame_atX K C) [] E (tCons (tVar 0) (tCons (tVar 2) tNil))) (gName 3))
    (tSeq (tIfS (tTest (tOp (rIsNn) (tVar 3) (tC .non))) (tRet (tTup (tCons (tVar 1) (tCons (tSl (L2.rSlS) (tVar 0) (tPart (tVar 2)) tNoPart) tNil)))) tNext)
    (tSeq (tAsg (tVar 3) (gTup K 2 (gCons (gName 4) (gCons (gName 2) gNil))))
    (tDrop (tBM K "list" rAppend (tVar 1) (tCons (tVar 4) tNil)))))))
    (tRet (tTup (tCons (tVar 1) (tCons (tC (.str "")) tNil))))))))
theorem ln_read_framesX (h : sp_read_framesX K C vs H Q E) : vs.length = 1 := by
  rcases h with ⟨_, rfl, _⟩ | ⟨_, _, rfl, _⟩ <;> rfl
theorem rd_read_framesX (h : sp_read_framesX K C vs H Q E) : t_read_framesX K C E (EndsOf Q) (start ["", "", "", "", ""] vs) H := by
  rcases h with ⟨L, rfl, f, out⟩ | ⟨v, t, rfl, ty, kt, out⟩
  rotate_left
  · exact ⟨_, rfl, _, _, _, _, false, rfl, .ty _, ty, kt, false, rfl, iteT' rfl out⟩
  refine ⟨_, rfl, _, _, _, _, true, rfl, .ty _, .base (.str _), kit_same, true, rfl, iteF' rfl ?_⟩
  refine ⟨Nat.zero_le _, fun q hq => ?_⟩
  refine ⟨fun m σ G => ∃ (done : List Fr) (as : List Addr) (s3 s4 : Option V) (j n : Nat), m = L.length - j ∧ j ≤ L.length ∧ L.length - j < n ∧ done.length ≤ j ∧ σ = [some (.str (S L)), some (.ref q), some (.int j), s3, s4] ∧ Same H G ∧ G q = some (.lst (as.map V.ref)) ∧ FrsO G as done ∧
    readR (L.length + 1) L = (readR n (L.drop j)).map fun x => (done ++ x.1, x.2), ⟨_, [], [], none, none, 0, L.length + 1, rfl, Nat.zero_le _, by omega, Nat.le_refl _, rfl, same_new hq, upd_same, ⟨rfl, fun j a f e => nomatch e⟩, ?_⟩, ?_⟩
  · rw [List.drop_zero]
    cases readR (L.length + 1) L <;> rfl
  rintro m σ G ⟨done, as, s3, s4, j, n, rfl, jl, jn, dj, rfl, s, hG, fo, er⟩
  refine ⟨_, rfl, _, rfl, .inl ⟨_, L.length, rfl, len_of f, _, _, rfl, rfl, _, rfl, ?_⟩⟩
  obtain ⟨n, rfl⟩ : ∃ k, n = k + 1 := ⟨n - 1, by omega⟩
  refine ifD (fun c => ?_) (fun c => ?_)
  · have lt : j < L.length := by omega
    have ec := List.drop_eq_getElem_cons lt
    refine ⟨fun σ' G' => ∃ m', m' < L.length - j ∧ ∃ (done : List Fr) (as : List Addr) (s3 s4 : Option V) (j n : Nat), m' = L.length - j ∧ j ≤ L.length ∧ L.length - j < n ∧ done.length ≤ j ∧ σ' = [some (.str (S L)), some (.ref q), some (.int j), s3, s4] ∧ Same H G' ∧ G' q = some (.lst (as.map V.ref)) ∧ FrsO G' as done ∧
      readR (L.length + 1) L = (readR n (L.drop j)).map fun x => (done ++ x.1, x.2), fun σ' G' h => h, ?_⟩
    refine ⟨_, rfl, _, rfl, L, j, rfl, f, lt, ?_⟩
    rw [ec] at er ⊢
    have e1 : readR (n + 1) (L[j] :: L.drop (j + 1)) = (match frameR (L[j] :: L.drop (j + 1)) with
      | .bad => none
      | .part => some ([], L[j] :: L.drop (j + 1))
      | .got f t => (readR n t).map fun x => (f :: x.1, x.2)) := rfl
    cases hf : frameR (L[j] :: L.drop (j + 1)) with
    | bad =>
      rw [hf] at e1
      rw [e1] at er
      rw [er] at out
      exact fun H1 s1 => out H1 (s.trans s1)
    | part =>
      rw [hf] at e1
      rw [e1] at er
      rw [er] at out
      have out : GotR H Q (done ++ []) (L[j] :: L.drop (j + 1)) := out
      rw [List.append_nil, ← ec] at out
      refine fun H1 s1 => ⟨_, rfl, rfl, _, rfl, iteT' rfl ?_⟩
      have ec2 : cutS (S L) (some (j : Int)) none = S (L.drop j) := cut_from jl
      refine ⟨_, rfl, _, rfl, _, rfl, _, rfl, S L, rfl, f.le, ?_⟩
      rw [ec2]
      refine ⟨two_fit.2.1, fun p hp => ?_⟩
      have sp := s1.trans (same_new (o := .tup [.ref q, .str (S (L.drop j))]) hp)
      exact out p q as _ (s.trans sp) upd_same (sp _ _ hG) ⟨fo.1, fun j a f e1 e2 => (fo.2 j a f e1 e2).same sp⟩
    | got g t =>
      rw [hf] at e1
      rw [e1] at er
      obtain ⟨ok, c0, u, eu, su, _⟩ := frame_got hf
      intro k kl ek p a H1 s1 hfo hp
      have lk : L.length - k = t.length := by rw [← ek, List.length_drop]
      have lt2 : t.length < L.length - j := by
        have q1 := su.len
        have q2 := congrArg List.length eu
        rw [← ec, List.length_drop, List.length_cons] at q2
        omega
      refine ⟨_, rfl, rfl, _, rfl, iteF' rfl ⟨_, rfl, g2 (SqT.of hp) ⟨_, rfl, .inl ⟨rfl, _, SqL.of (s1 _ _ hG)⟩, _, rfl, q, as.map V.ref, .ref a, rfl, rfl, s1 _ _ hG, ?_, ?_⟩⟩⟩
      · rw [List.length_map, fo.1]
        have : (100000 : Nat) < sizeLine := by rw [sizeLine_eq]; decide
        have : L.length ≤ 100000 := f
        omega
      · refine ⟨_, ?_, done ++ [g], as ++ [a], some (V.ref p), some (V.ref a), k, n, rfl, kl, by omega, by rw [List.length_append, List.length_singleton]; omega, rfl, fun c o e => ?_, ?_, ?_, ?_⟩
        · omega
        · rw [upd_ne (ne_of_none e hq)]
          exact s1 _ _ (s _ _ e)
        · rw [upd_same, List.map_append]
          rfl
        · have fo1 : FrsO H1 as done := ⟨fo.1, fun j a f e1 e2 => (fo.2 j a f e1 e2).same s1⟩
          have fo2 := fo1.snoc hfo
          exact ⟨fo2.1, fun j x y e1 e2 => (fo2.2 j x y e1 e2).upd (s1 _ _ hG)⟩
        · rw [er, ek, Option.map_map]
          congr 1
          funext x
          simp
  · have ej : j = L.length := by omega
    subst ej
    rw [List.drop_length] at er
    have e1 : readR (n + 1) [] = some ([], []) := rfl
    rw [e1] at er
    rw [er] at out
    have out : GotR H Q (done ++ []) [] := out
    rw [List.append_nil] at out
    refine ⟨_, rfl, two_fit.2.1, fun p hp => ?_⟩
    have sp := same_new (o := .tup [.ref q, .str ""]) hp
    exact out p q as _ (s.trans sp) upd_same (sp _ _ hG) ⟨fo.1, fun j a f e1 e2 => (fo.2 j a f e1 e2).same sp⟩
/-! ### the law's reader -/
def Plain (t : List Nat) : Prop := t.length ≤ 50000 ∧ ∀ c ∈ t, c ≤ 126 ∧ c ≠ 37
theorem Plain.fits {t : List Nat} (h : Plain t) : Fits t := by
  have := h.1
  unfold Fits
  omega
theorem Plain.suf {t u : List Nat} (h : Plain t) (s : Suf u t) : Plain u := ⟨Nat.le_trans s.len h.1, fun c m => h.2 c (s.mem m)⟩
theorem cutAt_sub (x : Nat) : ∀ t : List Nat, (∀ c ∈ cutAt x t, c ∈ t) ∧ (cutAt x t).length ≤ t.length
  | [] => ⟨fun c m => (nomatch m), Nat.le_refl _⟩
  | a :: t => by
    have ih := cutAt_sub x t
    show (∀ c ∈ (if a = x then [] else a :: cutAt x t), c ∈ a :: t) ∧ (if a = x then [] else a :: cutAt x t).length ≤ _
    split
    · exact ⟨fun c m => (nomatch m), Nat.zero_le _⟩
    · refine ⟨fun c m => ?_, by rw [List.length_cons, List.length_cons]; omega⟩
      rcases List.mem_cons.mp m with rfl | m
      · exact List.mem_cons_self
      · exact List.mem_cons_of_mem _ (ih.1 c m)
theorem Plain.cut {t : List Nat} (h : Plain t) (x : Nat) : Plain (cutAt x t) := ⟨Nat.le_trans (cutAt_sub x t).2 h.1, fun c m => h.2 c ((cutAt_sub x t).1 c m)⟩
theorem Plain.take {t : List Nat} (h : Plain t) (n : Nat) : Plain (t.take n) := ⟨by rw [List.length_take]; have := h.1; omega, fun c m => h.2 c (List.mem_of_mem_take m)⟩
theorem dp41 : ∀ cs : List Nat, DpAll K G (cs.map fun c => V.str (S [c])) (cs.map fun c => PyData.str (S [c]))
  | [] => .nil
  | c :: r => .cons (.str _) (dp41 r)
theorem at41 : ∀ cs : List Nat, (∀ c ∈ cs, c ≤ 126) → AllTo 0 (22 * cs.length) (cs.map fun c => PyData.str (S [c]))
  | [], _ => at_nil
  | c :: r, h => by
    have q := at_cons (gt_S (l := [c]) fun x m => by rw [List.mem_singleton.mp m]; exact h c List.mem_cons_self) (at41 r fun x m => h x (List.mem_cons_of_mem _ m))
    have e : 10 * [c].length + 8 + 4 + 22 * r.length = 22 * (c :: r).length := by rw [List.length_cons, List.length_cons, List.length_nil]; omega
    rw [← e]
    exact q
theorem eqv_nil (cs : List Nat) : PyData.eqv (.list (cs.map fun c => PyData.str (S [c]))) (.list []) = decide (cs = []) := by
  cases cs with
  | nil => rfl
  | cons c r => rfl
/-- [sign for each sign of a text if ..] -/
theorem flt41 {tt : TT} {P : Nat → Bool} {z : List Nat} {i j : Nat} {σ : L2.St} (nz : Plain z) (h0 : σ[i]? = some (some (.str (S z)))) (w1 : wipe σ [j] = σ) (w2 : ∀ v : V, wipe (σ.set j (some v)) [j] = wipe σ [j]) (h1 : ∀ v : V, (σ.set j (some v))[j]? = some (some v))
    (ht : ∀ G (c : Nat), c ∈ z → ∀ Q : Bool → Hp → Prop, Q (P c) G → tt (σ.set j (some (.str (S [c])))) G Q) (k : ∀ D H', Same H H' → H' D = some (.lst ((z.filter P).map fun c => V.str (S [c]))) → Q (.ref D) H') :
    tLc (iStr (tVar i)) (gName j) tt (tVar j) [j] σ H Q := by
  refine ⟨_, h0, S z, rfl, fun D hD => ?_⟩
  refine lc_str (fun i G => Same H G ∧ G D = some (.lst (((z.take i).filter P).map fun c => V.str (S [c])))) ⟨same_new hD, upd_same⟩ ?_ ?_
  · rintro m c G hc ⟨s, hz⟩
    obtain ⟨lt, ec⟩ := List.getElem?_eq_some_iff.mp hc
    have lt' : m < z.length := lt
    have ec' : z[m] = c := ec
    rw [w1]
    refine ⟨(w2 _).trans w1, ht G c (List.mem_of_getElem? hc) _ ?_⟩
    rw [List.take_succ_eq_append_getElem lt', List.filter_append, ec']
    cases e : P c with
    | true =>
      refine iteT' rfl ⟨_, h1 _, _, hz, ?_, fun a o q => ?_, ?_⟩
      · rw [List.length_map]
        have q1 := List.length_filter_le P (z.take m)
        rw [List.length_take] at q1
        have q2 := nz.1
        have : (100000 : Nat) < sizeLine := by rw [sizeLine_eq]; decide
        omega
      · rw [upd_ne (ne_of_none q hD)]
        exact s a o q
      · rw [upd_same, List.map_append]
        simp [e]
    | false =>
      refine iteF' rfl ⟨s, ?_⟩
      rw [hz]
      simp [e]
  · rintro G ⟨s, hz⟩
    have e : (S z).cps.toList.length = z.length := rfl
    rw [e, List.take_length] at hz
    exact k D G s hz
theorem flt_nil {z : List Nat} {P : Nat → Bool} : decide (z.filter P = []) = z.all fun c => !P c := by
  rw [Bool.eq_iff_iff, decide_eq_true_eq, List.filter_eq_nil_iff, List.all_eq_true]
  constructor
  · intro h c m
    have := h c m
    simpa using this
  · intro h c m
    have := h c m
    simpa using this
theorem flt_eq {tt : TT} {P : Nat → Bool} {z : List Nat} {i j : Nat} {σ : L2.St} (nz : Plain z) (h0 : σ[i]? = some (some (.str (S z)))) (w1 : wipe σ [j] = σ) (w2 : ∀ v : V, wipe (σ.set j (some v)) [j] = wipe σ [j]) (h1 : ∀ v : V, (σ.set j (some v))[j]? = some (some v))
    (ht : ∀ G (c : Nat), c ∈ z → ∀ Q : Bool → Hp → Prop, Q (P c) G → tt (σ.set j (some (.str (S [c])))) G Q) (k : ∀ H', Same H H' → Q (.bl (z.all fun c => !P c)) H') :
    tOp (rEqU K) (tLc (iStr (tVar i)) (gName j) tt (tVar j) [j]) (tLst tNil) σ H Q := by
  unfold tOp
  refine flt41 nz h0 w1 w2 h1 ht fun D H' s e => ⟨Nat.zero_le _, fun q hq => .inr ⟨_, _, .lst (SqL.of (same_new hq _ _ e)) (dp41 _), .lst (SqL.of upd_same) .nil, ?_, by decide +kernel, ?_⟩⟩
  · have b : ∀ c ∈ z.filter P, c ≤ 126 := fun c m => (nz.2 c (List.mem_filter.mp m).1).1
    exact ((gt_list (at41 _ b)).good (by decide) (by have := List.length_filter_le P z; have := nz.1; omega)).sh
  · rw [eqv_nil, flt_nil]
    exact k _ (s.trans (same_new hq))
theorem flt_ne {tt : TT} {P : Nat → Bool} {z : List Nat} {i j : Nat} {σ : L2.St} {QB : Bool → Hp → Prop} (nz : Plain z) (h0 : σ[i]? = some (some (.str (S z)))) (w1 : wipe σ [j] = σ) (w2 : ∀ v : V, wipe (σ.set j (some v)) [j] = wipe σ [j]) (h1 : ∀ v : V, (σ.set j (some v))[j]? = some (some v))
    (ht : ∀ G (c : Nat), c ∈ z → ∀ Q : Bool → Hp → Prop, Q (P c) G → tt (σ.set j (some (.str (S [c])))) G Q) (k : ∀ H', Same H H' → QB (!z.all fun c => !P c) H') :
    tTest (tOp (rNeU K) (tLc (iStr (tVar i)) (gName j) tt (tVar j) [j]) (tLst tNil)) σ H QB := by
  unfold tTest tOp
  refine flt41 nz h0 w1 w2 h1 ht fun D H' s e => ⟨Nat.zero_le _, fun q hq => .inr ⟨_, _, .lst (SqL.of (same_new hq _ _ e)) (dp41 _), .lst (SqL.of upd_same) .nil, ?_, by decide +kernel, _, rfl, ?_⟩⟩
  · have b : ∀ c ∈ z.filter P, c ≤ 126 := fun c m => (nz.2 c (List.mem_filter.mp m).1).1
    exact ((gt_list (at41 _ b)).good (by decide) (by have := List.length_filter_le P z; have := nz.1; omega)).sh
  · rw [eqv_nil, flt_nil]
    exact k _ (s.trans (same_new hq))
def sp_law_is_word (K : PySem.W.Frag) : Sp := fun vs H Q _ => ∃ n : List Nat, vs = [.str (S n)] ∧ Plain n ∧ ∀ H', Same H H' → Q (.bl (isWord n)) H'
def sp_law_is_number (K : PySem.W.Frag) : Sp := fun vs H Q _ => ∃ (d : List Nat) (top : Nat), vs = [.str (S d), .int top] ∧ Plain d ∧ ∀ H', Same H H' → Q (.bl (isNum top d)) H'
def t_law_is_word (K : PySem.W.Frag) : TS :=
  (tSeq (tAsg (tC (.str "abcdefghijklmnopqrstuvwxyz")) (gName 1))
    (tRet (tAndV (tChain (rLtI) (rLtI) (tC (.int 0)) (tCB (rLenU K) (tCons (tVar 0) tNil)) (tC (.int 9))) (tOp (rEqU K) (tLc (iStr (tVar 0)) (gName 2) (tTest (tOp (rNotInU K) (tVar 2) (tVar 1))) (tVar 2) [2]) (tLst tNil)))))
def t_law_is_number (K : PySem.W.Frag) : TS :=
  (tSeq (tIfS (tOr (tTest (tOp (rEqU K) (tVar 0) (tC (.str "")))) (tOr (tTest (tOp (rGtI) (tCB (rLenU K) (tCons (tVar 0) tNil)) (tC (.int 39)))) (tTest (tOp (rNeU K) (tLc (iStr (tVar 0)) (gName 2) (tTest (tOp (rNotInU K) (tVar 2) (tC (.str "0123456789")))) (tVar 2) [2]) (tLst tNil))))) (tRet (tC (.bl false))) tNext)
    (tRet (tAndV (tOp (rNeU K) (tOp (rIx K) (tVar 0) (tC (.int 0))) (tC (.str "0"))) (tOp (rLeU) (tCB (rIntU) (tCons (tVar 0) tNil)) (tVar 1)))))
theorem ln_law_is_word (h : sp_law_is_word K vs H Q E) : vs.length = 1 := by obtain ⟨_, rfl, _⟩ := h; rfl
theorem ln_law_is_number (h : sp_law_is_number K vs H Q E) : vs.length = 2 := by obtain ⟨_, _, rfl, _⟩ := h; rfl
theorem abc_in : ∀ c, c ≤ 126 → (!decide (c ∈ ("abcdefghijklmnopqrstuvwxyz" : Str).cps.toList)) = !inR 97 122 c := by
  have h : ∀ c, c < 127 → (!decide (c ∈ ("abcdefghijklmnopqrstuvwxyz" : Str).cps.toList)) = !inR 97 122 c := by decide +kernel
  exact fun c hc => h c (by omega)
theorem dig_in : ∀ c, c ≤ 126 → (!decide (c ∈ ("0123456789" : Str).cps.toList)) = !inR 48 57 c := by
  have h : ∀ c, c < 127 → (!decide (c ∈ ("0123456789" : Str).cps.toList)) = !inR 48 57 c := by decide +kernel
  exact fun c hc => h c (by omega)
theorem rd_law_is_word (h : sp_law_is_word K vs H Q E) : t_law_is_word K (EndsOf Q) (start ["", "", ""] vs) H := by
  obtain ⟨n, rfl, nz, k⟩ := h
  refine ⟨_, rfl, .inl ⟨_, n.length, rfl, len_of nz.fits, _, _, rfl, rfl, _, rfl, ?_⟩⟩
  refine ifD (fun c1 => ?_) (fun c1 => ⟨false, rfl, iteF' rfl ?_⟩)
  · refine ⟨_, _, rfl, rfl, _, rfl, ?_⟩
    refine ifD (fun c2 => ?_) (fun c2 => ?_)
    · refine flt_eq (P := fun c => !inR 97 122 c) nz rfl rfl (fun _ => rfl) (fun _ => rfl) (fun G c hc Q q => ?_) fun H' s => ?_
      · refine ⟨_, rfl, _, rfl, .inr ⟨c, _, rfl, rfl, _, rfl, ?_⟩⟩
        rw [abc_in c (nz.2 c hc).1]
        exact q
      · have e : (n.all fun c => !!inR 97 122 c) = isWord n := by
          unfold isWord
          rw [decide_eq_true (show 0 < n.length by omega), decide_eq_true (show n.length < 9 by omega)]
          simp
        rw [e]
        exact k H' s
    · have e : isWord n = false := by
        unfold isWord
        rw [decide_eq_false (show ¬ n.length < 9 by omega)]
        simp
      rw [e] at k
      exact k H (Same.refl H)
  · have e : isWord n = false := by
      unfold isWord
      rw [decide_eq_false (show ¬ 0 < n.length by omega)]
      simp
    rw [e] at k
    exact k H (Same.refl H)
theorem rd_law_is_number (h : sp_law_is_number K vs H Q E) : t_law_is_number K (EndsOf Q) (start ["", "", ""] vs) H := by
  obtain ⟨d, top, rfl, nz, k⟩ := h
  refine ⟨_, rfl, .inl ⟨rfl, _, rfl, ?_⟩⟩
  rw [emp_S]
  by_cases d0 : d = []
  · have e : isNum top d = false := by subst d0; rfl
    rw [e] at k
    exact iteT' (decide_eq_true d0) (iteT' rfl (k H (Same.refl H)))
  refine iteF' (decide_eq_false d0) ?_
  refine ⟨_, rfl, .inl ⟨_, d.length, rfl, len_of nz.fits, _, _, rfl, rfl, _, rfl, ?_⟩⟩
  refine ifD (fun c1 => iteT' rfl ?_) (fun c1 => ?_)
  · have e : isNum top d = false := by
      unfold isNum
      rw [decide_eq_false (show ¬ d.length ≤ 39 by omega)]
      simp
    rw [e] at k
    exact k H (Same.refl H)
  refine flt_ne (P := fun c => !inR 48 57 c) nz rfl rfl (fun _ => rfl) (fun _ => rfl) (fun G c hc Q q => ?_) fun H1 s1 => ?_
  · refine ⟨_, rfl, .inr ⟨c, _, rfl, rfl, _, rfl, ?_⟩⟩
    rw [dig_in c (nz.2 c hc).1]
    exact q
  have ea : (!d.all fun c => !!inR 48 57 c) = !d.all (inR 48 57) := by simp
  rw [ea]
  cases a : d.all (inR 48 57) with
  | false =>
    have e : isNum top d = false := by
      unfold isNum
      rw [a]
      simp
    rw [e] at k
    exact iteT' rfl (k H1 s1)
  | true =>
    refine iteF' rfl ?_
    cases d with
    | nil => exact absurd rfl d0
    | cons c r =>
      refine ⟨_, rfl, .inr (.inr ⟨S (c :: r), 0, c, rfl, rfl, nz.fits.le, atI_nat (j := 0) rfl, .inl ⟨rfl, ?_⟩⟩)⟩
      have e48 : (V.str "0" : V) = V.str (S [48]) := rfl
      rw [e48, one_S]
      by_cases c48 : c = 48
      · have e : isNum top (c :: r) = false := by
          unfold isNum
          subst c48
          simp
        rw [e] at k
        exact ⟨_, rfl, iteF' (by rw [decide_eq_true c48]; rfl) (k H1 s1)⟩
      · refine ⟨_, rfl, iteT' (by rw [decide_eq_false c48]; rfl) ?_⟩
        refine ⟨_, rfl, .inr ⟨S (c :: r), _, rfl, SX.int_S a d0 (by omega), by rw [len_S]; omega, _, rfl, .inl ⟨_, _, rfl, rfl, ?_⟩⟩⟩
        have e : decide (((NumText.digitsVal (c :: r) : Nat) : Int) ≤ (top : Int)) = isNum top (c :: r) := by
          unfold isNum
          rw [a, decide_eq_false d0, decide_eq_true (show (c :: r).length ≤ 39 by omega), decide_eq_false (show ¬ (c :: r)[0]? = some 48 by simp [c48])]
          simp
        have k := k H1 s1
        rw [← e] at k
        exact k
theorem split0 {c : Nat} {r : List Nat} (hc : c < 256) : ((Txt.split (S r) (S [c])).map V.str)[0]? = some (.str (S (cutAt c r))) := by
  have e : Txt.split (S r) (S [c]) = (TL.spl [c] 0 [] r).map S := SX.split_S (a := r) (b := [c]) (by simp) (by simp [hc])
  rw [e, List.map_map, List.getElem?_map, cutAt_spl]
  rfl
theorem Plain.two {r : List Nat} (h : Plain r) : (S r).length + 2 ≤ sizeLine := by
  have := h.1
  have e := len_S r
  have : (100000 : Nat) < sizeLine := by rw [sizeLine_eq]; decide
  omega
/-- x = text.split(sign)[0] -/
theorem split_asg {rest : TS} {De : Ends} {σ : L2.St} {i j c : Nat} {r : List Nat} {te : TE} (h : σ[i]? = some (some (.str (S r)))) (hte : ∀ (H : Hp) (Q : VK), Q (.str (S [c])) H → te σ H Q) (hc : c < 256) (pr : Plain r) (k : ∀ H', Same H H' → rest De (σ.set j (some (.str (S (cutAt c r))))) H') :
    tSeq (tAsg (tOp (rIx K) (PkC.tSplit (tVar i) te) (tC (.int 0))) (gName j)) rest De σ H := by
  refine ⟨_, h, ⟨_, rfl⟩, hte _ _ ⟨S r, S [c], rfl, rfl, rfl, pr.two, fun p hp => ?_⟩⟩
  exact .inl ⟨p, _, (0 : Nat), .str (S (cutAt c r)), rfl, rfl, SqL.of upd_same, atI_nat (split0 hc), k _ (same_new hp)⟩
theorem cut_fr (l : List Nat) (i : Nat) : cutS (S l) (some (i : Int)) none = S (l.drop i) := by
  by_cases h : i ≤ l.length
  · exact cut_from h
  · unfold cutS
    rw [HT.sIx_nat, HT.sIx_none, len_S, Nat.min_eq_right (by omega), Nat.sub_self, List.take_zero, (List.drop_eq_nil_of_le (show l.length ≤ i by omega) : l.drop i = [])]
theorem cutAt_lt {c : Nat} : ∀ {s : List Nat}, c ∈ s → (cutAt c s).length < s.length
  | [], h => nomatch h
  | a :: s, h => by
    show (if a = c then [] else a :: cutAt c s).length < _
    by_cases e : a = c
    · rw [if_pos e]
      exact Nat.zero_lt_succ _
    · rw [if_neg e]
      rcases List.mem_cons.mp h with z | h
      · exact absurd z.symm e
      · have := cutAt_lt h
        rw [List.length_cons, List.length_cons]
        omega
theorem in_kinds {m : List Nat} : inV (.str (S m)) [.str "", .str "w", .str "e", .str "we"] = decide (m ∈ kinds4) := by
  have e : inV (.str (S m)) [.str "", .str "w", .str "e", .str "we"] = ((S [] == S m) || ((S [119] == S m) || ((S [101] == S m) || ((S [119, 101] == S m) || false)))) := rfl
  have f : ∀ l : List Nat, (S l == S m) = decide (m = l) := fun l => by
    have e : (S l == S m) = decide (l = m) := SX.S_beq_eq
    rw [e, decide_eq_decide]
    exact eq_comm
  rw [e, f, f, f, f, Bool.or_false]
  simp [kinds4]
def LOut {α : Type} (r : Rd α) (bad part : Prop) (got : α → List Nat → Prop) : Prop := match r with
  | .bad => bad
  | .part => part
  | .got x s => got x s
def sp_law_first_data (K : PySem.W.Frag) : Sp := fun vs H Q _ => ∃ (n : List Nat) (many : Nat) (r : List Nat) (ah : Nat), vs = [.str (S n), .int many, .str (S r), .int ah] ∧ Plain r ∧ many ≤ 200 ∧
  LOut ((lawBody many r).bind fun y u => Rd.got (Fr.data n y.1 y.2.1 y.2.2) u) (∀ H', Same H H' → Q (.str "bad") H') (∀ H', Same H H' → Q (.str "part") H')
    (fun g u => ∀ (p q : Addr) (m : Nat) H', Same H H' → FrO H' q g → m ≤ r.length → r.drop m = u → H' p = some (.tup [.ref q, .int (ah + m : Nat)]) → Q (.ref p) H')
def t_law_first_data (K : PySem.W.Frag) : TS :=
  (tSeq (tAsg (tOp (rIx K) (PkC.tSplit (tVar 2) (tC (.str ":"))) (tC (.int 0))) (gName 4))
    (tSeq (tIfS (tTest (tOp (rNotInU K) (tVar 4) (tTup (tCons (tC (.str "")) (tCons (tC (.str "w")) (tCons (tC (.str "e")) (tCons (tC (.str "we")) tNil))))))) (tRet (tC (.str "bad"))) tNext)
    (tSeq (tIfS (tTest (tOp (rNotInU K) (tC (.str ":")) (tVar 2))) (tRet (tC (.str "part"))) tNext)
    (tSeq (tAsg (tSl (L2.rSlS) (tVar 2) (tPart (tOp (rAddU K) (tCB (rLenU K) (tCons (tVar 4) tNil)) (tC (.int 1)))) (tPart (tOp (rAddU K) (tOp (rAddU K) (tCB (rLenU K) (tCons (tVar 4) tNil)) (tC (.int 1))) (tVar 1)))) (gName 5))
    (tSeq (tIfS (tTest (tOp (rNeU K) (tLc (iStr (tVar 5)) (gName 8) (tNot (tTest (tChain (rLeU) (rLeU) (tC (.str " ")) (tVar 8) (tC (.str "~"))))) (tVar 8) [8]) (tLst tNil))) (tRet (tC (.str "bad"))) tNext)
    (tSeq (tAsg (tSl (L2.rSlS) (tVar 2) (tPart (tOp (rAddU K) (tOp (rAddU K) (tCB (rLenU K) (tCons (tVar 4) tNil)) (tC (.int 1))) (tVar 1))) tNoPart) (gName 6))
    (tSeq (tIfS (tTest (tOp (rEqU K) (tVar 6) (tC (.str "")))) (tRet (tC (.str "part"))) tNext)
    (tSeq (tAsg (tTup (tCons (tC (.str "data")) (tCons (tVar 0) (tCons (tVar 5) (tCons (tOp (rInU K) (tC (.str "w")) (tVar 4)) (tCons (tOp (rInU K) (tC (.str "e")) (tVar 4)) tNil)))))) (gName 7))
    (tRet (tIf (tTest (tOp (rEqU K) (tOp (rIx K) (tVar 6) (tC (.int 0))) (tC (.str ";")))) (tTup (tCons (tVar 7) (tCons (tOp (rAddU K) (tOp (rAddU K) (tOp (rAddU K) (tVar 3) (tCB (rLenU K) (tCons (tVar 4) tNil))) (tC (.int 2))) (tVar 1)) tNil))) (tC (.str "bad"))))))))))))
theorem ln_law_first_data (h : sp_law_first_data K vs H Q E) : vs.length = 4 := by obtain ⟨_, _, _, _, rfl, _⟩ := h; rfl
theorem rd_law_first_data (h : sp_law_first_data K vs H Q E) : t_law_first_data K (EndsOf Q) (start ["", "", "", "", "", "", "", "", ""] vs) H := by
  obtain ⟨n, many, r, ah, rfl, pr, m200, out⟩ := h
  refine split_asg (c := 58) rfl (fun _ _ q => q) (by decide) pr fun H1 s1 => ?_
  unfold lawBody at out
  have pm := pr.cut 58
  have lt58 : 58 ∈ r → (cutAt 58 r).length < r.length := cutAt_lt
  generalize cutAt 58 r = m at out pm lt58 ⊢
  refine ⟨_, rfl, Nat.le_of_lt (small1000 (show 4 ≤ 1000 by decide)), fun tp htp => .inl ⟨tp, _, rfl, .inr (SqT.of upd_same), rfl, rfl, _, rfl, ?_⟩⟩
  have s2 := s1.trans (same_new (o := .tup [.str "", .str "w", .str "e", .str "we"]) htp)
  generalize upd H1 tp (.tup [.str "", .str "w", .str "e", .str "we"]) = H2 at s2 ⊢
  have ek : (if true = true then !inV (.str (S m)) [.str "", .str "w", .str "e", .str "we"] else inV (.str (S m)) [.str "", .str "w", .str "e", .str "we"]) = !decide (m ∈ kinds4) := by rw [if_pos rfl, in_kinds]
  rw [ek]
  by_cases hk : m ∈ kinds4
  rotate_left
  · rw [if_pos hk] at out
    exact iteT' (by rw [decide_eq_false hk]; rfl) (out H2 s2)
  rw [if_neg (not_not_intro hk)] at out
  refine iteF' (by rw [decide_eq_true hk]; rfl) ?_
  refine ⟨_, rfl, .inr ⟨58, S r, rfl, rfl, _, rfl, ?_⟩⟩
  have e58 : (!decide (58 ∈ (S r).cps.toList)) = !decide (58 ∈ r) := rfl
  rw [e58]
  by_cases h58 : 58 ∈ r
  rotate_left
  · rw [if_pos h58] at out
    exact iteT' (by rw [decide_eq_false h58]; rfl) (out H2 s2)
  rw [if_neg (not_not_intro h58)] at out
  refine iteF' (by rw [decide_eq_true h58]; rfl) ?_
  have lt := lt58 h58
  refine ⟨_, rfl, _, rfl, .inl ⟨_, m.length, rfl, len_of pm.fits, .inl ⟨_, _, rfl, rfl, _, rfl, _, rfl, .inl ⟨_, m.length, rfl, len_of pm.fits, .inl ⟨_, _, rfl, rfl, _, rfl, .inl ⟨_, _, rfl, rfl, _, rfl, S r, rfl, pr.fits.le, ?_⟩⟩⟩⟩⟩⟩
  have ec : cutS (S r) (some ((m.length : Int) + 1)) (some ((m.length : Int) + 1 + (many : Int))) = S ((r.drop (m.length + 1)).take many) := by
    have := cut_S2 (l := r) (i := m.length + 1) (j := m.length + 1 + many) (by omega) lt
    rw [Nat.add_sub_cancel_left] at this
    exact this
  dsimp only [gName]
  rw [ec]
  have px : Plain ((r.drop (m.length + 1)).take many) := (pr.suf (Suf.drop _ _)).take many
  generalize (r.drop (m.length + 1)).take many = x at out px ⊢
  dsimp only [tSeq, tIfS]
  refine flt_ne (P := fun c => !ascii c) px rfl rfl (fun _ => rfl) (fun _ => rfl) (fun G c hc Q q => ?_) fun H3 s3 => ?_
  · have l1 : (!decide ((S [c]).cps.toList < (" " : Str).cps.toList)) = decide (32 ≤ c) := le_sg (a := 32)
    have l2 : (!decide (("~" : Str).cps.toList < (S [c]).cps.toList)) = decide (c ≤ 126) := ge_sg (a := 126)
    refine ⟨_, rfl, .inr ⟨_, _, rfl, rfl, _, rfl, ?_⟩⟩
    rw [l1]
    by_cases c1 : 32 ≤ c
    · refine iteT' (decide_eq_true c1) (.inr ⟨_, _, rfl, rfl, _, rfl, ?_⟩)
      rw [l2]
      show Q (!decide (c ≤ 126)) G
      have e : (!decide (c ≤ 126)) = !ascii c := by unfold ascii inR; rw [decide_eq_true c1]; rfl
      rw [e]
      exact q
    · refine iteF' (decide_eq_false c1) ⟨false, rfl, ?_⟩
      have e : (!ascii c) = true := by unfold ascii inR; rw [decide_eq_false c1]; rfl
      have q : Q (!ascii c) G := q
      rw [e] at q
      exact q
  have ea : (!x.all fun c => !!ascii c) = !x.all ascii := by simp
  rw [ea]
  cases g : x.all ascii with
  | false =>
    rw [if_pos g] at out
    exact iteT' rfl (out H3 (s2.trans s3))
  | true =>
    rw [if_neg (by rw [g]; decide)] at out
    refine iteF' rfl ?_
    refine ⟨_, rfl, _, rfl, .inl ⟨_, m.length, rfl, len_of pm.fits, .inl ⟨_, _, rfl, rfl, _, rfl, .inl ⟨_, _, rfl, rfl, _, rfl, S r, rfl, pr.fits.le, ?_⟩⟩⟩⟩
    have ec2 : cutS (S r) (some ((m.length : Int) + 1 + (many : Int))) none = S (r.drop (m.length + 1 + many)) := cut_fr r (m.length + 1 + many)
    rw [ec2]
    have pu : Plain (r.drop (m.length + 1 + many)) := pr.suf (Suf.drop _ _)
    unfold lawTail at out
    cases hu : r.drop (m.length + 1 + many) with
    | nil =>
      rw [hu] at out
      refine ⟨_, rfl, .inl ⟨rfl, _, rfl, iteT' (by rw [emp_S]; rfl) ?_⟩⟩
      exact out H3 (s2.trans s3)
    | cons c t =>
      rw [hu] at out pu
      refine ⟨_, rfl, .inl ⟨rfl, _, rfl, iteF' (by rw [emp_S]; exact decide_eq_false (by simp)) ?_⟩⟩
      refine ⟨_, rfl, _, rfl, _, rfl, .inr ⟨119, S m, rfl, rfl, _, rfl, .inr ⟨101, S m, rfl, rfl, Nat.le_of_lt (small1000 (show 5 ≤ 1000 by decide)), fun q hq => ?_⟩⟩⟩
      refine ⟨_, rfl, .inr (.inr ⟨S (c :: t), (0 : Nat), c, rfl, rfl, pu.fits.le, atI_nat (j := 0) rfl, .inl ⟨rfl, _, rfl, ?_⟩⟩)⟩
      have e59 : (V.str ";" : V) = V.str (S [59]) := rfl
      rw [e59, one_S]
      by_cases c59 : c = 59
      · have out : ∀ (p q : Addr) (M : Nat) H', Same H H' → FrO H' q (Fr.data n x (decide (119 ∈ m)) (decide (101 ∈ m))) → M ≤ r.length → r.drop M = t → H' p = some (.tup [.ref q, .int (ah + M : Nat)]) → Q (.ref p) H' := by
          have e : (match c :: t with
            | [] => (Rd.part : Rd (List Nat × Bool × Bool))
            | c :: t => if c = 59 then Rd.got (x, decide (119 ∈ m), decide (101 ∈ m)) t else Rd.bad) = Rd.got (x, decide (119 ∈ m), decide (101 ∈ m)) t := if_pos c59
          rw [e] at out
          exact out
        refine iteT' (decide_eq_true c59) ?_
        refine ⟨_, rfl, _, rfl, _, rfl, .inl ⟨_, m.length, rfl, len_of pm.fits, .inl ⟨_, _, rfl, rfl, .inl ⟨_, _, rfl, rfl, _, rfl, .inl ⟨_, _, rfl, rfl, two_fit.2.1, fun p hp => ?_⟩⟩⟩⟩⟩
        have ll := congrArg List.length hu
        rw [List.length_drop, List.length_cons] at ll
        refine out p q (m.length + 1 + many + 1) _ (((s2.trans s3).trans (same_new hq)).trans (same_new hp)) (same_new hp _ _ upd_same) (by omega) (by rw [← List.drop_drop, hu]; rfl) ?_
        rw [upd_same]
        dsimp only
        have e : ((ah : Int) + (m.length : Int) + 2 + (many : Int)) = ((ah + (m.length + 1 + many + 1) : Nat) : Int) := by omega
        rw [e]
      · have out : ∀ H', Same H H' → Q (.str "bad") H' := by
          have e : (match c :: t with
            | [] => (Rd.part : Rd (List Nat × Bool × Bool))
            | c :: t => if c = 59 then Rd.got (x, decide (119 ∈ m), decide (101 ∈ m)) t else Rd.bad) = Rd.bad := if_neg c59
          rw [e] at out
          exact out
        exact iteF' (decide_eq_false c59) (out _ ((s2.trans s3).trans (same_new hq)))
end
end Pk
set_option Elab.async false
set_option linter.all false
set_option maxRecDepth 100000
set_option maxHeartbeats 2000000
namespace Pk
open PySem PySem.Spec L2 PyProof.Rows PkC
section
variable {K : PySem.W.Frag} {C : Cs} {vs : List V} {H H' G G' : Hp} {Q : VK} {E : XK} {v : V} {L : List Nat}
def sp_law_first (K : PySem.W.Frag) : Sp := fun vs H Q _ => ∃ (c : Nat) (s : List Nat), vs = [.str (S (c :: s))] ∧ Plain (c :: s) ∧ LOut (frameR (c :: s)) (∀ H', Same H H' → Q (.str "bad") H') (∀ H', Same H H' → Q (.str "part") H')
    (fun g u => ∀ (p q : Addr) (m : Nat) H', Same H H' → FrO H' q g → m ≤ (c :: s).length → (c :: s).drop m = u → H' p = some (.tup [.ref q, .int (m : Nat)]) → Q (.ref p) H')
def t_law_first (K : PySem.W.Frag) : TS :=
  (tSeq (tPar 1 2 (tCons (tOp (rIx K) (PkC.tSplit (tSl (L2.rSlS) (tVar 0) (tPart (tC (.int 1))) tNoPart) (tC (.str ","))) (tC (.int 0))) (tCons (tIf (tTest (tOp (rEqU K) (tOp (rIx K) (tVar 0) (tC (.int 0))) (tC (.str "d")))) (tC (.int 200)) (tOp (rPowI) (tC (.int 10)) (tC (.int 39)))) tNil)))
    (tSeq (tIfS (tOr (tTest (tOp (rNotInU K) (tOp (rIx K) (tVar 0) (tC (.int 0))) (tC (.str "bd")))) (tAnd (tTest (tOp (rNeU K) (tVar 1) (tC (.str "")))) (tNot (tB (tCall (sp_law_is_word K) [] E0 (tCons (tVar 1) tNil)))))) (tRet (tC (.str "bad"))) tNext)
    (tSeq (tIfS (tTest (tOp (rNotInU K) (tC (.str ",")) (tVar 0))) (tRet (tC (.str "part"))) tNext)
    (tSeq (tAsg (tSl (L2.rSlS) (tVar 0) (tPart (tOp (rAddU K) (tC (.int 2)) (tCB (rLenU K) (tCons (tVar 1) tNil)))) tNoPart) (gName 3))
    (tSeq (tAsg (tIf (tTest (tOp (rEqU K) (tOp (rIx K) (tVar 0) (tC (.int 0))) (tC (.str "d")))) (tC (.str ",")) (tC (.str ";"))) (gName 4))
    (tSeq (tAsg (tOp (rIx K) (PkC.tSplit (tVar 3) (tVar 4)) (tC (.int 0))) (gName 5))
    (tSeq (tIfS (tOr (tTest (tOp (rEqU K) (tVar 1) (tC (.str "")))) (tAnd (tTest (tOp (rNeU K) (tVar 5) (tC (.str "")))) (tNot (tB (tCall (sp_law_is_number K) [] E0 (tCons (tVar 5) (tCons (tVar 2) tNil))))))) (tRet (tC (.str "bad"))) tNext)
    (tSeq (tIfS (tTest (tOp (rNotInU K) (tVar 4) (tVar 3))) (tRet (tC (.str "part"))) tNext)
    (tSeq (tIfS (tTest (tOp (rEqU K) (tVar 5) (tC (.str "")))) (tRet (tC (.str "bad"))) tNext)
    (tSeq (tAsg (tCB (rIntU) (tCons (tVar 5) tNil)) (gName 6))
    (tSeq (tIfS (tTest (tOp (rEqU K) (tOp (rIx K) (tVar 0) (tC (.int 0))) (tC (.str "b")))) (tRet (tTup (tCons (tTup (tCons (tC (.str "back")) (tCons (tVar 1) (tCons (tVar 6) tNil)))) (tCons (tOp (rAddU K) (tOp (rAddU K) (tC (.int 3)) (tCB (rLenU K) (tCons (tVar 1) tNil))) (tCB (rLenU K) (tCons (tVar 5) tNil))) tNil)))) tNext)
    (tRet (tCall (sp_law_first_data K) [] E0 (tCons (tVar 1) (tCons (tVar 6) (tCons (tSl (L2.rSlS) (tVar 3) (tPart (tOp (rAddU K) (tCB (rLenU K) (tCons (tVar 5) tNil)) (tC (.int 1)))) tNoPart) (tCons (tOp (rAddU K) (tOp (rAddU K) (tC (.int 3)) (tCB (rLenU K) (tCons (tVar 1) tNil))) (tCB (rLenU K) (tCons (tVar 5) tNil))) tNil)))))))))))))))))
theorem ln_law_first (h : sp_law_first K vs H Q E) : vs.length = 1 := by obtain ⟨_, _, rfl, _⟩ := h; rfl
def first_rest (K : PySem.W.Frag) : TS :=
  (tSeq (tIfS (tTest (tOp (rNotInU K) (tC (.str ",")) (tVar 0))) (tRet (tC (.str "part"))) tNext)
    (tSeq (tAsg (tSl (L2.rSlS) (tVar 0) (tPart (tOp (rAddU K) (tC (.int 2)) (tCB (rLenU K) (tCons (tVar 1) tNil)))) tNoPart) (gName 3))
    (tSeq (tAsg (tIf (tTest (tOp (rEqU K) (tOp (rIx K) (tVar 0) (tC (.int 0))) (tC (.str "d")))) (tC (.str ",")) (tC (.str ";"))) (gName 4))
    (tSeq (tAsg (tOp (rIx K) (PkC.tSplit (tVar 3) (tVar 4)) (tC (.int 0))) (gName 5))
    (tSeq (tIfS (tOr (tTest (tOp (rEqU K) (tVar 1) (tC (.str "")))) (tAnd (tTest (tOp (rNeU K) (tVar 5) (tC (.str "")))) (tNot (tB (tCall (sp_law_is_number K) [] E0 (tCons (tVar 5) (tCons (tVar 2) tNil))))))) (tRet (tC (.str "bad"))) tNext)
    (tSeq (tIfS (tTest (tOp (rNotInU K) (tVar 4) (tVar 3))) (tRet (tC (.str "part"))) tNext)
    (tSeq (tIfS (tTest (tOp (rEqU K) (tVar 5) (tC (.str "")))) (tRet (tC (.str "bad"))) tNext)
    (tSeq (tAsg (tCB (rIntU) (tCons (tVar 5) tNil)) (gName 6))
    (tSeq (tIfS (tTest (tOp (rEqU K) (tOp (rIx K) (tVar 0) (tC (.int 0))) (tC (.str "b")))) (tRet (tTup (tCons (tTup (tCons (tC (.str "back")) (tCons (tVar 1) (tCons (tVar 6) tNil)))) (tCons (tOp (rAddU K) (tOp (rAddU K) (tC (.int 3)) (tCB (rLenU K) (tCons (tVar 1) tNil))) (tCB (rLenU K) (tCons (tVar 5) tNil))) tNil)))) tNext)
    (tRet (tCall (sp_law_first_data K) [] E0 (tCons (tVar 1) (tCons (tVar 6) (tCons (tSl (L2.rSlS) (tVar 3) (tPart (tOp (rAddU K) (tCB (rLenU K) (tCons (tVar 5) tNil)) (tC (.int 1)))) tNoPart) (tCons (tOp (rAddU K) (tOp (rAddU K) (tC (.int 3)) (tCB (rLenU K) (tCons (tVar 1) tNil))) (tCB (rLenU K) (tCons (tVar 5) tNil))) tNil)))))))))))))))
/-- how the two kinds of frames begin -/
def Kind (c top en : Nat) : Prop := (c = 100 ∧ top = 200 ∧ en = 44) ∨ (c = 98 ∧ top = 10 ^ 39 ∧ en = 59)
def lawFr (c : Nat) (r : Rd (List Nat × Nat)) : Rd Fr := if c = 100 then r.bind fun x t => (lawBody x.2 t).bind fun y u => .got (.data x.1 y.1 y.2.1 y.2.2) u else r.bind fun x t => .got (.back x.1 x.2) t
theorem isNum_digs {top : Nat} {d : List Nat} (h : isNum top d = true) : d ≠ [] ∧ d.length ≤ 39 ∧ d.all (inR 48 57) = true ∧ NumText.digitsVal d ≤ top := by
  unfold isNum at h
  simp only [Bool.and_eq_true, Bool.not_eq_true', decide_eq_false_iff_not, decide_eq_true_eq] at h
  exact ⟨h.1.1.1.1, h.1.1.1.2, h.1.1.2, h.2⟩
theorem rd_first_rest {c top en : Nat} {s n : List Nat} {a3 a4 a5 a6 : Option V} (kd : Kind c top en) (ps : Plain (c :: s)) (en_ : n = cutAt 44 s) (s1 : Same H G)
    (out : LOut (lawFr c (if 44 ∉ s then .part else lawDig top en n (s.drop (n.length + 1)))) (∀ H', Same H H' → Q (.str "bad") H') (∀ H', Same H H' → Q (.str "part") H')
      (fun g u => ∀ (p q : Addr) (m : Nat) H', Same H H' → FrO H' q g → m ≤ (c :: s).length → (c :: s).drop m = u → H' p = some (.tup [.ref q, .int (m : Nat)]) → Q (.ref p) H')) :
    first_rest K (EndsOf Q) [some (.str (S (c :: s))), some (.str (S n)), some (.int (top : Nat)), a3, a4, a5, a6] G := by
  have c44 : c ≠ 44 := by rcases kd with ⟨rfl, _⟩ | ⟨rfl, _⟩ <;> decide
  have ps' := ps.suf (Suf.cons c s)
  have pn : Plain n := by rw [en_]; exact ps'.cut 44
  refine ⟨_, rfl, .inr ⟨44, S (c :: s), rfl, rfl, _, rfl, ?_⟩⟩
  have e44 : (!decide (44 ∈ (S (c :: s)).cps.toList)) = !decide (44 ∈ s) := by
    have : (44 ∈ (S (c :: s)).cps.toList) ↔ 44 ∈ s := by
      show 44 ∈ c :: s ↔ _
      rw [List.mem_cons]
      constructor
      · rintro (z | z)
        · exact absurd z.symm c44
        · exact z
      · exact .inr
    rw [decide_eq_decide.mpr this]
  rw [e44]
  have fpart : lawFr c .part = .part := by unfold lawFr; split <;> rfl
  have fbad : lawFr c .bad = .bad := by unfold lawFr; split <;> rfl
  by_cases h44 : 44 ∈ s
  rotate_left
  · rw [if_pos h44, fpart] at out
    exact iteT' (by rw [decide_eq_false h44]; rfl) (out G s1)
  rw [if_neg (not_not_intro h44)] at out
  refine iteF' (by rw [decide_eq_true h44]; rfl) ?_
  -- the rest
  refine ⟨_, rfl, _, rfl, .inl ⟨_, n.length, rfl, len_of pn.fits, .inl ⟨_, _, rfl, rfl, _, rfl, S (c :: s), rfl, ps.fits.le, ?_⟩⟩⟩
  have ec : cutS (S (c :: s)) (some (2 + (n.length : Int))) none = S (s.drop (n.length + 1)) := by
    have := cut_fr (c :: s) (2 + n.length)
    have e2 : 2 + n.length = (n.length + 1) + 1 := by omega
    rw [show (2 + (n.length : Int)) = ((2 + n.length : Nat) : Int) by omega, this, e2]
    rfl
  dsimp only [gName]
  rw [ec]
  have pr : Plain (s.drop (n.length + 1)) := ps'.suf (Suf.drop _ _)
  have ln : n.length + 1 ≤ s.length := by rw [en_]; exact cutAt_lt h44
  generalize hr : s.drop (n.length + 1) = r at out pr ⊢
  -- its end
  have e100 : (V.str "d" : V) = V.str (S [100]) := rfl
  refine ⟨_, rfl, .inr (.inr ⟨S (c :: s), (0 : Nat), c, rfl, rfl, ps.fits.le, atI_nat (j := 0) rfl, .inl ⟨rfl, _, rfl, ?_⟩⟩)⟩
  rw [e100, one_S]
  have mid : ∀ G1, Same H G1 → (tSeq (tAsg (tOp (rIx K) (PkC.tSplit (tVar 3) (tVar 4)) (tC (.int 0))) (gName 5))
    (tSeq (tIfS (tOr (tTest (tOp (rEqU K) (tVar 1) (tC (.str "")))) (tAnd (tTest (tOp (rNeU K) (tVar 5) (tC (.str "")))) (tNot (tB (tCall (sp_law_is_number K) [] E0 (tCons (tVar 5) (tCons (tVar 2) tNil))))))) (tRet (tC (.str "bad"))) tNext)
    (tSeq (tIfS (tTest (tOp (rNotInU K) (tVar 4) (tVar 3))) (tRet (tC (.str "part"))) tNext)
    (tSeq (tIfS (tTest (tOp (rEqU K) (tVar 5) (tC (.str "")))) (tRet (tC (.str "bad"))) tNext)
    (tSeq (tAsg (tCB (rIntU) (tCons (tVar 5) tNil)) (gName 6))
    (tSeq (tIfS (tTest (tOp (rEqU K) (tOp (rIx K) (tVar 0) (tC (.int 0))) (tC (.str "b")))) (tRet (tTup (tCons (tTup (tCons (tC (.str "back")) (tCons (tVar 1) (tCons (tVar 6) tNil)))) (tCons (tOp (rAddU K) (tOp (rAddU K) (tC (.int 3)) (tCB (rLenU K) (tCons (tVar 1) tNil))) (tCB (rLenU K) (tCons (tVar 5) tNil))) tNil)))) tNext)
    (tRet (tCall (sp_law_first_data K) [] E0 (tCons (tVar 1) (tCons (tVar 6) (tCons (tSl (L2.rSlS) (tVar 3) (tPart (tOp (rAddU K) (tCB (rLenU K) (tCons (tVar 5) tNil)) (tC (.int 1)))) tNoPart) (tCons (tOp (rAddU K) (tOp (rAddU K) (tC (.int 3)) (tCB (rLenU K) (tCons (tVar 1) tNil))) (tCB (rLenU K) (tCons (tVar 5) tNil))) tNil))))))))))))
      (EndsOf Q) [some (.str (S (c :: s))), some (.str (S n)), some (.int (top : Nat)), some (.str (S r)), some (.str (S [en])), a5, a6] G1 := by
    intro G1 g1
    have en256 : en < 256 := by rcases kd with ⟨_, _, rfl⟩ | ⟨_, _, rfl⟩ <;> decide
    refine split_asg (c := en) rfl (fun _ _ q => ⟨_, rfl, q⟩) en256 pr fun G2 g2' => ?_
    have s2 := g1.trans g2'
    unfold lawDig at out
    have pd := pr.cut en
    have ltd : en ∈ r → (cutAt en r).length < r.length := cutAt_lt
    generalize cutAt en r = d at out pd ltd ⊢
    refine ⟨_, rfl, .inl ⟨rfl, _, rfl, ?_⟩⟩
    rw [emp_S]
    by_cases n0 : n = []
    · rw [if_pos (.inl n0), fbad] at out
      exact iteT' (decide_eq_true n0) (iteT' rfl (out G2 s2))
    refine iteF' (decide_eq_false n0) ?_
    refine ⟨_, rfl, .inl ⟨rfl, _, rfl, ?_⟩⟩
    rw [emp_S]
    have tail : ∀ G3, Same H G3 → ¬ (n = [] ∨ (d ≠ [] ∧ isNum top d = false)) → (tSeq (tIfS (tTest (tOp (rNotInU K) (tVar 4) (tVar 3))) (tRet (tC (.str "part"))) tNext)
    (tSeq (tIfS (tTest (tOp (rEqU K) (tVar 5) (tC (.str "")))) (tRet (tC (.str "bad"))) tNext)
    (tSeq (tAsg (tCB (rIntU) (tCons (tVar 5) tNil)) (gName 6))
    (tSeq (tIfS (tTest (tOp (rEqU K) (tOp (rIx K) (tVar 0) (tC (.int 0))) (tC (.str "b")))) (tRet (tTup (tCons (tTup (tCons (tC (.str "back")) (tCons (tVar 1) (tCons (tVar 6) tNil)))) (tCons (tOp (rAddU K) (tOp (rAddU K) (tC (.int 3)) (tCB (rLenU K) (tCons (tVar 1) tNil))) (tCB (rLenU K) (tCons (tVar 5) tNil))) tNil)))) tNext)
    (tRet (tCall (sp_law_first_data K) [] E0 (tCons (tVar 1) (tCons (tVar 6) (tCons (tSl (L2.rSlS) (tVar 3) (tPart (tOp (rAddU K) (tCB (rLenU K) (tCons (tVar 5) tNil)) (tC (.int 1)))) tNoPart) (tCons (tOp (rAddU K) (tOp (rAddU K) (tC (.int 3)) (tCB (rLenU K) (tCons (tVar 1) tNil))) (tCB (rLenU K) (tCons (tVar 5) tNil))) tNil))))))))))
        (EndsOf Q) [some (.str (S (c :: s))), some (.str (S n)), some (.int (top : Nat)), some (.str (S r)), some (.str (S [en])), some (.str (S d)), a6] G3 := by
      intro G3 s3 nb
      rw [if_neg nb] at out
      refine ⟨_, rfl, _, rfl, .inr ⟨en, S r, rfl, rfl, _, rfl, ?_⟩⟩
      have een : (!decide (en ∈ (S r).cps.toList)) = !decide (en ∈ r) := rfl
      rw [een]
      by_cases hen : en ∈ r
      rotate_left
      · rw [if_pos hen, fpart] at out
        exact iteT' (by rw [decide_eq_false hen]; rfl) (out G3 s3)
      rw [if_neg (not_not_intro hen)] at out
      refine iteF' (by rw [decide_eq_true hen]; rfl) ?_
      refine ⟨_, rfl, .inl ⟨rfl, _, rfl, ?_⟩⟩
      rw [emp_S]
      by_cases d0 : d = []
      · rw [if_pos d0, fbad] at out
        exact iteT' (decide_eq_true d0) (out G3 s3)
      rw [if_neg d0] at out
      refine iteF' (decide_eq_false d0) ?_
      have num : isNum top d = true := by
        cases h : isNum top d with
        | true => rfl
        | false => exact absurd (.inr ⟨d0, h⟩) nb
      obtain ⟨_, i1, i2, i3⟩ := isNum_digs num
      refine ⟨_, rfl, .inr ⟨S d, _, rfl, SX.int_S i2 d0 (by omega), by rw [len_S]; omega, ?_⟩⟩
      dsimp only [gName]
      have e98 : (V.str "b" : V) = V.str (S [98]) := rfl
      refine ⟨_, rfl, .inr (.inr ⟨S (c :: s), (0 : Nat), c, rfl, rfl, ps.fits.le, atI_nat (j := 0) rfl, .inl ⟨rfl, _, rfl, ?_⟩⟩)⟩
      rw [e98, one_S]
      have lr : d.length < r.length := ltd hen
      have lrs : r.length = s.length - (n.length + 1) := by rw [← hr, List.length_drop]
      rcases kd with ⟨rfl, rfl, rfl⟩ | ⟨rfl, rfl, rfl⟩
      · have out : LOut ((lawBody (NumText.digitsVal d) (r.drop (d.length + 1))).bind fun y u => Rd.got (Fr.data n y.1 y.2.1 y.2.2) u) (∀ H', Same H H' → Q (.str "bad") H') (∀ H', Same H H' → Q (.str "part") H')
          (fun g u => ∀ (p q : Addr) (m : Nat) H', Same H H' → FrO H' q g → m ≤ (100 :: s).length → (100 :: s).drop m = u → H' p = some (.tup [.ref q, .int (m : Nat)]) → Q (.ref p) H') := out
        refine iteF' (by decide) ?_
        refine ⟨_, rfl, _, rfl, _, rfl, _, rfl, .inl ⟨_, d.length, rfl, len_of pd.fits, .inl ⟨_, _, rfl, rfl, _, rfl, S r, rfl, pr.fits.le, ?_⟩⟩⟩
        have ec3 : cutS (S r) (some ((d.length : Int) + 1)) none = S (r.drop (d.length + 1)) := cut_fr r (d.length + 1)
        dsimp only
        rw [ec3]
        refine ⟨_, rfl, .inl ⟨_, n.length, rfl, len_of pn.fits, .inl ⟨_, _, rfl, rfl, _, rfl, .inl ⟨_, d.length, rfl, len_of pd.fits, .inl ⟨_, _, rfl, rfl, ?_⟩⟩⟩⟩⟩
        have ea : ((3 : Int) + (n.length : Int) + (d.length : Int)) = ((3 + n.length + d.length : Nat) : Int) := by omega
        dsimp only
        rw [ea]
        refine ⟨n, NumText.digitsVal d, r.drop (d.length + 1), 3 + n.length + d.length, rfl, pr.suf (Suf.drop _ _), i3, ?_⟩
        cases hb : lawBody (NumText.digitsVal d) (r.drop (d.length + 1)) with
        | bad => rw [hb] at out; exact fun H4 s4 => out H4 (s3.trans s4)
        | part => rw [hb] at out; exact fun H4 s4 => out H4 (s3.trans s4)
        | got y u =>
          rw [hb] at out
          intro p q m H4 s4 fo ml md hp
          have hr2 : (100 :: s).drop (n.length + 2) = r := by rw [← hr]; rfl
          refine out p q (3 + n.length + d.length + m) H4 (s3.trans s4) fo ?_ ?_ hp
          · rw [List.length_drop] at ml
            rw [List.length_cons]
            omega
          · rw [show 3 + n.length + d.length + m = (n.length + 2) + ((d.length + 1) + m) by omega, ← List.drop_drop, hr2, ← List.drop_drop]
            exact md
      · have out : ∀ (p q : Addr) (m : Nat) H', Same H H' → FrO H' q (.back n (NumText.digitsVal d)) → m ≤ (98 :: s).length → (98 :: s).drop m = r.drop (d.length + 1) → H' p = some (.tup [.ref q, .int (m : Nat)]) → Q (.ref p) H' := out
        refine iteT' (by decide) ?_
        refine ⟨_, rfl, _, rfl, two_fit.2.2.1, fun q hq => ⟨_, rfl, .inl ⟨_, n.length, rfl, len_of pn.fits, .inl ⟨_, _, rfl, rfl, _, rfl, .inl ⟨_, d.length, rfl, len_of pd.fits, .inl ⟨_, _, rfl, rfl, two_fit.2.1, fun p hp => ?_⟩⟩⟩⟩⟩⟩
        have hr2 : (98 :: s).drop (n.length + 2) = r := by rw [← hr]; rfl
        refine out p q (3 + n.length + d.length) _ ((s3.trans (same_new hq)).trans (same_new hp)) (same_new hp _ _ upd_same) ?_ ?_ ?_
        · rw [List.length_cons]
          omega
        · rw [show 3 + n.length + d.length = (n.length + 2) + (d.length + 1) by omega, ← List.drop_drop, hr2]
        · rw [upd_same]
          dsimp only
          rw [show ((3 : Int) + (n.length : Int) + (d.length : Int)) = ((3 + n.length + d.length : Nat) : Int) by omega]
    by_cases d0 : d = []
    · exact iteF' (by rw [decide_eq_true d0]; rfl) (iteF' rfl (tail G2 s2 (by simp [n0, d0])))
    refine iteT' (by rw [decide_eq_false d0]; rfl) ?_
    refine ⟨_, rfl, _, rfl, d, top, rfl, pd, fun G3 g3 => ⟨_, rfl, ?_⟩⟩
    cases num : isNum top d with
    | false =>
      rw [if_pos (.inr ⟨d0, num⟩), fbad] at out
      exact iteT' rfl (out G3 (s2.trans g3))
    | true => exact iteF' rfl (tail G3 (s2.trans g3) (by simp [n0, num]))
  rcases kd with ⟨rfl, rfl, rfl⟩ | ⟨rfl, rfl, rfl⟩
  · exact iteT' (by decide) (mid G s1)
  · exact iteF' (by decide) (mid G s1)
theorem rd_law_first (h : sp_law_first K vs H Q E) : t_law_first K (EndsOf Q) (start ["", "", "", "", "", "", ""] vs) H := by
  obtain ⟨c, s, rfl, ps, out⟩ := h
  have ps' := ps.suf (Suf.cons c s)
  rw [reads c s fun m => (ps'.2 37 m).2 rfl] at out
  have e100 : (V.str "d" : V) = V.str (S [100]) := rfl
  have ec : cutS (S (c :: s)) (some 1) none = S s := cut_fr (c :: s) 1
  refine ⟨_, rfl, _, rfl, S (c :: s), rfl, ps.fits.le, ?_⟩
  dsimp only
  rw [ec]
  refine ⟨⟨_, rfl⟩, S s, S [44], rfl, rfl, rfl, ps'.two, fun p hp => .inl ⟨p, _, (0 : Nat), .str (S (cutAt 44 s)), rfl, rfl, SqL.of upd_same, atI_nat (split0 (by decide)), ?_⟩⟩
  have s1 := same_new (o := .lst ((Txt.split (S s) (S [44])).map V.str)) hp
  generalize upd H p (.lst ((Txt.split (S s) (S [44])).map V.str)) = G at s1 ⊢
  have pn := ps'.cut 44
  generalize en_ : cutAt 44 s = n at pn ⊢
  refine ⟨_, rfl, .inr (.inr ⟨S (c :: s), (0 : Nat), c, rfl, rfl, ps.fits.le, atI_nat (j := 0) rfl, .inl ⟨rfl, _, rfl, ?_⟩⟩)⟩
  rw [e100, one_S]
  have ebd : (!decide (c ∈ ("bd" : Str).cps.toList)) = !decide (c = 98 ∨ c = 100) := by
    have : (c ∈ ("bd" : Str).cps.toList) ↔ (c = 98 ∨ c = 100) := by
      show c ∈ [98, 100] ↔ _
      simp
    rw [decide_eq_decide.mpr this]
  have mid : ∀ top en : Nat, (c = 98 ∨ c = 100) → Kind c top en → LOut (lawFr c (lawHead top en s)) (∀ H', Same H H' → Q (.str "bad") H') (∀ H', Same H H' → Q (.str "part") H')
      (fun g u => ∀ (p q : Addr) (m : Nat) H', Same H H' → FrO H' q g → m ≤ (c :: s).length → (c :: s).drop m = u → H' p = some (.tup [.ref q, .int (m : Nat)]) → Q (.ref p) H') →
      (tSeq (tIfS (tOr (tTest (tOp (rNotInU K) (tOp (rIx K) (tVar 0) (tC (.int 0))) (tC (.str "bd")))) (tAnd (tTest (tOp (rNeU K) (tVar 1) (tC (.str "")))) (tNot (tB (tCall (sp_law_is_word K) [] E0 (tCons (tVar 1) tNil)))))) (tRet (tC (.str "bad"))) tNext) (first_rest K))
        (EndsOf Q) [some (.str (S (c :: s))), some (.str (S n)), some (.int (top : Nat)), none, none, none, none] G := by
    intro top en cc kd out
    have fbad : lawFr c .bad = .bad := by unfold lawFr; split <;> rfl
    unfold lawHead at out
    rw [en_] at out
    refine ⟨_, rfl, .inr (.inr ⟨S (c :: s), (0 : Nat), c, rfl, rfl, ps.fits.le, atI_nat (j := 0) rfl, .inr ⟨c, "bd", rfl, rfl, _, rfl, ?_⟩⟩)⟩
    rw [ebd, decide_eq_true cc]
    refine iteF' rfl ?_
    refine ⟨_, rfl, .inl ⟨rfl, _, rfl, ?_⟩⟩
    rw [emp_S]
    by_cases n0 : n = []
    · rw [if_neg (fun z => z.1 n0)] at out
      exact iteF' (by rw [decide_eq_true n0]; rfl) (iteF' rfl (rd_first_rest kd ps en_.symm s1 out))
    refine iteT' (by rw [decide_eq_false n0]; rfl) ?_
    refine ⟨_, rfl, n, rfl, pn, fun G2 g2 => ⟨_, rfl, ?_⟩⟩
    cases w : isWord n with
    | false =>
      rw [if_pos ⟨n0, w⟩, fbad] at out
      exact iteT' rfl (out G2 (s1.trans g2))
    | true =>
      rw [if_neg (fun z => by rw [w] at z; exact nomatch z.2)] at out
      exact iteF' rfl (rd_first_rest kd ps en_.symm (s1.trans g2) out)
  by_cases c1 : c = 100
  · rw [if_pos c1] at out
    refine iteT' (decide_eq_true c1) ⟨_, _, rfl, ?_⟩
    refine mid 200 44 (.inr c1) (.inl ⟨c1, rfl, rfl⟩) ?_
    unfold lawFr
    rw [if_pos c1]
    exact out
  rw [if_neg c1] at out
  refine iteF' (decide_eq_false c1) ⟨_, _, rfl, rfl, ⟨by decide, by decide, by decide⟩, _, _, rfl, ?_⟩
  by_cases c2 : c = 98
  · rw [if_pos c2] at out
    refine mid (10 ^ 39) 59 (.inl c2) (.inr ⟨c2, rfl, rfl⟩) ?_
    unfold lawFr
    rw [if_neg c1]
    exact out
  · rw [if_neg c2] at out
    refine ⟨_, rfl, .inr (.inr ⟨S (c :: s), (0 : Nat), c, rfl, rfl, ps.fits.le, atI_nat (j := 0) rfl, .inr ⟨c, "bd", rfl, rfl, _, rfl, ?_⟩⟩)⟩
    rw [ebd, decide_eq_false (by simp [c1, c2])]
    exact iteT' rfl (iteT' rfl (out G s1))
theorem read_good : ∀ (n : Nat) (s : List Nat) (fs : List Fr) (r : List Nat), readR n s = some (fs, r) → (∀ f ∈ fs, f.ok) ∧ fs.length * 5 ≤ s.length ∧ Suf r s
  | 0, _, _, _, h => nomatch h
  | _ + 1, [], _, _, h => by cases h; exact ⟨fun f m => (nomatch m), Nat.zero_le _, ⟨[], rfl⟩⟩
  | n + 1, c :: s, fs, r, h => by
    have h : (match frameR (c :: s) with
      | .bad => none
      | .part => some ([], c :: s)
      | .got f t => (readR n t).map fun x => (f :: x.1, x.2)) = some (fs, r) := h
    cases hf : frameR (c :: s) with
    | bad => rw [hf] at h; exact nomatch h
    | part => rw [hf] at h; cases h; exact ⟨fun f m => (nomatch m), Nat.zero_le _, ⟨[], rfl⟩⟩
    | got g t =>
      rw [hf] at h
      obtain ⟨ok, c0, u, eu, su, l4⟩ := frame_got hf
      dsimp only at h
      cases hr : readR n t with
      | none => rw [hr] at h; exact nomatch h
      | some x =>
        rw [hr] at h
        obtain ⟨fs', r'⟩ := x
        cases h
        obtain ⟨o, l, sf⟩ := read_good n t fs' r' hr
        have q := congrArg List.length eu
        rw [List.length_cons] at q
        have su2 : Suf t (c :: s) := by rw [eu]; exact su.trans (Suf.cons c0 u)
        have q2 : (c :: s).length = s.length + 1 := rfl
        have q3 : (c0 :: u).length = u.length + 1 := rfl
        refine ⟨fun f m => ?_, by show (fs'.length + 1) * 5 ≤ _; omega, sf.trans su2⟩
        rcases List.mem_cons.mp m with rfl | m
        · exact ok
        · exact o f m
def sp_law_read (K : PySem.W.Frag) : Sp := fun vs H Q _ => ∃ t : List Nat, vs = [.str (S t)] ∧ Plain t ∧ OutR (readR (t.length + 1) t) (∀ H', Same H H' → Q .non H') (GotR H Q)
def t_law_read (K : PySem.W.Frag) : TS :=
  (tSeq (tAsg (tLst tNil) (gName 1))
    (tSeq (tWhile (tTest (tOp (rNeU K) (tVar 0) (tC (.str "")))) (tSeq (tAsg (tCall (sp_law_first K) [] E0 (tCons (tVar 0) tNil)) (gName 2))
    (tSeq (tIfS (tTest (tOp (rEqU K) (tVar 2) (tC (.str "bad")))) (tRet (tC .non)) tNext)
    (tSeq (tIfS (tTest (tOp (rEqU K) (tVar 2) (tC (.str "part")))) (tRet (tTup (tCons (tVar 1) (tCons (tVar 0) tNil)))) tNext)
    (tSeq (tDrop (tBM K "list" rAppend (tVar 1) (tCons (tOp (rIx K) (tVar 2) (tC (.int 0))) tNil)))
    (tAsg (tSl (L2.rSlS) (tVar 0) (tPart (tOp (rIx K) (tVar 2) (tC (.int 1)))) tNoPart) (gName 0)))))))
    (tRet (tTup (tCons (tVar 1) (tCons (tC (.str "")) tNil))))))
theorem ln_law_read (h : sp_law_read K vs H Q E) : vs.length = 1 := by obtain ⟨_, rfl, _⟩ := h; rfl
theorem rd_law_read (h : sp_law_read K vs H Q E) : t_law_read K (EndsOf Q) (start ["", "", ""] vs) H := by
  obtain ⟨L, rfl, pl, out⟩ := h
  refine ⟨Nat.zero_le _, fun q hq => ?_⟩
  refine ⟨fun m σ G => ∃ (done : List Fr) (as : List Addr) (s2 : Option V) (s : List Nat) (n : Nat), m = s.length ∧ Plain s ∧ s.length < n ∧ done.length + s.length ≤ L.length ∧ σ = [some (.str (S s)), some (.ref q), s2] ∧ Same H G ∧ G q = some (.lst (as.map V.ref)) ∧ FrsO G as done ∧
    readR (L.length + 1) L = (readR n s).map fun x => (done ++ x.1, x.2), ⟨_, [], [], none, L, L.length + 1, rfl, pl, by omega, by simp, rfl, same_new hq, upd_same, ⟨rfl, fun j a f e => nomatch e⟩, ?_⟩, ?_⟩
  · cases readR (L.length + 1) L <;> rfl
  rintro m σ G ⟨done, as, s2, s, n, rfl, ps, sn, ds, rfl, sm, hG, fo, er⟩
  refine ⟨_, rfl, .inl ⟨rfl, _, rfl, ?_⟩⟩
  rw [emp_S]
  obtain ⟨n, rfl⟩ : ∃ k, n = k + 1 := ⟨n - 1, by omega⟩
  cases s with
  | nil =>
    refine iteF' (by rw [decide_eq_true rfl]; rfl) ?_
    have e1 : readR (n + 1) [] = some ([], []) := rfl
    rw [e1] at er
    rw [er] at out
    have out : GotR H Q (done ++ []) [] := out
    rw [List.append_nil] at out
    refine ⟨_, rfl, two_fit.2.1, fun p hp => ?_⟩
    have sp := same_new (o := .tup [.ref q, .str ""]) hp
    exact out p q as _ (sm.trans sp) upd_same (sp _ _ hG) ⟨fo.1, fun j a f e1 e2 => (fo.2 j a f e1 e2).same sp⟩
  | cons c s =>
    refine iteT' (by rw [decide_eq_false (by simp)]; rfl) ?_
    refine ⟨fun σ' G' => ∃ m', m' < (c :: s).length ∧ ∃ (done : List Fr) (as : List Addr) (s2 : Option V) (s : List Nat) (n : Nat), m' = s.length ∧ Plain s ∧ s.length < n ∧ done.length + s.length ≤ L.length ∧ σ' = [some (.str (S s)), some (.ref q), s2] ∧ Same H G' ∧ G' q = some (.lst (as.map V.ref)) ∧ FrsO G' as done ∧
      readR (L.length + 1) L = (readR n s).map fun x => (done ++ x.1, x.2), fun σ' G' h => h, ?_⟩
    refine ⟨_, rfl, c, s, rfl, ps, ?_⟩
    have e1 : readR (n + 1) (c :: s) = (match frameR (c :: s) with
      | .bad => none
      | .part => some ([], c :: s)
      | .got f t => (readR n t).map fun x => (f :: x.1, x.2)) := rfl
    cases hf : frameR (c :: s) with
    | bad =>
      rw [hf] at e1
      rw [e1] at er
      rw [er] at out
      exact fun H1 s1 => ⟨_, rfl, .inl ⟨rfl, _, rfl, iteT' (decide_eq_true rfl) (out H1 (sm.trans s1))⟩⟩
    | part =>
      rw [hf] at e1
      rw [e1] at er
      rw [er] at out
      have out : GotR H Q (done ++ []) (c :: s) := out
      rw [List.append_nil] at out
      refine fun H1 s1 => ⟨_, rfl, .inl ⟨rfl, _, rfl, iteF' (by decide +kernel) ⟨_, rfl, .inl ⟨rfl, _, rfl, iteT' (decide_eq_true rfl) ?_⟩⟩⟩⟩
      refine ⟨_, rfl, _, rfl, two_fit.2.1, fun p hp => ?_⟩
      have sp := s1.trans (same_new (o := .tup [.ref q, .str (S (c :: s))]) hp)
      exact out p q as _ (sm.trans sp) upd_same (sp _ _ hG) ⟨fo.1, fun j a f e1 e2 => (fo.2 j a f e1 e2).same sp⟩
    | got g t =>
      rw [hf] at e1
      rw [e1] at er
      obtain ⟨ok, c0, u, eu, su, l4⟩ := frame_got hf
      intro p a m H1 s1 hfo ml md hp
      have lu := congrArg List.length eu
      rw [List.length_cons, List.length_cons] at lu
      have m100 : ((m : Nat) : Int).natAbs ≤ 10 ^ 100 := by
        have z : (50000 : Nat) ≤ 10 ^ 100 := by decide +kernel
        have := ps.1
        omega
      have sh := ((gt_tuple (at_cons (fr_good ok) (at_cons (gt_int m100) at_nil))).good (by decide) (by decide)).sh
      have dp : Dp K H1 (.ref p) (.tuple [g.pd, .int (m : Nat)]) := .tup (SqT.of hp) (.cons hfo.dp (.cons (.int _) .nil))
      refine ⟨_, rfl, .inr ⟨_, _, dp, .str _, sh, by decide +kernel, _, rfl, iteF' rfl ?_⟩⟩
      refine ⟨_, rfl, .inr ⟨_, _, dp, .str _, sh, by decide +kernel, _, rfl, iteF' rfl ?_⟩⟩
      have hG1 := s1 _ _ hG
      have npq : p ≠ q := ne_of hp hG1 fun z => nomatch z
      refine ⟨_, rfl, .inl ⟨rfl, _, SqL.of hG1⟩, _, rfl, .inr (.inl ⟨p, _, (0 : Nat), .ref a, rfl, rfl, SqT.of hp, atI_nat (j := 0) rfl, q, as.map V.ref, .ref a, rfl, rfl, hG1, ?_, ?_⟩)⟩
      · rw [List.length_map, fo.1]
        have : (100000 : Nat) < sizeLine := by rw [sizeLine_eq]; decide
        have := pl.1
        omega
      refine ⟨_, rfl, _, rfl, .inr (.inl ⟨p, _, (1 : Nat), .int (m : Nat), rfl, rfl, SqT.of (by rw [upd_ne npq]; exact hp), atI_nat (j := 1) rfl, _, rfl, S (c :: s), rfl, ps.fits.le, ?_⟩)⟩
      rw [cut_fr, md]
      have tl : t.length < (c :: s).length := by rw [List.length_cons]; omega
      refine ⟨t.length, tl, done ++ [g], as ++ [a], _, t, n, rfl, ?_, by omega, ?_, rfl, fun b o e => ?_, ?_, ?_, ?_⟩
      · exact ps.suf (by rw [eu]; exact su.trans (Suf.cons c0 u))
      · rw [List.length_append, List.length_singleton]
        rw [List.length_cons] at ds tl
        omega
      · rw [upd_ne (ne_of_none e hq)]
        exact s1 _ _ (sm _ _ e)
      · rw [upd_same, List.map_append]
        rfl
      · have fo1 : FrsO H1 as done := ⟨fo.1, fun j a f e1 e2 => (fo.2 j a f e1 e2).same s1⟩
        have fo2 := fo1.snoc hfo
        exact ⟨fo2.1, fun j x y e1 e2 => (fo2.2 j x y e1 e2).upd hG1⟩
      · rw [er, Option.map_map]
        congr 1
        funext x
        simp
/-! ### the law's question -/
structure FxB (K : PySem.W.Frag) (C : Cs) : Prop where
  em : PySem.W.exmOne K (.ref C.BadFrame) (.ref C.PipeError) = some true
  ex : ExcC K C.BadFrame
  nt : PySem.W.kitOne K (.ref C.BadFrame) (.ref C.NoText) = some false
def sp_law_told (K : PySem.W.Frag) (C : Cs) : Sp := fun vs H Q _ => FxB K C ∧ ((∃ L : List Nat, vs = [.str (S L)] ∧ Fits L ∧ OutR (readR (L.length + 1) L) (∀ H', Same H H' → Q (.str "bad") H') (GotR H Q)) ∨
  ∃ v t, vs = [v] ∧ TyX K H v t ∧ PySem.W.kitOne K t (.type "str") = some false ∧ Q (.str "bad") H)
def t_law_told (K : PySem.W.Frag) (C : Cs) : TS :=
  (tTryAs K (.ref C.PipeError) 1 (fun W => (tRet (tCallS (sp_read_framesX K C) (WE W) (tCons (tVar 0) tNil)))) (fun a cls d => (tRet (tIf (tAnd (tB (tCB (rIsC K a cls d) (tCons (tVar 1) (tCons (tC (.ref C.BadFrame)) tNil)))) (tNot (tB (tCB (rIsC K a cls d) (tCons (tVar 1) (tCons (tC (.ref C.NoText)) tNil)))))) (tC (.str "bad")) (tC (.str "other"))))))
theorem ln_law_told (h : sp_law_told K C vs H Q E) : vs.length = 1 := by
  rcases h with ⟨_, ⟨_, rfl, _⟩ | ⟨_, _, rfl, _⟩⟩ <;> rfl
theorem rd_law_told (h : sp_law_told K C vs H Q E) : t_law_told K C (EndsOf Q) (start ["", ""] vs) H := by
  obtain ⟨fx, h⟩ := h
  have out : ∀ (v : V) H', Q (.str "bad") H' → wAs K (.ref C.PipeError) 1 (fun a cls d => (tRet (tIf (tAnd (tB (tCB (rIsC K a cls d) (tCons (tVar 1) (tCons (tC (.ref C.BadFrame)) tNil)))) (tNot (tB (tCB (rIsC K a cls d) (tCons (tVar 1) (tCons (tC (.ref C.NoText)) tNil)))))) (tC (.str "bad")) (tC (.str "other")))))
      (fun _ _ _ _ => False) (EndsOf Q) (.ref C.BadFrame) none [some v, none] H' := by
    intro v H' q
    refine ⟨true, fx.em, fun _ a ha => ?_, fun z => nomatch z⟩
    refine ⟨_, rfl, ⟨_, _, true, C.BadFrame, rfl, rfl, fx.ex, .inl rfl, .own _, kit_same, true, rfl, iteT' rfl ?_⟩⟩
    exact ⟨_, rfl, ⟨_, _, false, C.BadFrame, rfl, rfl, fx.ex, .inl rfl, .own _, fx.nt, false, rfl, iteT' rfl q⟩⟩
  rcases h with ⟨L, rfl, f, o⟩ | ⟨v, t, rfl, ty, kt, o⟩
  · refine ⟨_, rfl, .inl ⟨L, rfl, f, ?_⟩⟩
    cases hr : readR (L.length + 1) L with
    | none =>
      rw [hr] at o
      exact fun H' s => out _ H' (o H' s)
    | some x =>
      rw [hr] at o
      exact o
  · exact ⟨_, rfl, .inr ⟨v, t, rfl, ty, kt, out _ H o⟩⟩
/-! ### texts with something put otherwise -/
def Asc (t : List Nat) : Prop := ∀ c ∈ t, c ≤ 126 ∧ c ≠ 37
theorem Asc.app {a b : List Nat} (h : Asc a) (g : Asc b) : Asc (a ++ b) := fun c m => (List.mem_append.mp m).elim (h c) (g c)
theorem Asc.take {a : List Nat} (h : Asc a) (n : Nat) : Asc (a.take n) := fun c m => h c (List.mem_of_mem_take m)
theorem Asc.drop {a : List Nat} (h : Asc a) (n : Nat) : Asc (a.drop n) := fun c m => h c (List.mem_of_mem_drop m)
theorem asc_of {l : List Nat} (h : (l.all fun c => decide (c ≤ 126) && decide (c ≠ 37)) = true) : Asc l := fun c m => by
  have := List.all_eq_true.mp h c m
  simp only [Bool.and_eq_true, decide_eq_true_eq] at this
  exact this
theorem add_L {a b : List Nat} (h : (a ++ b).length ≤ 100000) (k : Q (.str (S (a ++ b))) H) : rAddU K (.str (S a)) (.str (S b)) H Q :=
  .inr (.inl ⟨S a, S b, rfl, rfl, by
    have : (100000 : Nat) < sizeLine := by rw [sizeLine_eq]; decide
    rw [← len_S] at h
    rw [← Str.length_append, app_S]
    omega, by rw [app_S]; exact k⟩)
def sp_law_bent (K : PySem.W.Frag) : Sp := fun vs H Q _ => ∃ (b l : Addr) (t : List Nat) (m : Nat), vs = [.ref b, .str (S t)] ∧ Bag H b l ∧ Asc t ∧ t.length ≤ m ∧ m ≤ 40000 ∧ ∀ u H', Asc u → u.length ≤ m + 6000 → Bag H' b l → Kp b H H' → Q (.str (S u)) H'
def t_law_bent (K : PySem.W.Frag) : TS :=
  (tSeq (tPar 2 3 (tCons (tCall (sp_law_take K) [] E0 (tCons (tVar 0) (tCons (tOp (rAddU K) (tCB (rLenU K) (tCons (tVar 1) tNil)) (tC (.int 1))) tNil))) (tCons (tCall (sp_law_take K) [] E0 (tCons (tVar 0) (tCons (tC (.int 7)) tNil))) tNil)))
    (tSeq (tAsg (tC (.str "bd,;:we0129 ~Zaz\n")) (gName 4))
    (tSeq (tAsg (tOp (rIx K) (tVar 4) (tCall (sp_law_take K) [] E0 (tCons (tVar 0) (tCons (tC (.int 17)) tNil)))) (gName 5))
    (tSeq (tIfS (tTest (tOp (rEqU K) (tVar 3) (tC (.int 0)))) (tRet (tOp (rAddU K) (tSl (L2.rSlS) (tVar 1) tNoPart (tPart (tVar 2))) (tSl (L2.rSlS) (tVar 1) (tPart (tOp (rAddU K) (tVar 2) (tC (.int 1)))) tNoPart))) tNext)
    (tSeq (tIfS (tTest (tOp (rEqU K) (tVar 3) (tC (.int 1)))) (tRet (tOp (rAddU K) (tOp (rAddU K) (tSl (L2.rSlS) (tVar 1) tNoPart (tPart (tVar 2))) (tVar 5)) (tSl (L2.rSlS) (tVar 1) (tPart (tVar 2)) tNoPart))) tNext)
    (tSeq (tIfS (tTest (tOp (rEqU K) (tVar 3) (tC (.int 2)))) (tRet (tOp (rAddU K) (tOp (rAddU K) (tSl (L2.rSlS) (tVar 1) tNoPart (tPart (tVar 2))) (tVar 5)) (tSl (L2.rSlS) (tVar 1) (tPart (tOp (rAddU K) (tVar 2) (tC (.int 1)))) tNoPart))) tNext)
    (tSeq (tIfS (tTest (tOp (rEqU K) (tVar 3) (tC (.int 3)))) (tRet (tSl (L2.rSlS) (tVar 1) tNoPart (tPart (tVar 2)))) tNext)
    (tSeq (tAsg (tOp (rIx K) (tLst (tCons (tC (.str ",")) (tCons (tC (.str "w")) (tCons (tC (.str ":")) (tCons (tC (.str "e")) (tCons (tC (.str ";")) tNil)))))) (tCall (sp_law_take K) [] E0 (tCons (tVar 0) (tCons (tC (.int 5)) tNil)))) (gName 6))
    (tSeq (tAsg (tLst (tCons (tC (.str ",0")) (tCons (tC (.str "ew")) (tCons (tC (.str ":e")) (tCons (tC (.str "")) (tCons (tC (.str ",201,")) (tCons (tC (.str ",200,")) (tCons (tOp (rAddU K) (tOp (rAddU K) (tC (.str ",")) (tOp (rMulU K) (tC (.str "7")) (tOp (rAddU K) (tC (.int 38)) (tCall (sp_law_take K) [] E0 (tCons (tVar 0) (tCons (tC (.int 4)) tNil)))))) (tC (.str ";"))) (tCons (tC (.str "abcdefghi")) tNil))))))))) (gName 7))
    (tSeq (tAsg (tOp (rAddU K) (tVar 7) (tLst (tCons (tC (.str "")) (tCons (tC (.str ";;")) (tCons (tC (.str "ww")) (tCons (tOp (rAddU K) (tC (.str ",")) (tOp (PkC.rRepS2) (tC (.str "9")) (tC (.int 5000)))) tNil)))))) (gName 7))
    (tSeq (tAsg (tCB (rMax2) (tCons (tC (.int 0)) (tCons (tBM K "str" PkC.rFind3 (tVar 1) (tCons (tVar 6) (tCons (tVar 2) tNil))) tNil))) (gName 8))
    (tRet (tOp (rAddU K) (tOp (rAddU K) (tSl (L2.rSlS) (tVar 1) tNoPart (tPart (tVar 8))) (tOp (rIx K) (tVar 7) (tCall (sp_law_take K) [] E0 (tCons (tVar 0) (tCons (tC (.int 12)) tNil))))) (tSl (L2.rSlS) (tVar 1) (tPart (tOp (rAddU K) (tVar 8) (tC (.int 1)))) tNoPart))))))))))))))
theorem ln_law_bent (h : sp_law_bent K vs H Q E) : vs.length = 2 := by obtain ⟨_, _, _, _, rfl, _⟩ := h; rfl
abbrev sgB : List Nat := [98, 100, 44, 59, 58, 119, 101, 48, 49, 50, 57, 32, 126, 90, 97, 122, 10]
theorem rd_law_bent (h : sp_law_bent K vs H Q E) : t_law_bent K (EndsOf Q) (start ["", "", "", "", "", "", "", "", ""] vs) H := by
  obtain ⟨b, l, t, m, rfl, B, at_, lm, m4, k⟩ := h
  have ft : Fits t := by unfold Fits; omega
  have b100 : ((t.length : Int) + 1) ≤ 10 ^ 100 := by
    have z : (50000 : Int) ≤ 10 ^ 100 := by decide
    omega
  refine ⟨_, rfl, _, rfl, .inl ⟨_, t.length, rfl, len_of ft, .inl ⟨_, _, rfl, rfl, b, l, (t.length : Int) + 1, rfl, B, by omega, b100, fun at0 H1 a0 a1 B1 k1 => ?_⟩⟩⟩
  refine ⟨_, rfl, b, l, 7, rfl, B1, by decide, by decide, fun way H2 w0 w1 B2 k2 => ⟨_, _, rfl, ?_⟩⟩
  obtain ⟨i, rfl⟩ : ∃ i : Nat, at0 = i := ⟨at0.toNat, by omega⟩
  have il : i ≤ t.length := by omega
  have k12 := k1.trans k2
  clear B B1 k1 k2 a0 a1 b100
  refine ⟨_, rfl, _, rfl, b, l, 17, rfl, B2, by decide, by decide, fun z H3 z0 z1 B3 k3 => ?_⟩
  have k13 := k12.trans k3
  obtain ⟨sg, hsg, msg⟩ := drawnS (l := sgB) z0 (by show z < 17; exact z1)
  refine .inr (.inr ⟨S sgB, z, sg, rfl, rfl, S_fit (by decide), hsg, ?_⟩)
  have asg : Asc [sg] := fun c mc => by
    rw [List.mem_singleton.mp mc]
    exact asc_of (l := sgB) (by decide) sg msg
  clear B2 k12 k3 hsg msg z0 z1
  have eto : cutS (S t) none (some (i : Int)) = S (t.take i) := cut_to il
  have efr : cutS (S t) (some (i : Int)) none = S (t.drop i) := cut_fr t i
  have efr1 : cutS (S t) (some ((i : Int) + 1)) none = S (t.drop (i + 1)) := cut_fr t (i + 1)
  have lt1 : (t.take i).length = i := by rw [List.length_take]; omega
  have lt2 : (t.drop i).length = t.length - i := by rw [List.length_drop]
  have lt3 : (t.drop (i + 1)).length = t.length - (i + 1) := by rw [List.length_drop]
  refine ⟨_, rfl, .inl ⟨rfl, _, rfl, ?_⟩⟩
  refine ifI (fun _ => ?_) (fun _ => ?_)
  · refine ⟨_, rfl, _, rfl, _, rfl, S t, rfl, ft.le, ?_⟩
    refine ⟨_, rfl, _, rfl, .inl ⟨_, _, rfl, rfl, _, rfl, S t, rfl, ft.le, ?_⟩⟩
    dsimp only
    rw [eto, efr1]
    exact add_L (by rw [List.length_append]; omega) (k _ _ ((at_.take i).app (at_.drop (i + 1))) (by rw [List.length_append]; omega) B3 k13)
  refine ⟨_, rfl, .inl ⟨rfl, _, rfl, ?_⟩⟩
  refine ifI (fun _ => ?_) (fun _ => ?_)
  · refine ⟨_, rfl, _, rfl, _, rfl, S t, rfl, ft.le, ?_⟩
    dsimp only
    rw [eto]
    refine ⟨_, rfl, ?_⟩
    refine add_L (b := [sg]) (by rw [List.length_append, List.length_singleton]; omega) ?_
    refine ⟨_, rfl, _, rfl, _, rfl, S t, rfl, ft.le, ?_⟩
    dsimp only
    rw [efr]
    exact add_L (by rw [List.length_append, List.length_append, List.length_singleton]; omega) (k _ _ (((at_.take i).app asg).app (at_.drop i)) (by rw [List.length_append, List.length_append, List.length_singleton]; omega) B3 k13)
  refine ⟨_, rfl, .inl ⟨rfl, _, rfl, ?_⟩⟩
  refine ifI (fun _ => ?_) (fun _ => ?_)
  · refine ⟨_, rfl, _, rfl, _, rfl, S t, rfl, ft.le, ?_⟩
    dsimp only
    rw [eto]
    refine ⟨_, rfl, ?_⟩
    refine add_L (b := [sg]) (by rw [List.length_append, List.length_singleton]; omega) ?_
    refine ⟨_, rfl, _, rfl, .inl ⟨_, _, rfl, rfl, _, rfl, S t, rfl, ft.le, ?_⟩⟩
    dsimp only
    rw [efr1]
    exact add_L (by rw [List.length_append, List.length_append, List.length_singleton]; omega) (k _ _ (((at_.take i).app asg).app (at_.drop (i + 1))) (by rw [List.length_append, List.length_append, List.length_singleton]; omega) B3 k13)
  refine ⟨_, rfl, .inl ⟨rfl, _, rfl, ?_⟩⟩
  refine ifI (fun _ => ?_) (fun _ => ?_)
  · refine ⟨_, rfl, _, rfl, _, rfl, S t, rfl, ft.le, ?_⟩
    dsimp only
    rw [eto]
    exact k _ _ (at_.take i) (by omega) B3 k13
  -- an old sign, a new text
  refine ⟨Nat.le_of_lt (small1000 (show 5 ≤ 1000 by decide)), fun p1 hp1 => ?_⟩
  have s1 := same_new (o := .lst [.str ",", .str "w", .str ":", .str "e", .str ";"]) hp1
  refine ⟨_, rfl, b, l, 5, rfl, B3.same s1, by decide, by decide, fun y H4 y0 y1 B4 k4 => ?_⟩
  have e1 := k4 _ _ (upd_same (H := H3) (a := p1) (o := .lst [.str ",", .str "w", .str ":", .str "e", .str ";"])) (B3.nb hp1)
  have k14 := k13.trans ((Kp.of s1).trans k4)
  obtain ⟨y, rfl⟩ : ∃ j : Nat, y = j := ⟨y.toNat, by omega⟩
  obtain ⟨old, ho⟩ : ∃ old : Str, ([.str ",", .str "w", .str ":", .str "e", .str ";"] : List V)[y]? = some (.str old) := by
    have : y = 0 ∨ y = 1 ∨ y = 2 ∨ y = 3 ∨ y = 4 := by omega
    rcases this with rfl | rfl | rfl | rfl | rfl <;> exact ⟨_, rfl⟩
  refine .inl ⟨p1, _, y, .str old, rfl, rfl, SqL.of e1, atI_nat ho, ?_⟩
  clear e1 ho s1 k4 k13 B3
  -- the new ones
  refine ⟨_, rfl, b, l, 4, rfl, B4, by decide, by decide, fun x H5 x0 x1 B5 k5 => .inl ⟨_, _, rfl, rfl, .inr (.inl ⟨"7", _, rfl, rfl, by decide, by omega, by omega, ?_⟩)⟩⟩
  have k15 := k14.trans k5
  obtain ⟨x, rfl⟩ : ∃ j : Nat, x = j := ⟨x.toNat, by omega⟩
  have e7 : Txt.mul "7" (38 + (x : Int)) = S ((List.replicate (38 + x) [55]).flatten) := by
    have := mul_S (a := [55]) (n := 38 + x) (by omega) (by simp)
    rw [show (38 + (x : Int)) = ((38 + x : Nat) : Int) by omega]
    exact this
  have r7 : (List.replicate (38 + x) [55]).flatten = List.replicate (38 + x) 55 := by simp
  rw [e7, r7]
  refine add_L (a := [44]) (by rw [List.length_append, List.length_replicate]; show 1 + _ ≤ _; omega) ?_
  refine add_L (b := [59]) (by rw [List.length_append, List.length_append, List.length_replicate]; show 1 + _ + 1 ≤ _; omega) ?_
  generalize hx7 : [44] ++ List.replicate (38 + x) 55 ++ [59] = x7
  have ax7 : Asc x7 ∧ x7.length ≤ 5001 := by
    rw [← hx7]
    refine ⟨((asc_of (by decide)).app fun c mc => ?_).app (asc_of (by decide)), by rw [List.length_append, List.length_append, List.length_replicate]; show 1 + _ + 1 ≤ _; omega⟩
    rw [(List.mem_replicate.mp mc).2]
    decide
  refine ⟨Nat.le_of_lt (small1000 (show 8 ≤ 1000 by decide)), fun p2 hp2 => ?_⟩
  have s2 := same_new (o := .lst [.str ",0", .str "ew", .str ":e", .str "", .str ",201,", .str ",200,", .str (S x7), .str "abcdefghi"]) hp2
  refine ⟨_, rfl, "9", 5000, rfl, rfl, by decide, by decide, by decide, ?_⟩
  have e9 : Txt.mul "9" (5000 : Int) = S (List.replicate 5000 57) := by
    have := mul_S (a := [57]) (n := 5000) (by decide) (by simp)
    have r : (List.replicate 5000 [57]).flatten = List.replicate 5000 57 := by
      rw [← List.flatMap_id, List.flatMap_replicate]
      simp
    rw [r] at this
    exact this
  rw [e9]
  refine add_L (a := [44]) (by rw [List.length_append, List.length_replicate]; show 1 + _ ≤ _; omega) ?_
  generalize hx9 : [44] ++ List.replicate 5000 57 = x9
  have ax9 : Asc x9 ∧ x9.length ≤ 5001 := by
    rw [← hx9]
    refine ⟨(asc_of (by decide)).app fun c mc => ?_, by rw [List.length_append, List.length_replicate]; show 1 + _ ≤ _; omega⟩
    rw [(List.mem_replicate.mp mc).2]
    decide
  refine ⟨Nat.le_of_lt (small1000 (show 4 ≤ 1000 by decide)), fun p3 hp3 => ?_⟩
  have s3 := same_new (o := .lst [.str "", .str ";;", .str "ww", .str (S x9)]) hp3
  refine .inr (.inr (.inl ⟨p2, p3, _, _, rfl, rfl, s3 _ _ upd_same, upd_same, Nat.le_of_lt (small1000 (show 8 + 4 ≤ 1000 by decide)), fun p4 hp4 => ?_⟩))
  have s4 := same_new (o := .lst ([.str ",0", .str "ew", .str ":e", .str "", .str ",201,", .str ",200,", .str (S x7), .str "abcdefghi"] ++ [.str "", .str ";;", .str "ww", .str (S x9)])) hp4
  have e4 := upd_same (H := upd (upd H5 p2 (.lst [.str ",0", .str "ew", .str ":e", .str "", .str ",201,", .str ",200,", .str (S x7), .str "abcdefghi"])) p3 (.lst [.str "", .str ";;", .str "ww", .str (S x9)])) (a := p4) (o := .lst ([.str ",0", .str "ew", .str ":e", .str "", .str ",201,", .str ",200,", .str (S x7), .str "abcdefghi"] ++ [.str "", .str ";;", .str "ww", .str (S x9)]))
  have s24 := s2.trans (s3.trans s4)
  have B6 := B5.same s24
  have n4 : p4 ≠ b := B5.nb ((s2.trans s3).free hp4)
  generalize upd (upd (upd H5 p2 (.lst [.str ",0", .str "ew", .str ":e", .str "", .str ",201,", .str ",200,", .str (S x7), .str "abcdefghi"])) p3 (.lst [.str "", .str ";;", .str "ww", .str (S x9)])) p4 (.lst ([.str ",0", .str "ew", .str ":e", .str "", .str ",201,", .str ",200,", .str (S x7), .str "abcdefghi"] ++ [.str "", .str ";;", .str "ww", .str (S x9)])) = H6 at e4 s24 B6 ⊢
  have k16 := k15.trans (Kp.of s24)
  clear s2 s3 s4 hp2 hp3 hp4 B5 k15 k14 k5 B4
  -- where it lies
  refine ⟨_, rfl, rfl, _, rfl, _, rfl, S t, old, (i : Int), rfl, rfl, 0, _, rfl, ?_⟩
  obtain ⟨f1, f2⟩ := PyProof.Rows.fact_find3 (S t) old (i : Int)
  rw [len_S] at f2
  obtain ⟨j, ej, jl⟩ : ∃ j : Nat, (if Txt.find3 (S t) old (i : Int) > 0 then Txt.find3 (S t) old (i : Int) else 0) = (j : Int) ∧ j ≤ t.length := by
    refine ⟨(if Txt.find3 (S t) old (i : Int) > 0 then Txt.find3 (S t) old (i : Int) else 0).toNat, ?_, ?_⟩
    · split <;> omega
    · split <;> omega
  rw [ej]
  have eto2 : cutS (S t) none (some (j : Int)) = S (t.take j) := cut_to jl
  have efr2 : cutS (S t) (some ((j : Int) + 1)) none = S (t.drop (j + 1)) := cut_fr t (j + 1)
  have lt4 : (t.take j).length = j := by rw [List.length_take]; omega
  have lt5 : (t.drop (j + 1)).length = t.length - (j + 1) := by rw [List.length_drop]
  refine ⟨_, rfl, _, rfl, _, rfl, S t, rfl, ft.le, ?_⟩
  dsimp only
  rw [eto2]
  refine ⟨_, rfl, _, rfl, b, l, 12, rfl, B6, by decide, by decide, fun w H7 w0 w1 B7 k7 => ?_⟩
  have k17 := k16.trans k7
  obtain ⟨w, rfl⟩ : ∃ j : Nat, w = j := ⟨w.toNat, by omega⟩
  obtain ⟨nw, hn, an, ln⟩ : ∃ nw : List Nat, ([.str ",0", .str "ew", .str ":e", .str "", .str ",201,", .str ",200,", .str (S x7), .str "abcdefghi"] ++ [.str "", .str ";;", .str "ww", .str (S x9)] : List V)[w]? = some (.str (S nw)) ∧ Asc nw ∧ nw.length ≤ 5001 := by
    have : w = 0 ∨ w = 1 ∨ w = 2 ∨ w = 3 ∨ w = 4 ∨ w = 5 ∨ w = 6 ∨ w = 7 ∨ w = 8 ∨ w = 9 ∨ w = 10 ∨ w = 11 := by omega
    rcases this with rfl | rfl | rfl | rfl | rfl | rfl | rfl | rfl | rfl | rfl | rfl | rfl
    · exact ⟨[44, 48], rfl, asc_of (by decide), by decide⟩
    · exact ⟨[101, 119], rfl, asc_of (by decide), by decide⟩
    · exact ⟨[58, 101], rfl, asc_of (by decide), by decide⟩
    · exact ⟨[], rfl, asc_of (by decide), by decide⟩
    · exact ⟨[44, 50, 48, 49, 44], rfl, asc_of (by decide), by decide⟩
    · exact ⟨[44, 50, 48, 48, 44], rfl, asc_of (by decide), by decide⟩
    · exact ⟨x7, rfl, ax7.1, ax7.2⟩
    · exact ⟨[97, 98, 99, 100, 101, 102, 103, 104, 105], rfl, asc_of (by decide), by decide⟩
    · exact ⟨[], rfl, asc_of (by decide), by decide⟩
    · exact ⟨[59, 59], rfl, asc_of (by decide), by decide⟩
    · exact ⟨[119, 119], rfl, asc_of (by decide), by decide⟩
    · exact ⟨x9, rfl, ax9.1, ax9.2⟩
  refine .inl ⟨p4, _, w, .str (S nw), rfl, rfl, SqL.of (k7 _ _ e4 n4), atI_nat hn, ?_⟩
  refine add_L (by rw [List.length_append]; omega) ?_
  refine ⟨_, rfl, _, rfl, .inl ⟨_, _, rfl, rfl, _, rfl, S t, rfl, ft.le, ?_⟩⟩
  dsimp only
  rw [efr2]
  exact add_L (by rw [List.length_append, List.length_append]; omega) (k _ _ (((at_.take j).app an).app (at_.drop (j + 1))) (by rw [List.length_append, List.length_append]; omega) B7 k17)
end
end Pk
set_option Elab.async false
set_option linter.all false
set_option maxRecDepth 100000
set_option maxHeartbeats 2000000
namespace Pk
open PySem PySem.Spec L2 PyProof.Rows PkC
/-- a def that may let an error out, called in a try's body -/
theorem pe_calS {X : Cx} {CX : CXT} {k j : Nat} {x : Str} {ps : List Str} {sp : Sp} {E : L2.St → XK} {p pos : Pos} {e : Expr} {es : List Expr} {t : TA} (F : Cal X.prog X.w X.K X.mg X.base CX k x ps [] sp) (hr : Room j X.A) (hx : ∀ σ, PassesAt CX X σ (E σ)) (ha : PA X (e :: es) t) (hj : k ≤ j := by first | decide | omega) (hg : Gl X x := by rfl)
    (h1 : (x == ("__debug__" : Str)) = false := by decide) (h2 : starEach (e :: es) X.env = (false, eval e X.env) :: starEach es X.env := by rfl) (h3 : (backTo pos (starEach es X.env)).any (·.1) = false := by rfl) :
    PE X (.Call (.Name x p) (e :: es) [] pos) (tCallS sp E t) := by
  obtain ⟨f, fd, F, hm, hk, hb⟩ := F.ex
  exact pe_callS F (hr.mono hj) hg hm hk hb hx ha h1 h2 h3
section
variable {K : PySem.W.Frag} {C : Cs} {vs : List V} {H H' G G' : Hp} {Q : VK} {E : XK} {v : V} {L : List Nat}
theorem asc_in {lo hi : Nat} {n : List Nat} (h : n.all (inR lo hi) = true) (h1 : 37 < lo) (h2 : hi ≤ 126) : Asc n := fun c m => by
  have := List.all_eq_true.mp h c m
  unfold inR at this
  simp only [Bool.and_eq_true, decide_eq_true_eq] at this
  omega
theorem asc_good {x : List Nat} (h : x.all good = true) : Asc x := fun c m => by
  have := List.all_eq_true.mp h c m
  rw [good_dec] at this
  simp only [Bool.and_eq_true, decide_eq_true_eq] at this
  exact ⟨this.1.2, this.2⟩
theorem enc_asc {g : Fr} (ok : g.ok) : Asc g.enc := by
  cases g with
  | back n k =>
    obtain ⟨hn, _, _⟩ := ok
    show Asc ([98] ++ (n ++ ([44] ++ (TL.numL k ++ [59]))))
    exact (asc_of (by decide)).app ((asc_in hn.2.2 (by decide) (by decide)).app ((asc_of (by decide)).app ((asc_in (digits_all k) (by decide) (by decide)).app (asc_of (by decide)))))
  | data n x w e =>
    obtain ⟨hn, hb⟩ := ok
    show Asc ([100] ++ ((n ++ ([44] ++ (TL.numL x.length ++ [44]))) ++ (marks w e ++ ([58] ++ (x ++ [59])))))
    have am : Asc (marks w e) := by cases w <;> cases e <;> exact asc_of (by decide)
    exact (asc_of (by decide)).app (((asc_in hn.2.2 (by decide) (by decide)).app ((asc_of (by decide)).app ((asc_in (digits_all _) (by decide) (by decide)).app (asc_of (by decide))))).app (am.app ((asc_of (by decide)).app ((asc_good hb.2.2).app (asc_of (by decide))))))
theorem encs_asc {fs : List Fr} (oks : ∀ g ∈ fs, g.ok) : Asc (encs fs) := fun c m => by
  unfold encs at m
  obtain ⟨x, hx, mc⟩ := List.mem_flatten.mp m
  obtain ⟨g, hg, rfl⟩ := List.mem_map.mp hx
  exact enc_asc (oks g hg) c mc
theorem told_good2 {fs : List Fr} {r : List Nat} (oks : ∀ g ∈ fs, g.ok) (few : fs.length ≤ 6000) (hr : ∀ c ∈ r, c ≤ 126) (lr : r.length ≤ 30000) : Good (.tuple [.list (fs.map Fr.pd), .str (S r)]) :=
  (gt_tuple (at_cons (gt_list (frs_good oks)) (at_cons (gt_S hr) at_nil))).good (by decide) (by omega)
def t_law (K : PySem.W.Frag) (C : Cs) : TS :=
  (tSeq (tAsg (tCall (sp_law_bag K) [] E0 (tCons (tVar 0) tNil)) (gName 1))
    (tSeq (tFor (iRng1 (tCons (tC (.int 10)) tNil)) (gName 2) (tSeq (tAsg (PkB.tJoinL K (tC (.str "")) (tLc (iRng1 (tCons (tOp (rAddU K) (tC (.int 1)) (tCall (sp_law_take K) [] E0 (tCons (tVar 1) (tCons (tC (.int 4)) tNil)))) tNil)) (gName 3) tYes (tCall (sp_law_text K) [] E0 (tCons (tCall (sp_law_draw_frame K) [] E0 (tCons (tVar 1) tNil)) tNil)) [3])) (gName 4))
    (tSeq (tFor (iRng1 (tCons (tCall (sp_law_take K) [] E0 (tCons (tVar 1) (tCons (tC (.int 4)) tNil))) tNil)) (gName 3) (tAsg (tCall (sp_law_bent K) [] E0 (tCons (tVar 1) (tCons (tVar 4) tNil))) (gName 4)))
    (tSeq (tAsg (tCall (sp_law_read K) [] E0 (tCons (tVar 4) tNil)) (gName 5))
    (tFor (iRng1 (tCons (tC (.int 2)) tNil)) (gName 6) (tIfS (tNot (tB (tCall (sp_law_alike K) [] E0 (tCons (tCall (sp_law_told K C) [] E0 (tCons (tVar 4) tNil)) (tCons (tIf (tTest (tOp (rIsNn) (tVar 5) (tC .non))) (tC (.str "bad")) (tVar 5)) tNil))))) (tRet (tC (.bl false))) tNext))))))
    (tSeq (tAsg (tLst (tCons (tC .non) (tCons (tC (.int 5)) (tCons (tC (.bl true)) (tCons (tLst (tCons (tC (.str "d")) tNil)) (tCons (tTup (tCons (tC (.str "ba,1;")) tNil)) (tCons tDNewK (tCons (tLst tNil) (tCons (tDisp [((tC (.str "b")), (tC (.int 1)))]) tNil))))))))) (gName 7))
    (tRet (tOp (rEqU K) (tLc (iList K (tVar 7)) (gName 8) (tTest (tOp (rNeU K) (tCall (sp_law_told K C) [] E0 (tCons (tVar 8) tNil)) (tC (.str "bad")))) (tVar 8) [8]) (tLst tNil))))))
theorem rd_law (fx : FxB K C) (h : sp_law K vs H Q E) : t_law K C (EndsOf Q) (start ["", "", "", "", "", "", "", "", ""] vs) H := by
  obtain ⟨a, ns, rfl, hS, _, k⟩ := h
  refine ⟨_, rfl, a, ns, rfl, hS, fun b l H1 hb hl B s1 => ?_⟩
  clear hS hb hl s1
  refine ⟨10, rfl, by decide, by decide, ?_⟩
  refine for_range (lo := 0) (n := 10) (fun i σ' G => ∃ s2 s3 s4 s5 s6, σ' = [some (.ref a), some (.ref b), s2, s3, s4, s5, s6, none, none] ∧ Bag G b l) ⟨_, _, _, _, _, rfl, B⟩ ?_ ?_
  · clear B
    rintro i σ' G hi ⟨s2, s3, s4, s5, s6, rfl, B⟩
    -- the text
    refine ⟨⟨_, rfl⟩, _, rfl, b, l, 4, rfl, B, by decide, by decide, fun y G1 y0 y1 B1 k1 => .inl ⟨_, _, rfl, rfl, 1 + y, rfl, by omega, by omega, fun D hD => ?_⟩⟩
    have nD : D ≠ b := B1.nb hD
    have nl : D ≠ l := B1.nl hD
    refine lc_range (lo := 0) (n := (1 + y).toNat) (fun j G => Bag G b l ∧ ∃ fs : List Fr, fs.length = j ∧ (∀ g ∈ fs, g.ok) ∧ G D = some (.lst ((fs.map fun g => S g.enc).map V.str))) ⟨B1.same (same_new hD), [], rfl, (fun g m => nomatch m), upd_same⟩ ?_ ?_
    · rintro j G2 hj ⟨B2, fs, lf, oks, hz⟩
      refine ⟨rfl, ?_⟩
      refine ⟨_, rfl, b, l, rfl, B2, fun a1 g1 G3 ok fo na B3 k3 => ⟨a1, g1, rfl, fo, ok, fun G4 g4 => ⟨_, g4 _ _ (k3 _ _ hz nD), ?_, (B3.same g4).put nD.symm nl.symm, fs ++ [g1], by rw [List.length_append, lf]; rfl, fun x hx => ?_, ?_⟩⟩⟩
      · rw [List.length_map, List.length_map]
        exact small1000 (by omega)
      · rcases List.mem_append.mp hx with z | z
        · exact oks x z
        · rw [List.mem_singleton.mp z]; exact ok
      · rw [upd_same, List.map_append, List.map_append]
        rfl
    rintro G2 ⟨B2, fs, lf, oks, hz⟩
    have el := encs_len oks
    have lf4 : fs.length ≤ 4 := by omega
    refine ⟨"", D, fs.map fun g => S g.enc, rfl, rfl, .inl (SqL.of hz), ?_, ?_⟩
    · have e0 : ("" : Str).length = 0 := rfl
      rw [sum_len, e0, Nat.mul_zero]
      omega
    rw [encs_join]
    -- put otherwise
    refine ⟨_, rfl, b, l, 4, rfl, B2, by decide, by decide, fun y2 G3 z0 z1 B3 k3 => ⟨y2, rfl, by omega, by omega, ?_⟩⟩
    refine for_range (lo := 0) (n := y2.toNat) (fun j σ' G' => ∃ s3 t, σ' = [some (.ref a), some (.ref b), some (.int (0 + i)), s3, some (.str (S t)), s5, s6, none, none] ∧ Bag G' b l ∧ Asc t ∧ t.length ≤ 1000 + 6000 * j) ⟨_, encs fs, rfl, B3, encs_asc oks, by omega⟩ ?_ ?_
    · rintro j σ' G4 hj ⟨s3, t, rfl, B4, at_, lt⟩
      refine ⟨_, rfl, _, rfl, b, l, t, 1000 + 6000 * j, rfl, B4, at_, lt, by omega, fun u G5 au lu B5 k5 => ⟨_, u, rfl, B5, au, by omega⟩⟩
    clear s3 s4 B B1 k1 B2 hz B3 k3 el
    rintro σ' G4 ⟨s3, t, rfl, B4, at_, lt⟩
    have lt2 : t.length ≤ 25000 := by omega
    have pt : Plain t := ⟨by omega, at_⟩
    refine ⟨_, rfl, t, rfl, pt, ?_⟩
    cases hr : readR (t.length + 1) t with
    | none =>
      intro G5 g5
      refine ⟨2, rfl, by decide, by decide, ?_⟩
      refine for_range (lo := 0) (n := 2) (fun j σ' G' => ∃ s6, σ' = [some (.ref a), some (.ref b), some (.int (0 + i)), s3, some (.str (S t)), some .non, s6, none, none] ∧ Bag G' b l) ⟨_, rfl, B4.same g5⟩ ?_ (fun σ' G' ⟨s6, e, B'⟩ => ⟨_, _, _, _, _, e, B'⟩)
      rintro j σ' G6 hj ⟨s6, rfl, B6⟩
      refine ⟨_, rfl, fx, .inl ⟨t, rfl, pt.fits, ?_⟩⟩
      rw [hr]
      intro G7 g7
      refine ⟨_, rfl, rfl, _, rfl, iteT' rfl ?_⟩
      refine ⟨_, _, .str "bad", rfl, .str _, .str _, (gt_S (l := [98, 97, 100]) (by decide)).good (by decide) (by decide), true, rfl, iteF' rfl ?_⟩
      exact ⟨_, rfl, B6.same g7⟩
    | some x =>
      obtain ⟨fs2, r⟩ := x
      obtain ⟨oks2, few2, sr⟩ := read_good _ _ _ _ hr
      have gd := told_good2 oks2 (show fs2.length ≤ 6000 by omega) (r := r) (fun c m => (at_ c (sr.mem m)).1) (by have := sr.len; omega)
      intro p0 q0 as0 G5 g5 hp0 hq0 fo0
      refine ⟨2, rfl, by decide, by decide, ?_⟩
      refine for_range (lo := 0) (n := 2) (fun j σ' G' => ∃ s6, σ' = [some (.ref a), some (.ref b), some (.int (0 + i)), s3, some (.str (S t)), some (.ref p0), s6, none, none] ∧ Bag G' b l ∧ Same G5 G') ⟨_, rfl, B4.same g5, Same.refl G5⟩ ?_ (fun σ' G' ⟨s6, e, B', _⟩ => ⟨_, _, _, _, _, e, B'⟩)
      rintro j σ' G6 hj ⟨s6, rfl, B6, g6⟩
      refine ⟨_, rfl, fx, .inl ⟨t, rfl, pt.fits, ?_⟩⟩
      rw [hr]
      intro p q as G7 g7 hp hq fo
      refine ⟨_, rfl, rfl, _, rfl, iteF' rfl ?_⟩
      have g57 := g6.trans g7
      exact ⟨_, rfl, _, _, _, rfl, told_dp hp hq fo, told_dp (g57 _ _ hp0) (g57 _ _ hq0) (fo0.same g57), gd, true, rfl, iteF' rfl ⟨_, rfl, B6.same g7, g57⟩⟩
  · -- other things
    clear B
    rintro σ' G ⟨s2, s3, s4, s5, s6, rfl, _⟩
    refine ⟨two_fit.1, fun q1 h1 => ⟨two_fit.1, fun q2 h2 q3 h3 => ⟨Nat.zero_le _, fun q4 h4 q5 h5 => ⟨upd_same, [(.inr "b", .int 1)], rfl, by decide, Nat.le_of_lt (small1000 (show 8 ≤ 1000 by decide)), fun p hp => ?_⟩⟩⟩⟩
    have t1 := same_new (o := .lst [.str "d"]) h1
    have t2 := same_new (o := .tup [.str "ba,1;"]) h2
    have t3 := same_new (o := .dK []) h3
    have t4 := same_new (o := .lst []) h4
    have t5 := same_new (o := .dK [(.inr "b", .int 1)]) h5
    have em : mergeK [] [((.inr "b" : Key), V.int 1)] = [(.inr "b", .int 1)] := rfl
    rw [upd_upd, em] at hp ⊢
    have tp := same_new (o := .lst [.non, .int 5, .bl true, .ref q1, .ref q2, .ref q3, .ref q4, .ref q5]) hp
    have e1 := (t2.trans (t3.trans (t4.trans (t5.trans tp)))) _ _ upd_same
    have e2 := (t3.trans (t4.trans (t5.trans tp))) _ _ upd_same
    have e3 := (t4.trans (t5.trans tp)) _ _ upd_same
    have e4 := (t5.trans tp) _ _ upd_same
    have e5 := tp _ _ upd_same
    have ep := upd_same (H := upd (upd (upd (upd (upd G q1 (.lst [.str "d"])) q2 (.tup [.str "ba,1;"])) q3 (.dK [])) q4 (.lst [])) q5 (.dK [(.inr "b", .int 1)])) (a := p) (o := .lst [.non, .int 5, .bl true, .ref q1, .ref q2, .ref q3, .ref q4, .ref q5])
    generalize upd (upd (upd (upd (upd (upd G q1 (.lst [.str "d"])) q2 (.tup [.str "ba,1;"])) q3 (.dK [])) q4 (.lst [])) q5 (.dK [(.inr "b", .int 1)])) p (.lst [.non, .int 5, .bl true, .ref q1, .ref q2, .ref q3, .ref q4, .ref q5]) = G1 at e1 e2 e3 e4 e5 ep ⊢
    clear t1 t2 t3 t4 t5 tp hp h1 h2 h3 h4 h5
    have kinds : ∀ G', Same G1 G' → ∀ x ∈ ([.non, .int 5, .bl true, .ref q1, .ref q2, .ref q3, .ref q4, .ref q5] : List V), ∃ t, TyX K G' x t ∧ PySem.W.kitOne K t (.type "str") = some false := by
      intro G' g x hx
      simp only [List.mem_cons, List.not_mem_nil, or_false] at hx
      rcases hx with rfl | rfl | rfl | rfl | rfl | rfl | rfl | rfl
      · exact ⟨_, .base .non, kit_ty (by decide +kernel)⟩
      · exact ⟨_, .base (.int 5), kit_ty (by decide +kernel)⟩
      · exact ⟨_, .base (.bl true), kit_ty (by decide +kernel)⟩
      · exact ⟨_, .base (.lst (g _ _ e1)), kit_ty (by decide +kernel)⟩
      · exact ⟨_, .base (.tup (g _ _ e2)), kit_ty (by decide +kernel)⟩
      · exact ⟨_, .base (.dK (g _ _ e3)), kit_ty (by decide +kernel)⟩
      · exact ⟨_, .base (.lst (g _ _ e4)), kit_ty (by decide +kernel)⟩
      · exact ⟨_, .base (.dK (g _ _ e5)), kit_ty (by decide +kernel)⟩
    refine ⟨_, rfl, p, rfl, ⟨_, SqL.of ep⟩, fun D hD => ?_⟩
    refine lc_list (K := K) (a := p) (xs := [.non, .int 5, .bl true, .ref q1, .ref q2, .ref q3, .ref q4, .ref q5]) (fun i G' => Same G1 G' ∧ G' D = some (.lst [])) ⟨same_new hD, upd_same⟩ (fun i G' _ s => SqL.of (s.1 _ _ ep)) ?_ ?_
    · rintro i x G' hx ⟨s, e⟩
      obtain ⟨t, ty, kt⟩ := kinds G' s x (List.mem_of_getElem? hx)
      refine ⟨rfl, _, rfl, fx, .inr ⟨x, t, rfl, ty, kt, .inl ⟨rfl, _, rfl, iteF' (by rw [decide_eq_true rfl]; rfl) ⟨s, e⟩⟩⟩⟩
    · rintro G' ⟨s, e⟩
      exact ⟨Nat.zero_le _, fun q hq => .inr ⟨.list [], .list [], .lst (SqL.of (same_new hq _ _ e)) .nil, .lst (SqL.of upd_same) .nil, by decide +kernel, by decide +kernel, k _⟩⟩
end
end Pk
set_option maxHeartbeats 4000000
namespace Lw
open PySem PySem.Spec L2 PyProof.Rows Pk
def top (i : Nat) : Stmt := PySem.Challenge.pw_sharedpipe_k41_frames_refused.main.body.getD i (.Pass ⟨0, 0, 0, 0⟩)
abbrev s__law_alike : Stmt := (top 23)
abbrev N__law_alike : List Str := ["_law_found", "_law_due"]
abbrev P__law_alike : List Str := ["_law_found", "_law_due"]
theorem sc__law_alike : FnScope N__law_alike P__law_alike (defScope s__law_alike) := ⟨rfl, rfl, rfl, by decide +kernel, rfl, by decide +kernel, by decide +kernel⟩
abbrev s__law_bag : Stmt := (top 21)
abbrev N__law_bag : List Str := ["_law_script", "_law_cell"]
abbrev P__law_bag : List Str := ["_law_script"]
theorem sc__law_bag : FnScope N__law_bag P__law_bag (defScope s__law_bag) := ⟨rfl, rfl, rfl, by decide +kernel, rfl, by decide +kernel, by decide +kernel⟩
abbrev s__law_take : Stmt := (top 22)
abbrev N__law_take : List Str := ["_law_bag_here", "_law_many", "_law_cell", "_law_mixed", "_law_value", "_law_begin", "_law_second"]
abbrev P__law_take : List Str := ["_law_bag_here", "_law_many"]
theorem sc__law_take : FnScope N__law_take P__law_take (defScope s__law_take) := ⟨rfl, rfl, rfl, by decide +kernel, rfl, by decide +kernel, by decide +kernel⟩
abbrev s__law_bent : Stmt := (top 34)
abbrev N__law_bent : List Str := ["_law_bag_here", "_law_text_here", "_law_at", "_law_way", "_law_signs", "_law_sign", "_law_old", "_law_new", "_law_spot"]
abbrev P__law_bent : List Str := ["_law_bag_here", "_law_text_here"]
theorem sc__law_bent : FnScope N__law_bent P__law_bent (defScope s__law_bent) := ⟨rfl, rfl, rfl, by decide +kernel, rfl, by decide +kernel, by decide +kernel⟩
abbrev s__law_draw_letters : Stmt := (top 24)
abbrev N__law_draw_letters : List Str := ["_law_bag_here", "_law_many", "_law_signs", "_law_k"]
abbrev P__law_draw_letters : List Str := ["_law_bag_here", "_law_many"]
theorem sc__law_draw_letters : FnScope N__law_draw_letters P__law_draw_letters (defScope s__law_draw_letters) := ⟨rfl, rfl, rfl, by decide +kernel, rfl, by decide +kernel, by decide +kernel⟩
abbrev s__law_draw_number : Stmt := (top 26)
abbrev N__law_draw_number : List Str := ["_law_bag_here", "_law_power"]
abbrev P__law_draw_number : List Str := ["_law_bag_here"]
theorem sc__law_draw_number : FnScope N__law_draw_number P__law_draw_number (defScope s__law_draw_number) := ⟨rfl, rfl, rfl, by decide +kernel, rfl, by decide +kernel, by decide +kernel⟩
abbrev s__law_draw_word : Stmt := (top 25)
abbrev N__law_draw_word : List Str := ["_law_bag_here", "_law_signs", "_law_word", "_law_k"]
abbrev P__law_draw_word : List Str := ["_law_bag_here"]
theorem sc__law_draw_word : FnScope N__law_draw_word P__law_draw_word (defScope s__law_draw_word) := ⟨rfl, rfl, rfl, by decide +kernel, rfl, by decide +kernel, by decide +kernel⟩
abbrev s__law_draw_frame : Stmt := (top 27)
abbrev N__law_draw_frame : List Str := ["_law_bag_here", "_law_many"]
abbrev P__law_draw_frame : List Str := ["_law_bag_here"]
theorem sc__law_draw_frame : FnScope N__law_draw_frame P__law_draw_frame (defScope s__law_draw_frame) := ⟨rfl, rfl, rfl, by decide +kernel, rfl, by decide +kernel, by decide +kernel⟩
abbrev s__law_first_data : Stmt := (top 32)
abbrev N__law_first_data : List Str := ["_law_name", "_law_many", "_law_rest", "_law_ahead", "_law_marks", "_law_wording", "_law_behind", "_law_found", "_law_sign"]
abbrev P__law_first_data : List Str := ["_law_name", "_law_many", "_law_rest", "_law_ahead"]
theorem sc__law_first_data : FnScope N__law_first_data P__law_first_data (defScope s__law_first_data) := ⟨rfl, rfl, rfl, by decide +kernel, rfl, by decide +kernel, by decide +kernel⟩
abbrev s__law_is_number : Stmt := (top 30)
abbrev N__law_is_number : List Str := ["_law_word", "_law_top", "_law_sign"]
abbrev P__law_is_number : List Str := ["_law_word", "_law_top"]
theorem sc__law_is_number : FnScope N__law_is_number P__law_is_number (defScope s__law_is_number) := ⟨rfl, rfl, rfl, by decide +kernel, rfl, by decide +kernel, by decide +kernel⟩
abbrev s__law_is_word : Stmt := (top 29)
abbrev N__law_is_word : List Str := ["_law_word", "_law_signs", "_law_sign"]
abbrev P__law_is_word : List Str := ["_law_word"]
theorem sc__law_is_word : FnScope N__law_is_word P__law_is_word (defScope s__law_is_word) := ⟨rfl, rfl, rfl, by decide +kernel, rfl, by decide +kernel, by decide +kernel⟩
abbrev s__law_first : Stmt := (top 31)
abbrev N__law_first : List Str := ["_law_text_here", "_law_name", "_law_top", "_law_rest", "_law_end", "_law_digits", "_law_many"]
abbrev P__law_first : List Str := ["_law_text_here"]
theorem sc__law_first : FnScope N__law_first P__law_first (defScope s__law_first) := ⟨rfl, rfl, rfl, by decide +kernel, rfl, by decide +kernel, by decide +kernel⟩
abbrev s__law_read : Stmt := (top 33)
abbrev N__law_read : List Str := ["_law_text_here", "_law_found", "_law_one"]
abbrev P__law_read : List Str := ["_law_text_here"]
theorem sc__law_read : FnScope N__law_read P__law_read (defScope s__law_read) := ⟨rfl, rfl, rfl, by decide +kernel, rfl, by decide +kernel, by decide +kernel⟩
abbrev s__law_text : Stmt := (top 28)
abbrev N__law_text : List Str := ["_law_frame", "_law_marks"]
abbrev P__law_text : List Str := ["_law_frame"]
theorem sc__law_text : FnScope N__law_text P__law_text (defScope s__law_text) := ⟨rfl, rfl, rfl, by decide +kernel, rfl, by decide +kernel, by decide +kernel⟩
abbrev s_BadFrame___init__ : Stmt := (inClass (top 2) 0)
abbrev N_BadFrame___init__ : List Str := ["self"]
abbrev P_BadFrame___init__ : List Str := ["self"]
abbrev s_run_at : Stmt := (top 19)
abbrev N_run_at : List Str := ["text", "at", "low", "high", "most", "end"]
abbrev P_run_at : List Str := ["text", "at", "low", "high", "most"]
theorem sc_run_at : FnScope N_run_at P_run_at (defScope s_run_at) := ⟨rfl, rfl, rfl, by decide +kernel, rfl, by decide +kernel, by decide +kernel⟩
abbrev s_head_at : Stmt := (top 17)
abbrev N_head_at : List Str := ["text", "at", "most", "sign", "name", "digits"]
abbrev P_head_at : List Str := ["text", "at", "most", "sign"]
theorem sc_head_at : FnScope N_head_at P_head_at (defScope s_head_at) := ⟨rfl, rfl, rfl, by decide +kernel, rfl, by decide +kernel, by decide +kernel⟩
abbrev s_back_at : Stmt := (top 15)
abbrev N_back_at : List Str := ["text", "at", "head", "name", "many"]
abbrev P_back_at : List Str := ["text", "at"]
theorem sc_back_at : FnScope N_back_at P_back_at (defScope s_back_at) := ⟨rfl, rfl, rfl, by decide +kernel, rfl, by decide +kernel, by decide +kernel⟩
abbrev s_is_letters : Stmt := (top 9)
abbrev N_is_letters : List Str := ["thing", "sign"]
abbrev P_is_letters : List Str := ["thing"]
theorem sc_is_letters : FnScope N_is_letters P_is_letters (defScope s_is_letters) := ⟨rfl, rfl, rfl, by decide +kernel, rfl, by decide +kernel, by decide +kernel⟩
abbrev s_body_at : Stmt := (top 18)
abbrev N_body_at : List Str := ["text", "at", "many", "waits", "ends", "letters"]
abbrev P_body_at : List Str := ["text", "at", "many"]
theorem sc_body_at : FnScope N_body_at P_body_at (defScope s_body_at) := ⟨rfl, rfl, rfl, by decide +kernel, rfl, by decide +kernel, by decide +kernel⟩
abbrev s_data_at : Stmt := (top 16)
abbrev N_data_at : List Str := ["text", "at", "head", "stream", "many", "body", "letters", "waits", "ends"]
abbrev P_data_at : List Str := ["text", "at"]
theorem sc_data_at : FnScope N_data_at P_data_at (defScope s_data_at) := ⟨rfl, rfl, rfl, by decide +kernel, rfl, by decide +kernel, by decide +kernel⟩
abbrev s_frame_at : Stmt := (top 14)
abbrev N_frame_at : List Str := ["text", "at"]
abbrev P_frame_at : List Str := ["text", "at"]
theorem sc_frame_at : FnScope N_frame_at P_frame_at (defScope s_frame_at) := ⟨rfl, rfl, rfl, by decide +kernel, rfl, by decide +kernel, by decide +kernel⟩
abbrev s_read_frames : Stmt := (top 13)
abbrev N_read_frames : List Str := ["text", "frames", "at", "found", "frame"]
abbrev P_read_frames : List Str := ["text"]
theorem sc_read_frames : FnScope N_read_frames P_read_frames (defScope s_read_frames) := ⟨rfl, rfl, rfl, by decide +kernel, rfl, by decide +kernel, by decide +kernel⟩
abbrev s__law_told : Stmt := (top 35)
abbrev N__law_told : List Str := ["_law_thing", "e"]
abbrev P__law_told : List Str := ["_law_thing"]
theorem sc__law_told : FnScope N__law_told P__law_told (defScope s__law_told) := ⟨rfl, rfl, rfl, by decide +kernel, rfl, by decide +kernel, by decide +kernel⟩
abbrev s_law : Stmt := (top 36)
abbrev N_law : List Str := ["_law_script", "_law_bag_here", "_law_turn", "_law_k", "_law_text_here", "_law_due", "_law_again", "_law_others", "_law_thing"]
abbrev P_law : List Str := ["_law_script"]
theorem sc_law : FnScope N_law P_law (defScope s_law) := ⟨rfl, rfl, rfl, by decide +kernel, rfl, by decide +kernel, by decide +kernel⟩
structure Bl (mg : Str → Option Value) : Prop where
  none_ : True
  b_abs : mg "abs" = none
  b_all : mg "all" = none
  b_int : mg "int" = none
  b_isinstance : mg "isinstance" = none
  b_len : mg "len" = none
  b_max : mg "max" = none
  b_ord : mg "ord" = none
  b_range : mg "range" = none
  b_repr : mg "repr" = none
  b_str : mg "str" = none
  g_BARRED_SIGN : ∃ t, mg "BARRED_SIGN" = some (.int 37 t)
  g_FIRST_SIGN : ∃ t, mg "FIRST_SIGN" = some (.int 32 t)
  g_LAST_SIGN : ∃ t, mg "LAST_SIGN" = some (.int 126 t)
  g_LONGEST_NAME : ∃ t, mg "LONGEST_NAME" = some (.int 8 t)
  g_MOST_BACK : ∃ t, mg "MOST_BACK" = some (.int 999999999999999999999999999999999999999 t)
  g_MOST_LETTERS : ∃ t, mg "MOST_LETTERS" = some (.int 200 t)
section
variable {P : Program} {w : World} {K : PySem.W.Frag} {mg : Str → Option Value} {base : Heap} {C : Cs}
theorem ok__law_alike {f : Addr} {fd : FuncData} (F : Fun K "_law_alike" "_law_alike" s__law_alike f fd) (T : Bl mg)   : FnG P w K mg base CX0 1 f fd P__law_alike (sp_law_alike K) := by
  obtain ⟨t_BARRED_SIGN, g_BARRED_SIGN⟩ := T.g_BARRED_SIGN
  obtain ⟨t_FIRST_SIGN, g_FIRST_SIGN⟩ := T.g_FIRST_SIGN
  obtain ⟨t_LAST_SIGN, g_LAST_SIGN⟩ := T.g_LAST_SIGN
  obtain ⟨t_LONGEST_NAME, g_LONGEST_NAME⟩ := T.g_LONGEST_NAME
  obtain ⟨t_MOST_BACK, g_MOST_BACK⟩ := T.g_MOST_BACK
  obtain ⟨t_MOST_LETTERS, g_MOST_LETTERS⟩ := T.g_MOST_LETTERS
  refine okG F sc__law_alike (fun vs H Q E h => ln_law_alike h) (fun cdv A outer s H vs Q E gd hr h => ⟨t_law_alike K, ?_, rd_law_alike  h⟩)
  exact (pss_one (ps_ret (pe_and (pe_cmpR (opEq hr.units) (pv 0) (pv 1) (nomark _)) (pe_one (pe_cmpR (opEq hr.units) (pe_callB (call_repr gd (room_repr hr)) rfl T.b_repr Pk.boot_repr (pa_cons (pv 0) pa_nil)) (pe_callB (call_repr gd (room_repr hr)) rfl T.b_repr Pk.boot_repr (pa_cons (pv 1) pa_nil)) (nomark _))))))
theorem ok__law_bag {f : Addr} {fd : FuncData} (F : Fun K "_law_bag" "_law_bag" s__law_bag f fd) (T : Bl mg)   : FnOk P w K mg base CX0 1 f fd P__law_bag (sp_law_bag K) := by
  obtain ⟨t_BARRED_SIGN, g_BARRED_SIGN⟩ := T.g_BARRED_SIGN
  obtain ⟨t_FIRST_SIGN, g_FIRST_SIGN⟩ := T.g_FIRST_SIGN
  obtain ⟨t_LAST_SIGN, g_LAST_SIGN⟩ := T.g_LAST_SIGN
  obtain ⟨t_LONGEST_NAME, g_LONGEST_NAME⟩ := T.g_LONGEST_NAME
  obtain ⟨t_MOST_BACK, g_MOST_BACK⟩ := T.g_MOST_BACK
  obtain ⟨t_MOST_LETTERS, g_MOST_LETTERS⟩ := T.g_MOST_LETTERS
  refine F.ok sc__law_bag (fun vs H Q E h => ln_law_bag h) (fun cdv A outer s H vs Q E hr h => ⟨t_law_bag K, ?_, rd_law_bag  h⟩)
  exact (pss_one (ps_ret (pe_lst (pa_cons pe_int (pa_cons pe_int (pa_cons pe_int (pa_cons (pe_lc (own := [("_law_cell", 1)]) (g := (gName 1)) (tt := tYes) rfl sc__law_bag.nd (pi_list (pe_slice slU (pv 0) po_none (po_some pe_int))) (blkOk_by (N := N__law_bag) (own := [("_law_cell", 1)]) (sc := defScope s__law_bag) (by decide +kernel)) (fun _ _ _ _ _ => (pg_name (i := 1) sc__law_bag.nd rfl (Or.inl rfl))) (fun _ _ _ _ _ => pts_nil) (fun _ _ _ _ _ => (pe_callB call_abs rfl T.b_abs Pk.boot_abs (pa_cons (pv 1) pa_nil)))) pa_nil)))))))
theorem ok__law_take {f : Addr} {fd : FuncData} (F : Fun K "_law_take" "_law_take" s__law_take f fd) (T : Bl mg)   : FnOk P w K mg base CX0 1 f fd P__law_take (sp_law_take K) := by
  obtain ⟨t_BARRED_SIGN, g_BARRED_SIGN⟩ := T.g_BARRED_SIGN
  obtain ⟨t_FIRST_SIGN, g_FIRST_SIGN⟩ := T.g_FIRST_SIGN
  obtain ⟨t_LAST_SIGN, g_LAST_SIGN⟩ := T.g_LAST_SIGN
  obtain ⟨t_LONGEST_NAME, g_LONGEST_NAME⟩ := T.g_LONGEST_NAME
  obtain ⟨t_MOST_BACK, g_MOST_BACK⟩ := T.g_MOST_BACK
  obtain ⟨t_MOST_LETTERS, g_MOST_LETTERS⟩ := T.g_MOST_LETTERS
  refine F.ok sc__law_take (fun vs H Q E h => ln_law_take h) (fun cdv A outer s H vs Q E hr h => ⟨t_law_take K, ?_, rd_law_take  h⟩)
  exact (Evl.pss_cut (ps_if (pt_cmpR (opEq hr.units) (pe_ix ix_seq (pv 0) pe_int (fun _ _ => rfl)) pe_int (nomark _)) (pss_cons (ps_set (i := 2) sc__law_take.nd rfl (Or.inl rfl) pe_int)
    (Evl.pss_cut (ps_if (pt_cmpR opLt (pe_ix ix_seq (pv 0) pe_int (fun _ _ => rfl)) (pe_callB callLen rfl T.b_len Pk.boot_len (pa_cons (pe_ix ix_seq (pv 0) pe_int (fun _ _ => rfl)) pa_nil)) (nomark _)) (pss_one (ps_set (i := 2) sc__law_take.nd rfl (Or.inl rfl) (pe_ix ix_seq (pe_ix ix_seq (pv 0) pe_int (fun _ _ => rfl)) (pe_ix ix_seq (pv 0) pe_int (fun _ _ => rfl)) (fun _ _ => rfl)))) pss_nil)
    (pss_cons (ps_augS (pv 0) pe_int get_list pe_int ip_add set_list)
    (Evl.pss_cut (ps_if (pt_cmpR opGe (pv 2) pe_int (nomark _)) (pss_one (ps_asg (pv 2) (pg_sub (pv 0) pe_int set_list))) pss_nil)
    (pss_cons (ps_set (i := 3) sc__law_take.nd rfl (Or.inl rfl) (pe_op opAdd (pe_op opAdd (pe_op opMul (pe_ix ix_seq (pv 0) pe_int (fun _ _ => rfl)) pe_int) (pe_op opMod (pe_callTy callInt rfl T.b_int Pk.boot_t_int (pa_cons (pv 2) pa_nil)) pe_int)) (pe_op opMul pe_int (pe_ix ix_seq (pv 0) pe_int (fun _ _ => rfl)))))
    (pss_one (ps_asg (pe_op opMod (pe_callTy callInt rfl T.b_int Pk.boot_t_int (pa_cons (pv 3) pa_nil)) pe_int) (pg_sub (pv 0) pe_int set_list)))))))) pss_nil)
    (pss_cons (ps_if (pt_cmpR opGt (pe_ix ix_seq (pv 0) pe_int (fun _ _ => rfl)) pe_int (nomark _)) (pss_cons (ps_set (i := 4) sc__law_take.nd rfl (Or.inl rfl) (pe_op opMod (pe_callTy callInt rfl T.b_int Pk.boot_t_int (pa_cons (pe_ix ix_seq (pv 0) pe_int (fun _ _ => rfl)) pa_nil)) (pv 1)))
    (pss_cons (ps_asg (pe_op opDiv (pe_ix ix_seq (pv 0) pe_int (fun _ _ => rfl)) (pv 1)) (pg_sub (pv 0) pe_int set_list))
    (pss_one (ps_ret (pv 4))))) pss_nil)
    (pss_cons (ps_set (i := 5) sc__law_take.nd rfl (Or.inl rfl) (pe_op opMod (pe_callTy callInt rfl T.b_int Pk.boot_t_int (pa_cons (pe_op opMul (pe_op opAdd (pe_ix ix_seq (pv 0) pe_int (fun _ _ => rfl)) pe_int) pe_int) pa_nil)) pe_int))
    (pss_cons (ps_set (i := 6) sc__law_take.nd rfl (Or.inl rfl) (pe_op opMod (pe_callTy callInt rfl T.b_int Pk.boot_t_int (pa_cons (pe_op opMul (pe_op opMod (pe_callTy callInt rfl T.b_int Pk.boot_t_int (pa_cons (pe_op opMul (pv 5) (pv 5)) pa_nil)) pe_int) pe_int) pa_nil)) pe_int))
    (pss_cons (ps_if (pt_cmpR opGt (pv 1) pe_int (nomark _)) (pss_one (ps_ret (pe_op opMod (pe_callTy callInt rfl T.b_int Pk.boot_t_int (pa_cons (pe_op opAdd (pe_op opMul (pv 6) pe_int) (pv 5)) pa_nil)) (pv 1)))) pss_nil)
    (pss_one (ps_ret (pe_op opMod (pe_callTy callInt rfl T.b_int Pk.boot_t_int (pa_cons (pe_op opDiv (pv 6) pe_int) pa_nil)) (pv 1)))))))))
theorem ok__law_bent {f : Addr} {fd : FuncData} (F : Fun K "_law_bent" "_law_bent" s__law_bent f fd) (T : Bl mg)  (f__law_take : Cal P w K mg base CX0 1 "_law_take" P__law_take [] (sp_law_take K)) : FnOk P w K mg base CX0 2 f fd P__law_bent (sp_law_bent K) := by
  obtain ⟨t_BARRED_SIGN, g_BARRED_SIGN⟩ := T.g_BARRED_SIGN
  obtain ⟨t_FIRST_SIGN, g_FIRST_SIGN⟩ := T.g_FIRST_SIGN
  obtain ⟨t_LAST_SIGN, g_LAST_SIGN⟩ := T.g_LAST_SIGN
  obtain ⟨t_LONGEST_NAME, g_LONGEST_NAME⟩ := T.g_LONGEST_NAME
  obtain ⟨t_MOST_BACK, g_MOST_BACK⟩ := T.g_MOST_BACK
  obtain ⟨t_MOST_LETTERS, g_MOST_LETTERS⟩ := T.g_MOST_LETTERS
  refine F.ok sc__law_bent (fun vs H Q E h => ln_law_bent h) (fun cdv A outer s H vs Q E hr h => ⟨t_law_bent K, ?_, rd_law_bent  h⟩)
  exact (pss_cons (ps_par (i := 2) (j := 3) (by rfl) sc__law_bent.nd rfl rfl (by decide) rfl rfl (pa_cons (pe_cal f__law_take hr pass0 (pa_cons (pv 0) (pa_cons (pe_op opAdd (pe_callB callLen rfl T.b_len Pk.boot_len (pa_cons (pv 1) pa_nil)) pe_int) pa_nil))) (pa_cons (pe_cal f__law_take hr pass0 (pa_cons (pv 0) (pa_cons pe_int pa_nil))) pa_nil)) (by rfl))
    (pss_cons (ps_set (i := 4) sc__law_bent.nd rfl (Or.inl rfl) pe_str)
    (pss_cons (ps_set (i := 5) sc__law_bent.nd rfl (Or.inl rfl) (pe_ix ix_seq (pv 4) (pe_cal f__law_take hr pass0 (pa_cons (pv 0) (pa_cons pe_int pa_nil))) (fun _ _ => rfl)))
    (pss_cons (ps_if (pt_cmpR (opEq hr.units) (pv 3) pe_int (nomark _)) (pss_one (ps_ret (pe_op opAdd (pe_slice sl_str (pv 1) po_none (po_some (pv 2))) (pe_slice sl_str (pv 1) (po_some (pe_op opAdd (pv 2) pe_int)) po_none)))) pss_nil)
    (pss_cons (ps_if (pt_cmpR (opEq hr.units) (pv 3) pe_int (nomark _)) (pss_one (ps_ret (pe_op opAdd (pe_op opAdd (pe_slice sl_str (pv 1) po_none (po_some (pv 2))) (pv 5)) (pe_slice sl_str (pv 1) (po_some (pv 2)) po_none)))) pss_nil)
    (pss_cons (ps_if (pt_cmpR (opEq hr.units) (pv 3) pe_int (nomark _)) (pss_one (ps_ret (pe_op opAdd (pe_op opAdd (pe_slice sl_str (pv 1) po_none (po_some (pv 2))) (pv 5)) (pe_slice sl_str (pv 1) (po_some (pe_op opAdd (pv 2) pe_int)) po_none)))) pss_nil)
    (pss_cons (ps_if (pt_cmpR (opEq hr.units) (pv 3) pe_int (nomark _)) (pss_one (ps_ret (pe_slice sl_str (pv 1) po_none (po_some (pv 2))))) pss_nil)
    (pss_cons (ps_set (i := 6) sc__law_bent.nd rfl (Or.inl rfl) (pe_ix ix_seq (pe_lst (pa_cons pe_str (pa_cons pe_str (pa_cons pe_str (pa_cons pe_str (pa_cons pe_str pa_nil)))))) (pe_cal f__law_take hr pass0 (pa_cons (pv 0) (pa_cons pe_int pa_nil))) (fun _ _ => rfl)))
    (pss_cons (ps_set (i := 7) sc__law_bent.nd rfl (Or.inl rfl) (pe_lst (pa_cons pe_str (pa_cons pe_str (pa_cons pe_str (pa_cons pe_str (pa_cons pe_str (pa_cons pe_str (pa_cons (pe_op opAdd (pe_op opAdd pe_str (pe_op opMul pe_str (pe_op opAdd pe_int (pe_cal f__law_take hr pass0 (pa_cons (pv 0) (pa_cons pe_int pa_nil)))))) pe_str) (pa_cons pe_str pa_nil))))))))))
    (pss_cons (ps_set (i := 7) sc__law_bent.nd rfl (Or.inl rfl) (pe_op opAdd (pv 7) (pe_lst (pa_cons pe_str (pa_cons pe_str (pa_cons pe_str (pa_cons (pe_op opAdd pe_str (pe_op PkC.op_repS2 pe_str pe_int)) pa_nil)))))))
    (pss_cons (ps_set (i := 8) sc__law_bent.nd rfl (Or.inl rfl) (pe_callB (call_max2 rfl) rfl T.b_max Pk.boot_max (pa_cons pe_int (pa_cons (pe_bm PySem.F.plainAttrs_str PySem.F.slot_str_find PySem.F.type_str_find mt_find3 (pv 1) (pa_cons (pv 6) (pa_cons (pv 2) pa_nil))) pa_nil))))
    (pss_one (ps_ret (pe_op opAdd (pe_op opAdd (pe_slice sl_str (pv 1) po_none (po_some (pv 8))) (pe_ix ix_seq (pv 7) (pe_cal f__law_take hr pass0 (pa_cons (pv 0) (pa_cons pe_int pa_nil))) (fun _ _ => rfl))) (pe_slice sl_str (pv 1) (po_some (pe_op opAdd (pv 8) pe_int)) po_none)))))))))))))))
theorem ok__law_draw_letters {f : Addr} {fd : FuncData} (F : Fun K "_law_draw_letters" "_law_draw_letters" s__law_draw_letters f fd) (T : Bl mg)  (f__law_take : Cal P w K mg base CX0 1 "_law_take" P__law_take [] (sp_law_take K)) : FnOk P w K mg base CX0 2 f fd P__law_draw_letters (sp_law_draw_letters K) := by
  obtain ⟨t_BARRED_SIGN, g_BARRED_SIGN⟩ := T.g_BARRED_SIGN
  obtain ⟨t_FIRST_SIGN, g_FIRST_SIGN⟩ := T.g_FIRST_SIGN
  obtain ⟨t_LAST_SIGN, g_LAST_SIGN⟩ := T.g_LAST_SIGN
  obtain ⟨t_LONGEST_NAME, g_LONGEST_NAME⟩ := T.g_LONGEST_NAME
  obtain ⟨t_MOST_BACK, g_MOST_BACK⟩ := T.g_MOST_BACK
  obtain ⟨t_MOST_LETTERS, g_MOST_LETTERS⟩ := T.g_MOST_LETTERS
  refine F.ok sc__law_draw_letters (fun vs H Q E h => ln_law_draw_letters h) (fun cdv A outer s H vs Q E hr h => ⟨t_law_draw_letters K, ?_, rd_law_draw_letters  h⟩)
  exact (pss_cons (ps_set (i := 2) sc__law_draw_letters.nd rfl (Or.inr rfl) pe_str)
    (Evl.pss_cut (ps_if (pt_cmpR (opEq hr.units) (pe_cal f__law_take hr pass0 (pa_cons (pv 0) (pa_cons pe_int pa_nil))) pe_int (nomark _)) (pss_cons (ps_set (i := 2) sc__law_draw_letters.nd rfl (Or.inr rfl) pe_str)
    (pss_one (ps_set (i := 2) sc__law_draw_letters.nd rfl (Or.inr rfl) (pe_op opAdd (pv 2) pe_str)))) pss_nil)
    (pss_one (ps_ret (pe_join pe_str (pe_lc (own := [("_law_k", 3)]) (g := (gName 3)) (tt := tYes) rfl sc__law_draw_letters.nd (pi_range1 rfl T.b_range (pa_cons (pv 1) pa_nil)) (blkOk_by (N := N__law_draw_letters) (own := [("_law_k", 3)]) (sc := defScope s__law_draw_letters) (by decide +kernel)) (fun _ _ _ _ _ => (pg_name (i := 3) sc__law_draw_letters.nd rfl (Or.inl rfl))) (fun _ _ _ _ _ => pts_nil) (fun _ _ _ _ _ => (pe_ix ix_seq (pv 2) (pe_cal f__law_take hr pass0 (pa_cons (pv 0) (pa_cons (pe_callB callLen rfl T.b_len Pk.boot_len (pa_cons (pv 2) pa_nil)) pa_nil))) (fun _ _ => rfl)))))))))
theorem ok__law_draw_number {f : Addr} {fd : FuncData} (F : Fun K "_law_draw_number" "_law_draw_number" s__law_draw_number f fd) (T : Bl mg)  (f__law_take : Cal P w K mg base CX0 1 "_law_take" P__law_take [] (sp_law_take K)) : FnOk P w K mg base CX0 2 f fd P__law_draw_number (sp_law_draw_number K) := by
  obtain ⟨t_BARRED_SIGN, g_BARRED_SIGN⟩ := T.g_BARRED_SIGN
  obtain ⟨t_FIRST_SIGN, g_FIRST_SIGN⟩ := T.g_FIRST_SIGN
  obtain ⟨t_LAST_SIGN, g_LAST_SIGN⟩ := T.g_LAST_SIGN
  obtain ⟨t_LONGEST_NAME, g_LONGEST_NAME⟩ := T.g_LONGEST_NAME
  obtain ⟨t_MOST_BACK, g_MOST_BACK⟩ := T.g_MOST_BACK
  obtain ⟨t_MOST_LETTERS, g_MOST_LETTERS⟩ := T.g_MOST_LETTERS
  refine F.ok sc__law_draw_number (fun vs H Q E h => ln_law_draw_number h) (fun cdv A outer s H vs Q E hr h => ⟨t_law_draw_number K, ?_, rd_law_draw_number  h⟩)
  exact (pss_cons (ps_set (i := 1) sc__law_draw_number.nd rfl (Or.inl rfl) (pe_callTy callInt rfl T.b_int Pk.boot_t_int (pa_cons (pe_op opAdd pe_str (pe_op opMul pe_str (pe_cal f__law_take hr pass0 (pa_cons (pv 0) (pa_cons pe_int pa_nil))))) pa_nil)))
    (pss_one (ps_ret (pe_ix ix_seq (pe_lst (pa_cons (pe_op opAdd pe_int (pe_cal f__law_take hr pass0 (pa_cons (pv 0) (pa_cons pe_int pa_nil)))) (pa_cons (pv 1) (pa_cons (pe_op opSub (pe_op opMul (pv 1) pe_int) pe_int) pa_nil)))) (pe_cal f__law_take hr pass0 (pa_cons (pv 0) (pa_cons pe_int pa_nil))) (fun _ _ => rfl)))))
theorem ok__law_draw_word {f : Addr} {fd : FuncData} (F : Fun K "_law_draw_word" "_law_draw_word" s__law_draw_word f fd) (T : Bl mg)  (f__law_take : Cal P w K mg base CX0 1 "_law_take" P__law_take [] (sp_law_take K)) : FnOk P w K mg base CX0 2 f fd P__law_draw_word (sp_law_draw_word K) := by
  obtain ⟨t_BARRED_SIGN, g_BARRED_SIGN⟩ := T.g_BARRED_SIGN
  obtain ⟨t_FIRST_SIGN, g_FIRST_SIGN⟩ := T.g_FIRST_SIGN
  obtain ⟨t_LAST_SIGN, g_LAST_SIGN⟩ := T.g_LAST_SIGN
  obtain ⟨t_LONGEST_NAME, g_LONGEST_NAME⟩ := T.g_LONGEST_NAME
  obtain ⟨t_MOST_BACK, g_MOST_BACK⟩ := T.g_MOST_BACK
  obtain ⟨t_MOST_LETTERS, g_MOST_LETTERS⟩ := T.g_MOST_LETTERS
  refine F.ok sc__law_draw_word (fun vs H Q E h => ln_law_draw_word h) (fun cdv A outer s H vs Q E hr h => ⟨t_law_draw_word K, ?_, rd_law_draw_word  h⟩)
  exact (pss_cons (ps_set (i := 1) sc__law_draw_word.nd rfl (Or.inr rfl) pe_str)
    (pss_cons (ps_set (i := 2) sc__law_draw_word.nd rfl (Or.inl rfl) (pe_join pe_str (pe_lc (own := [("_law_k", 3)]) (g := (gName 3)) (tt := tYes) rfl sc__law_draw_word.nd (pi_range1 rfl T.b_range (pa_cons (pe_op opAdd pe_int (pe_cal f__law_take hr pass0 (pa_cons (pv 0) (pa_cons pe_int pa_nil)))) pa_nil)) (blkOk_by (N := N__law_draw_word) (own := [("_law_k", 3)]) (sc := defScope s__law_draw_word) (by decide +kernel)) (fun _ _ _ _ _ => (pg_name (i := 3) sc__law_draw_word.nd rfl (Or.inl rfl))) (fun _ _ _ _ _ => pts_nil) (fun _ _ _ _ _ => (pe_ix ix_seq (pv 1) (pe_cal f__law_take hr pass0 (pa_cons (pv 0) (pa_cons pe_int pa_nil))) (fun _ _ => rfl))))))
    (pss_one (ps_ret (pe_ix ix_seq (pe_lst (pa_cons (pv 2) (pa_cons (pv 2) (pa_cons pe_str (pa_cons pe_str pa_nil))))) (pe_cal f__law_take hr pass0 (pa_cons (pv 0) (pa_cons pe_int pa_nil))) (fun _ _ => rfl))))))
theorem ok__law_draw_frame {f : Addr} {fd : FuncData} (F : Fun K "_law_draw_frame" "_law_draw_frame" s__law_draw_frame f fd) (T : Bl mg)  (f__law_take : Cal P w K mg base CX0 1 "_law_take" P__law_take [] (sp_law_take K)) (f__law_draw_letters : Cal P w K mg base CX0 2 "_law_draw_letters" P__law_draw_letters [] (sp_law_draw_letters K)) (f__law_draw_word : Cal P w K mg base CX0 2 "_law_draw_word" P__law_draw_word [] (sp_law_draw_word K)) (f__law_draw_number : Cal P w K mg base CX0 2 "_law_draw_number" P__law_draw_number [] (sp_law_draw_number K)) : FnOk P w K mg base CX0 3 f fd P__law_draw_frame (sp_law_draw_frame K) := by
  obtain ⟨t_BARRED_SIGN, g_BARRED_SIGN⟩ := T.g_BARRED_SIGN
  obtain ⟨t_FIRST_SIGN, g_FIRST_SIGN⟩ := T.g_FIRST_SIGN
  obtain ⟨t_LAST_SIGN, g_LAST_SIGN⟩ := T.g_LAST_SIGN
  obtain ⟨t_LONGEST_NAME, g_LONGEST_NAME⟩ := T.g_LONGEST_NAME
  obtain ⟨t_MOST_BACK, g_MOST_BACK⟩ := T.g_MOST_BACK
  obtain ⟨t_MOST_LETTERS, g_MOST_LETTERS⟩ := T.g_MOST_LETTERS
  refine F.ok sc__law_draw_frame (fun vs H Q E h => ln_law_draw_frame h) (fun cdv A outer s H vs Q E hr h => ⟨t_law_draw_frame K, ?_, rd_law_draw_frame  h⟩)
  exact (pss_cons (ps_if (pt_cmpR (opEq hr.units) (pe_cal f__law_take hr pass0 (pa_cons (pv 0) (pa_cons pe_int pa_nil))) pe_int (nomark _)) (pss_one (ps_ret (pe_tup (pa_cons pe_str (pa_cons (pe_cal f__law_draw_word hr pass0 (pa_cons (pv 0) pa_nil)) (pa_cons (pe_cal f__law_draw_number hr pass0 (pa_cons (pv 0) pa_nil)) pa_nil)))))) pss_nil)
    (pss_cons (ps_set (i := 1) sc__law_draw_frame.nd rfl (Or.inl rfl) (pe_ix ix_seq (pe_lst (pa_cons pe_int (pa_cons (pe_op opAdd pe_int (pe_cal f__law_take hr pass0 (pa_cons (pv 0) (pa_cons pe_int pa_nil)))) (pa_cons (pe_op opAdd pe_int (pe_cal f__law_take hr pass0 (pa_cons (pv 0) (pa_cons pe_int pa_nil)))) (pa_cons pe_int pa_nil))))) (pe_cal f__law_take hr pass0 (pa_cons (pv 0) (pa_cons pe_int pa_nil))) (fun _ _ => rfl)))
    (pss_one (ps_ret (pe_tup (pa_cons pe_str (pa_cons (pe_cal f__law_draw_word hr pass0 (pa_cons (pv 0) pa_nil)) (pa_cons (pe_cal f__law_draw_letters hr pass0 (pa_cons (pv 0) (pa_cons (pv 1) pa_nil))) (pa_cons (pe_cmpR (opEq hr.units) (pe_cal f__law_take hr pass0 (pa_cons (pv 0) (pa_cons pe_int pa_nil))) pe_int (nomark _)) (pa_cons (pe_cmpR (opEq hr.units) (pe_cal f__law_take hr pass0 (pa_cons (pv 0) (pa_cons pe_int pa_nil))) pe_int (nomark _)) pa_nil))))))))))
theorem ok__law_first_data {f : Addr} {fd : FuncData} (F : Fun K "_law_first_data" "_law_first_data" s__law_first_data f fd) (T : Bl mg)   : FnOk P w K mg base CX0 1 f fd P__law_first_data (sp_law_first_data K) := by
  obtain ⟨t_BARRED_SIGN, g_BARRED_SIGN⟩ := T.g_BARRED_SIGN
  obtain ⟨t_FIRST_SIGN, g_FIRST_SIGN⟩ := T.g_FIRST_SIGN
  obtain ⟨t_LAST_SIGN, g_LAST_SIGN⟩ := T.g_LAST_SIGN
  obtain ⟨t_LONGEST_NAME, g_LONGEST_NAME⟩ := T.g_LONGEST_NAME
  obtain ⟨t_MOST_BACK, g_MOST_BACK⟩ := T.g_MOST_BACK
  obtain ⟨t_MOST_LETTERS, g_MOST_LETTERS⟩ := T.g_MOST_LETTERS
  refine F.ok sc__law_first_data (fun vs H Q E h => ln_law_first_data h) (fun cdv A outer s H vs Q E hr h => ⟨t_law_first_data K, ?_, rd_law_first_data  h⟩)
  exact (pss_cons (ps_set (i := 4) sc__law_first_data.nd rfl (Or.inl rfl) (pe_ix ix_seq (pe_split (pv 2) pe_str) pe_int (fun _ _ => rfl)))
    (pss_cons (ps_if (pt_cmpR opNotIn (pv 4) (pe_tup (pa_cons pe_str (pa_cons pe_str (pa_cons pe_str (pa_cons pe_str pa_nil))))) rfl) (pss_one (ps_ret pe_str)) pss_nil)
    (pss_cons (ps_if (pt_cmpR opNotIn pe_str (pv 2) rfl) (pss_one (ps_ret pe_str)) pss_nil)
    (pss_cons (ps_set (i := 5) sc__law_first_data.nd rfl (Or.inl rfl) (pe_slice sl_str (pv 2) (po_some (pe_op opAdd (pe_callB callLen rfl T.b_len Pk.boot_len (pa_cons (pv 4) pa_nil)) pe_int)) (po_some (pe_op opAdd (pe_op opAdd (pe_callB callLen rfl T.b_len Pk.boot_len (pa_cons (pv 4) pa_nil)) pe_int) (pv 1)))))
    (pss_cons (ps_if (pt_cmpR (opNe hr.units) (pe_lc (own := [("_law_sign", 8)]) (g := (gName 8)) (tt := (tNot (tTest (tChain (rLeU) (rLeU) (tC (.str " ")) (tVar 8) (tC (.str "~")))))) rfl sc__law_first_data.nd (pi_str (pv 5)) (blkOk_by (N := N__law_first_data) (own := [("_law_sign", 8)]) (sc := defScope s__law_first_data) (by decide +kernel)) (fun _ _ _ _ _ => (pg_name (i := 8) sc__law_first_data.nd rfl (Or.inl rfl))) (fun _ _ _ _ _ => (pts_one (pt_not (pt_chain opLe opLe pe_str (pv 8) pe_str)))) (fun _ _ _ _ _ => (pv 8))) (pe_lst pa_nil) (nomark _)) (pss_one (ps_ret pe_str)) pss_nil)
    (pss_cons (ps_set (i := 6) sc__law_first_data.nd rfl (Or.inl rfl) (pe_slice sl_str (pv 2) (po_some (pe_op opAdd (pe_op opAdd (pe_callB callLen rfl T.b_len Pk.boot_len (pa_cons (pv 4) pa_nil)) pe_int) (pv 1))) po_none))
    (pss_cons (ps_if (pt_cmpR (opEq hr.units) (pv 6) pe_str (nomark _)) (pss_one (ps_ret pe_str)) pss_nil)
    (pss_cons (ps_set (i := 7) sc__law_first_data.nd rfl (Or.inl rfl) (pe_tup (pa_cons pe_str (pa_cons (pv 0) (pa_cons (pv 5) (pa_cons (pe_cmpR opIn pe_str (pv 4) rfl) (pa_cons (pe_cmpR opIn pe_str (pv 4) rfl) pa_nil)))))))
    (pss_one (ps_ret (pe_ifExp (pt_cmpR (opEq hr.units) (pe_ix ix_seq (pv 6) pe_int (fun _ _ => rfl)) pe_str (nomark _)) (pe_tup (pa_cons (pv 7) (pa_cons (pe_op opAdd (pe_op opAdd (pe_op opAdd (pv 3) (pe_callB callLen rfl T.b_len Pk.boot_len (pa_cons (pv 4) pa_nil))) pe_int) (pv 1)) pa_nil))) pe_str)))))))))))
theorem ok__law_is_number {f : Addr} {fd : FuncData} (F : Fun K "_law_is_number" "_law_is_number" s__law_is_number f fd) (T : Bl mg)   : FnOk P w K mg base CX0 1 f fd P__law_is_number (sp_law_is_number K) := by
  obtain ⟨t_BARRED_SIGN, g_BARRED_SIGN⟩ := T.g_BARRED_SIGN
  obtain ⟨t_FIRST_SIGN, g_FIRST_SIGN⟩ := T.g_FIRST_SIGN
  obtain ⟨t_LAST_SIGN, g_LAST_SIGN⟩ := T.g_LAST_SIGN
  obtain ⟨t_LONGEST_NAME, g_LONGEST_NAME⟩ := T.g_LONGEST_NAME
  obtain ⟨t_MOST_BACK, g_MOST_BACK⟩ := T.g_MOST_BACK
  obtain ⟨t_MOST_LETTERS, g_MOST_LETTERS⟩ := T.g_MOST_LETTERS
  refine F.ok sc__law_is_number (fun vs H Q E h => ln_law_is_number h) (fun cdv A outer s H vs Q E hr h => ⟨t_law_is_number K, ?_, rd_law_is_number  h⟩)
  exact (pss_cons (ps_if (PW.pt (pw_or (pt_cmpR (opEq hr.units) (pv 0) pe_str (nomark _)) (pw_or (pt_cmpR opGt (pe_callB callLen rfl T.b_len Pk.boot_len (pa_cons (pv 0) pa_nil)) pe_int (nomark _)) (pw_or1 (pt_cmpR (opNe hr.units) (pe_lc (own := [("_law_sign", 2)]) (g := (gName 2)) (tt := (tTest (tOp (rNotInU K) (tVar 2) (tC (.str "0123456789"))))) rfl sc__law_is_number.nd (pi_str (pv 0)) (blkOk_by (N := N__law_is_number) (own := [("_law_sign", 2)]) (sc := defScope s__law_is_number) (by decide +kernel)) (fun _ _ _ _ _ => (pg_name (i := 2) sc__law_is_number.nd rfl (Or.inl rfl))) (fun _ _ _ _ _ => (pts_one (pt_cmpR opNotIn (pv 2) pe_str rfl))) (fun _ _ _ _ _ => (pv 2))) (pe_lst pa_nil) (nomark _)))))) (pss_one (ps_ret pe_bl)) pss_nil)
    (pss_one (ps_ret (pe_and (pe_cmpR (opNe hr.units) (pe_ix ix_seq (pv 0) pe_int (fun _ _ => rfl)) pe_str (nomark _)) (pe_one (pe_cmpR opLe (pe_callTy callInt rfl T.b_int Pk.boot_t_int (pa_cons (pv 0) pa_nil)) (pv 1) (nomark _)))))))
theorem ok__law_is_word {f : Addr} {fd : FuncData} (F : Fun K "_law_is_word" "_law_is_word" s__law_is_word f fd) (T : Bl mg)   : FnOk P w K mg base CX0 1 f fd P__law_is_word (sp_law_is_word K) := by
  obtain ⟨t_BARRED_SIGN, g_BARRED_SIGN⟩ := T.g_BARRED_SIGN
  obtain ⟨t_FIRST_SIGN, g_FIRST_SIGN⟩ := T.g_FIRST_SIGN
  obtain ⟨t_LAST_SIGN, g_LAST_SIGN⟩ := T.g_LAST_SIGN
  obtain ⟨t_LONGEST_NAME, g_LONGEST_NAME⟩ := T.g_LONGEST_NAME
  obtain ⟨t_MOST_BACK, g_MOST_BACK⟩ := T.g_MOST_BACK
  obtain ⟨t_MOST_LETTERS, g_MOST_LETTERS⟩ := T.g_MOST_LETTERS
  refine F.ok sc__law_is_word (fun vs H Q E h => ln_law_is_word h) (fun cdv A outer s H vs Q E hr h => ⟨t_law_is_word K, ?_, rd_law_is_word  h⟩)
  exact (pss_cons (ps_set (i := 1) sc__law_is_word.nd rfl (Or.inr rfl) pe_str)
    (pss_one (ps_ret (pe_and (pe_chain opLt opLt pe_int (pe_callB callLen rfl T.b_len Pk.boot_len (pa_cons (pv 0) pa_nil)) pe_int) (pe_one (pe_cmpR (opEq hr.units) (pe_lc (own := [("_law_sign", 2)]) (g := (gName 2)) (tt := (tTest (tOp (rNotInU K) (tVar 2) (tVar 1)))) rfl sc__law_is_word.nd (pi_str (pv 0)) (blkOk_by (N := N__law_is_word) (own := [("_law_sign", 2)]) (sc := defScope s__law_is_word) (by decide +kernel)) (fun _ _ _ _ _ => (pg_name (i := 2) sc__law_is_word.nd rfl (Or.inl rfl))) (fun _ _ _ _ _ => (pts_one (pt_cmpR opNotIn (pv 2) (pv 1) rfl))) (fun _ _ _ _ _ => (pv 2))) (pe_lst pa_nil) (nomark _)))))))
theorem ok__law_first {f : Addr} {fd : FuncData} (F : Fun K "_law_first" "_law_first" s__law_first f fd) (T : Bl mg)  (f__law_first_data : Cal P w K mg base CX0 1 "_law_first_data" P__law_first_data [] (sp_law_first_data K)) (f__law_is_number : Cal P w K mg base CX0 1 "_law_is_number" P__law_is_number [] (sp_law_is_number K)) (f__law_is_word : Cal P w K mg base CX0 1 "_law_is_word" P__law_is_word [] (sp_law_is_word K)) : FnOk P w K mg base CX0 2 f fd P__law_first (sp_law_first K) := by
  obtain ⟨t_BARRED_SIGN, g_BARRED_SIGN⟩ := T.g_BARRED_SIGN
  obtain ⟨t_FIRST_SIGN, g_FIRST_SIGN⟩ := T.g_FIRST_SIGN
  obtain ⟨t_LAST_SIGN, g_LAST_SIGN⟩ := T.g_LAST_SIGN
  obtain ⟨t_LONGEST_NAME, g_LONGEST_NAME⟩ := T.g_LONGEST_NAME
  obtain ⟨t_MOST_BACK, g_MOST_BACK⟩ := T.g_MOST_BACK
  obtain ⟨t_MOST_LETTERS, g_MOST_LETTERS⟩ := T.g_MOST_LETTERS
  refine F.ok sc__law_first (fun vs H Q E h => ln_law_first h) (fun cdv A outer s H vs Q E hr h => ⟨t_law_first K, ?_, rd_law_first  h⟩)
  exact (pss_cons (ps_par (i := 1) (j := 2) (by rfl) sc__law_first.nd rfl rfl (by decide) rfl rfl (pa_cons (pe_ix ix_seq (pe_split (pe_slice sl_str (pv 0) (po_some pe_int) po_none) pe_str) pe_int (fun _ _ => rfl)) (pa_cons (pe_ifExp (pt_cmpR (opEq hr.units) (pe_ix ix_seq (pv 0) pe_int (fun _ _ => rfl)) pe_str (nomark _)) pe_int (pe_op opPow pe_int pe_int)) pa_nil)) (by rfl))
    (pss_cons (ps_if (PW.pt (pw_or (pt_cmpR opNotIn (pe_ix ix_seq (pv 0) pe_int (fun _ _ => rfl)) pe_str rfl) (pw_or1 (PW.pt (pw_and (pt_cmpR (opNe hr.units) (pv 1) pe_str (nomark _)) (pw_and1 (pt_not (pt_val (pe_cal f__law_is_word hr pass0 (pa_cons (pv 1) pa_nil)))))))))) (pss_one (ps_ret pe_str)) pss_nil)
    (pss_cons (ps_if (pt_cmpR opNotIn pe_str (pv 0) rfl) (pss_one (ps_ret pe_str)) pss_nil)
    (pss_cons (ps_set (i := 3) sc__law_first.nd rfl (Or.inl rfl) (pe_slice sl_str (pv 0) (po_some (pe_op opAdd pe_int (pe_callB callLen rfl T.b_len Pk.boot_len (pa_cons (pv 1) pa_nil)))) po_none))
    (pss_cons (ps_set (i := 4) sc__law_first.nd rfl (Or.inl rfl) (pe_ifExp (pt_cmpR (opEq hr.units) (pe_ix ix_seq (pv 0) pe_int (fun _ _ => rfl)) pe_str (nomark _)) pe_str pe_str))
    (pss_cons (ps_set (i := 5) sc__law_first.nd rfl (Or.inl rfl) (pe_ix ix_seq (pe_split (pv 3) (pv 4)) pe_int (fun _ _ => rfl)))
    (pss_cons (ps_if (PW.pt (pw_or (pt_cmpR (opEq hr.units) (pv 1) pe_str (nomark _)) (pw_or1 (PW.pt (pw_and (pt_cmpR (opNe hr.units) (pv 5) pe_str (nomark _)) (pw_and1 (pt_not (pt_val (pe_cal f__law_is_number hr pass0 (pa_cons (pv 5) (pa_cons (pv 2) pa_nil))))))))))) (pss_one (ps_ret pe_str)) pss_nil)
    (pss_cons (ps_if (pt_cmpR opNotIn (pv 4) (pv 3) rfl) (pss_one (ps_ret pe_str)) pss_nil)
    (pss_cons (ps_if (pt_cmpR (opEq hr.units) (pv 5) pe_str (nomark _)) (pss_one (ps_ret pe_str)) pss_nil)
    (pss_cons (ps_set (i := 6) sc__law_first.nd rfl (Or.inl rfl) (pe_callTy callInt rfl T.b_int Pk.boot_t_int (pa_cons (pv 5) pa_nil)))
    (pss_cons (ps_if (pt_cmpR (opEq hr.units) (pe_ix ix_seq (pv 0) pe_int (fun _ _ => rfl)) pe_str (nomark _)) (pss_one (ps_ret (pe_tup (pa_cons (pe_tup (pa_cons pe_str (pa_cons (pv 1) (pa_cons (pv 6) pa_nil)))) (pa_cons (pe_op opAdd (pe_op opAdd pe_int (pe_callB callLen rfl T.b_len Pk.boot_len (pa_cons (pv 1) pa_nil))) (pe_callB callLen rfl T.b_len Pk.boot_len (pa_cons (pv 5) pa_nil))) pa_nil))))) pss_nil)
    (pss_one (ps_ret (pe_cal f__law_first_data hr pass0 (pa_cons (pv 1) (pa_cons (pv 6) (pa_cons (pe_slice sl_str (pv 3) (po_some (pe_op opAdd (pe_callB callLen rfl T.b_len Pk.boot_len (pa_cons (pv 5) pa_nil)) pe_int)) po_none) (pa_cons (pe_op opAdd (pe_op opAdd pe_int (pe_callB callLen rfl T.b_len Pk.boot_len (pa_cons (pv 1) pa_nil))) (pe_callB callLen rfl T.b_len Pk.boot_len (pa_cons (pv 5) pa_nil))) pa_nil))))))))))))))))))
theorem ok__law_read {f : Addr} {fd : FuncData} (F : Fun K "_law_read" "_law_read" s__law_read f fd) (T : Bl mg)  (f__law_first : Cal P w K mg base CX0 2 "_law_first" P__law_first [] (sp_law_first K)) : FnOk P w K mg base CX0 3 f fd P__law_read (sp_law_read K) := by
  obtain ⟨t_BARRED_SIGN, g_BARRED_SIGN⟩ := T.g_BARRED_SIGN
  obtain ⟨t_FIRST_SIGN, g_FIRST_SIGN⟩ := T.g_FIRST_SIGN
  obtain ⟨t_LAST_SIGN, g_LAST_SIGN⟩ := T.g_LAST_SIGN
  obtain ⟨t_LONGEST_NAME, g_LONGEST_NAME⟩ := T.g_LONGEST_NAME
  obtain ⟨t_MOST_BACK, g_MOST_BACK⟩ := T.g_MOST_BACK
  obtain ⟨t_MOST_LETTERS, g_MOST_LETTERS⟩ := T.g_MOST_LETTERS
  refine F.ok sc__law_read (fun vs H Q E h => ln_law_read h) (fun cdv A outer s H vs Q E hr h => ⟨t_law_read K, ?_, rd_law_read  h⟩)
  exact (pss_cons (ps_set (i := 1) sc__law_read.nd rfl (Or.inl rfl) (pe_lst pa_nil))
    (pss_cons (ps_while PassesOwn.never (pt_cmpR (opNe hr.units) (pv 0) pe_str (nomark _)) (pss_cons (ps_set (i := 2) sc__law_read.nd rfl (Or.inl rfl) (pe_cal f__law_first hr pass0 (pa_cons (pv 0) pa_nil)))
    (pss_cons (ps_if (pt_cmpR (opEq hr.units) (pv 2) pe_str (nomark _)) (pss_one (ps_ret pe_non)) pss_nil)
    (pss_cons (ps_if (pt_cmpR (opEq hr.units) (pv 2) pe_str (nomark _)) (pss_one (ps_ret (pe_tup (pa_cons (pv 1) (pa_cons (pv 0) pa_nil))))) pss_nil)
    (pss_cons (ps_expr (pe_bm PySem.F.plainAttrs_list PySem.F.slot_list_append PySem.F.type_list_append mt_append (pv 1) (pa_cons (pe_ix ix_seq (pv 2) pe_int (fun _ _ => rfl)) pa_nil)))
    (pss_one (ps_set (i := 0) sc__law_read.nd rfl (Or.inl rfl) (pe_slice sl_str (pv 0) (po_some (pe_ix ix_seq (pv 2) pe_int (fun _ _ => rfl))) po_none))))))))
    (pss_one (ps_ret (pe_tup (pa_cons (pv 1) (pa_cons pe_str pa_nil)))))))
theorem ok__law_text {f : Addr} {fd : FuncData} (F : Fun K "_law_text" "_law_text" s__law_text f fd) (T : Bl mg)   : FnOk P w K mg base CX0 1 f fd P__law_text (sp_law_text K) := by
  obtain ⟨t_BARRED_SIGN, g_BARRED_SIGN⟩ := T.g_BARRED_SIGN
  obtain ⟨t_FIRST_SIGN, g_FIRST_SIGN⟩ := T.g_FIRST_SIGN
  obtain ⟨t_LAST_SIGN, g_LAST_SIGN⟩ := T.g_LAST_SIGN
  obtain ⟨t_LONGEST_NAME, g_LONGEST_NAME⟩ := T.g_LONGEST_NAME
  obtain ⟨t_MOST_BACK, g_MOST_BACK⟩ := T.g_MOST_BACK
  obtain ⟨t_MOST_LETTERS, g_MOST_LETTERS⟩ := T.g_MOST_LETTERS
  refine F.ok sc__law_text (fun vs H Q E h => ln_law_text h) (fun cdv A outer s H vs Q E hr h => ⟨t_law_text K, ?_, rd_law_text  h⟩)
  exact (pss_cons (ps_if (pt_cmpR (opEq hr.units) (pe_ix ix_seq (pv 0) pe_int (fun _ _ => rfl)) pe_str (nomark _)) (pss_one (ps_ret (pe_op opAdd (pe_op opAdd (pe_op opAdd (pe_op opAdd pe_str (pe_ix ix_seq (pv 0) pe_int (fun _ _ => rfl))) pe_str) (pe_callTy call_str_int rfl T.b_str Pk.boot_t_str (pa_cons (pe_ix ix_seq (pv 0) pe_int (fun _ _ => rfl)) pa_nil))) pe_str))) pss_nil)
    (pss_cons (ps_set (i := 1) sc__law_text.nd rfl (Or.inl rfl) (pe_op opAdd (pe_ix ix_seq (pe_lst (pa_cons pe_str (pa_cons pe_str pa_nil))) (pe_callTy callInt rfl T.b_int Pk.boot_t_int (pa_cons (pe_ix ix_seq (pv 0) pe_int (fun _ _ => rfl)) pa_nil)) (fun _ _ => rfl)) (pe_ix ix_seq (pe_lst (pa_cons pe_str (pa_cons pe_str pa_nil))) (pe_callTy callInt rfl T.b_int Pk.boot_t_int (pa_cons (pe_ix ix_seq (pv 0) pe_int (fun _ _ => rfl)) pa_nil)) (fun _ _ => rfl))))
    (pss_one (ps_ret (pe_op opAdd (pe_op opAdd (pe_op opAdd (pe_op opAdd (pe_op opAdd (pe_op opAdd (pe_op opAdd (pe_op opAdd pe_str (pe_ix ix_seq (pv 0) pe_int (fun _ _ => rfl))) pe_str) (pe_callTy call_str_int rfl T.b_str Pk.boot_t_str (pa_cons (pe_callB callLen rfl T.b_len Pk.boot_len (pa_cons (pe_ix ix_seq (pv 0) pe_int (fun _ _ => rfl)) pa_nil)) pa_nil))) pe_str) (pv 1)) pe_str) (pe_ix ix_seq (pv 0) pe_int (fun _ _ => rfl))) pe_str)))))
theorem ok_run_at {f : Addr} {fd : FuncData} (F : Fun K "run_at" "run_at" s_run_at f fd) (T : Bl mg)   : FnOk P w K mg base CX0 1 f fd P_run_at (sp_run_at K) := by
  obtain ⟨t_BARRED_SIGN, g_BARRED_SIGN⟩ := T.g_BARRED_SIGN
  obtain ⟨t_FIRST_SIGN, g_FIRST_SIGN⟩ := T.g_FIRST_SIGN
  obtain ⟨t_LAST_SIGN, g_LAST_SIGN⟩ := T.g_LAST_SIGN
  obtain ⟨t_LONGEST_NAME, g_LONGEST_NAME⟩ := T.g_LONGEST_NAME
  obtain ⟨t_MOST_BACK, g_MOST_BACK⟩ := T.g_MOST_BACK
  obtain ⟨t_MOST_LETTERS, g_MOST_LETTERS⟩ := T.g_MOST_LETTERS
  refine F.ok sc_run_at (fun vs H Q E h => ln_run_at h) (fun cdv A outer s H vs Q E hr h => ⟨t_run_at K, ?_, rd_run_at  h⟩)
  exact (pss_cons (ps_set (i := 5) sc_run_at.nd rfl (Or.inl rfl) (pv 1))
    (pss_cons (ps_while PassesOwn.never (PW.pt (pw_and (pt_cmpR opLt (pv 5) (pe_callB callLen rfl T.b_len Pk.boot_len (pa_cons (pv 0) pa_nil)) (nomark _)) (pw_and (pt_cmpR opLt (pv 5) (pe_op opAdd (pv 1) (pv 4)) (nomark _)) (pw_and1 (pt_chain opLe opLe (pv 2) (pe_ix ix_seq (pv 0) (pv 5) (fun _ _ => rfl)) (pv 3)))))) (pss_one (ps_set (i := 5) sc_run_at.nd rfl (Or.inl rfl) (pe_op opAdd (pv 5) pe_int))))
    (pss_one (ps_ret (pe_tup (pa_cons (pe_slice sl_str (pv 0) (po_some (pv 1)) (po_some (pv 5))) (pa_cons (pv 5) pa_nil)))))))
theorem ok_head_at {f : Addr} {fd : FuncData} (F : Fun K "head_at" "head_at" s_head_at f fd) (T : Bl mg)  (E_BadFrame : ErrK K mg "BadFrame" C.BadFrame) (i_BadFrame : ErrI P w K mg base 1 C.BadFrame P_BadFrame___init__ (rSup K C.BadFrame)) (f_run_at : Cal P w K mg base CX0 1 "run_at" P_run_at [] (sp_run_at K)) : FnOk P w K mg base (L2.CX P w) 3 f fd P_head_at (sp_head_atX K C) := by
  obtain ⟨t_BARRED_SIGN, g_BARRED_SIGN⟩ := T.g_BARRED_SIGN
  obtain ⟨t_FIRST_SIGN, g_FIRST_SIGN⟩ := T.g_FIRST_SIGN
  obtain ⟨t_LAST_SIGN, g_LAST_SIGN⟩ := T.g_LAST_SIGN
  obtain ⟨t_LONGEST_NAME, g_LONGEST_NAME⟩ := T.g_LONGEST_NAME
  obtain ⟨t_MOST_BACK, g_MOST_BACK⟩ := T.g_MOST_BACK
  obtain ⟨t_MOST_LETTERS, g_MOST_LETTERS⟩ := T.g_MOST_LETTERS
  refine F.okX sc_head_at (fun vs H Q E h => ln_head_atX h) (fun cdv A outer s H vs Q E hr h => ⟨t_head_atX K C E, ?_, rd_head_atX  h⟩)
  exact (pss_cons (ps_asg (pe_cal f_run_at hr pass0 (pa_cons (pv 0) (pa_cons (pv 1) (pa_cons pe_str (pa_cons pe_str (pa_cons (pe_glob rfl g_LONGEST_NAME ⟨_, rfl⟩) pa_nil)))))) (pg_tup rfl (pgs_cons (pg_name (i := 4) sc_head_at.nd rfl (Or.inl rfl)) (pgs_cons (pg_name (i := 1) sc_head_at.nd rfl (Or.inl rfl)) pgs_nil))))
    (pss_cons (ps_if (pt_cmpR (opEq hr.units) (pv 1) (pe_callB callLen rfl T.b_len Pk.boot_len (pa_cons (pv 0) pa_nil)) (nomark _)) (pss_one (ps_ret pe_non)) pss_nil)
    (pss_cons (ps_if (PW.pt (pw_or (pt_cmpR (opEq hr.units) (pv 4) pe_str (nomark _)) (pw_or1 (pt_cmpR (opNe hr.units) (pe_ix ix_seq (pv 0) (pv 1) (fun _ _ => rfl)) pe_str (nomark _))))) (pss_one (ps_raise rfl (takes_of rfl rfl rfl rfl) (pmk_sup E_BadFrame i_BadFrame hr))) pss_nil)
    (pss_cons (ps_asg (pe_cal f_run_at hr pass0 (pa_cons (pv 0) (pa_cons (pe_op opAdd (pv 1) pe_int) (pa_cons pe_str (pa_cons pe_str (pa_cons (pe_callB callLen rfl T.b_len Pk.boot_len (pa_cons (pe_callTy call_str_int rfl T.b_str Pk.boot_t_str (pa_cons (pv 2) pa_nil)) pa_nil)) pa_nil)))))) (pg_tup rfl (pgs_cons (pg_name (i := 5) sc_head_at.nd rfl (Or.inl rfl)) (pgs_cons (pg_name (i := 1) sc_head_at.nd rfl (Or.inl rfl)) pgs_nil))))
    (pss_cons (ps_if (PW.pt (pw_or (pt_val (pe_bm PySem.F.plainAttrs_str PySem.F.slot_str_startswith PySem.F.type_str_startswith mt_startswith (pv 5) (pa_cons pe_str pa_nil))) (pw_or1 (PW.pt (pw_and (pt_cmpR (opNe hr.units) (pv 5) pe_str (nomark _)) (pw_and1 (pt_cmpR opGt (pe_callTy callInt rfl T.b_int Pk.boot_t_int (pa_cons (pv 5) pa_nil)) (pv 2) (nomark _)))))))) (pss_one (ps_raise rfl (takes_of rfl rfl rfl rfl) (pmk_sup E_BadFrame i_BadFrame hr))) pss_nil)
    (pss_cons (ps_if (pt_cmpR (opEq hr.units) (pv 1) (pe_callB callLen rfl T.b_len Pk.boot_len (pa_cons (pv 0) pa_nil)) (nomark _)) (pss_one (ps_ret pe_non)) pss_nil)
    (pss_cons (ps_if (PW.pt (pw_or (pt_cmpR (opEq hr.units) (pv 5) pe_str (nomark _)) (pw_or1 (pt_cmpR (opNe hr.units) (pe_ix ix_seq (pv 0) (pv 1) (fun _ _ => rfl)) (pv 3) (nomark _))))) (pss_one (ps_raise rfl (takes_of rfl rfl rfl rfl) (pmk_sup E_BadFrame i_BadFrame hr))) pss_nil)
    (pss_one (ps_ret (pe_tup (pa_cons (pv 4) (pa_cons (pe_callTy callInt rfl T.b_int Pk.boot_t_int (pa_cons (pv 5) pa_nil)) (pa_cons (pe_op opAdd (pv 1) pe_int) pa_nil)))))))))))))
theorem ok_back_at {f : Addr} {fd : FuncData} (F : Fun K "back_at" "back_at" s_back_at f fd) (T : Bl mg)  (f_head_at : Cal P w K mg base (L2.CX P w) 3 "head_at" P_head_at [] (sp_head_atX K C)) : FnOk P w K mg base (L2.CX P w) 4 f fd P_back_at (sp_back_atX K C) := by
  obtain ⟨t_BARRED_SIGN, g_BARRED_SIGN⟩ := T.g_BARRED_SIGN
  obtain ⟨t_FIRST_SIGN, g_FIRST_SIGN⟩ := T.g_FIRST_SIGN
  obtain ⟨t_LAST_SIGN, g_LAST_SIGN⟩ := T.g_LAST_SIGN
  obtain ⟨t_LONGEST_NAME, g_LONGEST_NAME⟩ := T.g_LONGEST_NAME
  obtain ⟨t_MOST_BACK, g_MOST_BACK⟩ := T.g_MOST_BACK
  obtain ⟨t_MOST_LETTERS, g_MOST_LETTERS⟩ := T.g_MOST_LETTERS
  refine F.okX sc_back_at (fun vs H Q E h => ln_back_atX h) (fun cdv A outer s H vs Q E hr h => ⟨t_back_atX K C E, ?_, rd_back_atX  h⟩)
  exact (pss_cons (ps_set (i := 2) sc_back_at.nd rfl (Or.inl rfl) (pe_cal f_head_at hr (passes_call (takes_of rfl rfl rfl rfl) fun _ _ _ _ z => z) (pa_cons (pv 0) (pa_cons (pv 1) (pa_cons (pe_glob rfl g_MOST_BACK ⟨_, rfl⟩) (pa_cons pe_str pa_nil))))))
    (pss_cons (ps_if (pt_cmpR opIsN (pv 2) pe_non (nomark _)) (pss_one (ps_ret pe_non)) pss_nil)
    (pss_cons (ps_asg (pv 2) (pg_tup rfl (pgs_cons (pg_name (i := 3) sc_back_at.nd rfl (Or.inl rfl)) (pgs_cons (pg_name (i := 4) sc_back_at.nd rfl (Or.inl rfl)) (pgs_cons (pg_name (i := 1) sc_back_at.nd rfl (Or.inl rfl)) pgs_nil)))))
    (pss_one (ps_ret (pe_tup (pa_cons (pe_tup (pa_cons pe_str (pa_cons (pv 3) (pa_cons (pv 4) pa_nil)))) (pa_cons (pv 1) pa_nil))))))))
theorem ok_is_letters {f : Addr} {fd : FuncData} (F : Fun K "is_letters" "is_letters" s_is_letters f fd) (T : Bl mg)   : FnOk P w K mg base CX0 1 f fd P_is_letters (sp_is_let41 K) := by
  obtain ⟨t_BARRED_SIGN, g_BARRED_SIGN⟩ := T.g_BARRED_SIGN
  obtain ⟨t_FIRST_SIGN, g_FIRST_SIGN⟩ := T.g_FIRST_SIGN
  obtain ⟨t_LAST_SIGN, g_LAST_SIGN⟩ := T.g_LAST_SIGN
  obtain ⟨t_LONGEST_NAME, g_LONGEST_NAME⟩ := T.g_LONGEST_NAME
  obtain ⟨t_MOST_BACK, g_MOST_BACK⟩ := T.g_MOST_BACK
  obtain ⟨t_MOST_LETTERS, g_MOST_LETTERS⟩ := T.g_MOST_LETTERS
  refine F.ok sc_is_letters (fun vs H Q E h => ln_is_let41 h) (fun cdv A outer s H vs Q E hr h => ⟨t_is_let41 K, ?_, rd_is_let41  h⟩)
  exact (pss_cons (ps_if (PW.pt (pw_or (pt_not (pt_val (pe_callB call_isi rfl T.b_isinstance Pk.boot_isinstance (pa_cons (pv 0) (pa_cons (pe_bltn (v := .ty "str") rfl T.b_str Pk.boot_t_str rfl) pa_nil))))) (pw_or1 (pt_cmpR (opEq hr.units) (pe_callB callLen rfl T.b_len Pk.boot_len (pa_cons (pv 0) pa_nil)) pe_int (nomark _))))) (pss_one (ps_ret pe_bl)) pss_nil)
    (pss_one (ps_ret (pe_callB (cr_all rfl) rfl T.b_all Pk.boot_all (pa_cons (pe_lc (own := [("sign", 1)]) (g := (gName 1)) (tt := tYes) rfl sc_is_letters.nd (pi_str (pv 0)) (blkOk_by (N := N_is_letters) (own := [("sign", 1)]) (sc := defScope s_is_letters) (by decide +kernel)) (fun _ _ _ _ _ => (pg_name (i := 1) sc_is_letters.nd rfl (Or.inl rfl))) (fun _ _ _ _ _ => pts_nil) (fun _ _ _ _ _ => (pe_and (pe_chain opLe opLe (pe_glob rfl g_FIRST_SIGN ⟨_, rfl⟩) (pe_callB call_ord rfl T.b_ord Pk.boot_ord (pa_cons (pv 1) pa_nil)) (pe_glob rfl g_LAST_SIGN ⟨_, rfl⟩)) (pe_one (pe_cmpR (opNe hr.units) (pe_callB call_ord rfl T.b_ord Pk.boot_ord (pa_cons (pv 1) pa_nil)) (pe_glob rfl g_BARRED_SIGN ⟨_, rfl⟩) (nomark _)))))) pa_nil)))))
theorem ok_body_at {f : Addr} {fd : FuncData} (F : Fun K "body_at" "body_at" s_body_at f fd) (T : Bl mg)  (E_BadFrame : ErrK K mg "BadFrame" C.BadFrame) (i_BadFrame : ErrI P w K mg base 1 C.BadFrame P_BadFrame___init__ (rSup K C.BadFrame)) (f_is_letters : Cal P w K mg base CX0 1 "is_letters" P_is_letters [] (sp_is_let41 K)) : FnOk P w K mg base (L2.CX P w) 3 f fd P_body_at (sp_body_atX K C) := by
  obtain ⟨t_BARRED_SIGN, g_BARRED_SIGN⟩ := T.g_BARRED_SIGN
  obtain ⟨t_FIRST_SIGN, g_FIRST_SIGN⟩ := T.g_FIRST_SIGN
  obtain ⟨t_LAST_SIGN, g_LAST_SIGN⟩ := T.g_LAST_SIGN
  obtain ⟨t_LONGEST_NAME, g_LONGEST_NAME⟩ := T.g_LONGEST_NAME
  obtain ⟨t_MOST_BACK, g_MOST_BACK⟩ := T.g_MOST_BACK
  obtain ⟨t_MOST_LETTERS, g_MOST_LETTERS⟩ := T.g_MOST_LETTERS
  refine F.okX sc_body_at (fun vs H Q E h => ln_body_atX h) (fun cdv A outer s H vs Q E hr h => ⟨t_body_atX K C E, ?_, rd_body_atX  h⟩)
  exact (pss_cons (ps_set (i := 3) sc_body_at.nd rfl (Or.inl rfl) (pe_bm PySem.F.plainAttrs_str PySem.F.slot_str_startswith PySem.F.type_str_startswith mt_startswith3 (pv 0) (pa_cons pe_str (pa_cons (pv 1) pa_nil))))
    (pss_cons (ps_set (i := 1) sc_body_at.nd rfl (Or.inl rfl) (pe_ifExp (pt_val (pv 3)) (pe_op opAdd (pv 1) pe_int) (pv 1)))
    (pss_cons (ps_set (i := 4) sc_body_at.nd rfl (Or.inl rfl) (pe_bm PySem.F.plainAttrs_str PySem.F.slot_str_startswith PySem.F.type_str_startswith mt_startswith3 (pv 0) (pa_cons pe_str (pa_cons (pv 1) pa_nil))))
    (pss_cons (ps_set (i := 1) sc_body_at.nd rfl (Or.inl rfl) (pe_ifExp (pt_val (pv 4)) (pe_op opAdd (pv 1) pe_int) (pv 1)))
    (pss_cons (ps_if (pt_cmpR (opEq hr.units) (pv 1) (pe_callB callLen rfl T.b_len Pk.boot_len (pa_cons (pv 0) pa_nil)) (nomark _)) (pss_one (ps_ret pe_non)) pss_nil)
    (pss_cons (ps_if (pt_cmpR (opNe hr.units) (pe_ix ix_seq (pv 0) (pv 1) (fun _ _ => rfl)) pe_str (nomark _)) (pss_one (ps_raise rfl (takes_of rfl rfl rfl rfl) (pmk_sup E_BadFrame i_BadFrame hr))) pss_nil)
    (pss_cons (ps_set (i := 5) sc_body_at.nd rfl (Or.inl rfl) (pe_slice sl_str (pv 0) (po_some (pe_op opAdd (pv 1) pe_int)) (po_some (pe_op opAdd (pe_op opAdd (pv 1) pe_int) (pv 2)))))
    (pss_cons (ps_set (i := 1) sc_body_at.nd rfl (Or.inl rfl) (pe_op opAdd (pe_op opAdd (pv 1) pe_int) (pv 2)))
    (pss_cons (ps_if (PW.pt (pw_and (pt_cmpR (opNe hr.units) (pv 5) pe_str (nomark _)) (pw_and1 (pt_not (pt_val (pe_cal f_is_letters hr pass0 (pa_cons (pv 5) pa_nil))))))) (pss_one (ps_raise rfl (takes_of rfl rfl rfl rfl) (pmk_sup E_BadFrame i_BadFrame hr))) pss_nil)
    (pss_cons (ps_if (pt_cmpR opGe (pv 1) (pe_callB callLen rfl T.b_len Pk.boot_len (pa_cons (pv 0) pa_nil)) (nomark _)) (pss_one (ps_ret pe_non)) pss_nil)
    (pss_cons (ps_if (pt_cmpR (opNe hr.units) (pe_ix ix_seq (pv 0) (pv 1) (fun _ _ => rfl)) pe_str (nomark _)) (pss_one (ps_raise rfl (takes_of rfl rfl rfl rfl) (pmk_sup E_BadFrame i_BadFrame hr))) pss_nil)
    (pss_one (ps_ret (pe_tup (pa_cons (pv 5) (pa_cons (pv 3) (pa_cons (pv 4) (pa_cons (pe_op opAdd (pv 1) pe_int) pa_nil))))))))))))))))))
theorem ok_data_at {f : Addr} {fd : FuncData} (F : Fun K "data_at" "data_at" s_data_at f fd) (T : Bl mg)  (f_body_at : Cal P w K mg base (L2.CX P w) 3 "body_at" P_body_at [] (sp_body_atX K C)) (f_head_at : Cal P w K mg base (L2.CX P w) 3 "head_at" P_head_at [] (sp_head_atX K C)) : FnOk P w K mg base (L2.CX P w) 4 f fd P_data_at (sp_data_atX K C) := by
  obtain ⟨t_BARRED_SIGN, g_BARRED_SIGN⟩ := T.g_BARRED_SIGN
  obtain ⟨t_FIRST_SIGN, g_FIRST_SIGN⟩ := T.g_FIRST_SIGN
  obtain ⟨t_LAST_SIGN, g_LAST_SIGN⟩ := T.g_LAST_SIGN
  obtain ⟨t_LONGEST_NAME, g_LONGEST_NAME⟩ := T.g_LONGEST_NAME
  obtain ⟨t_MOST_BACK, g_MOST_BACK⟩ := T.g_MOST_BACK
  obtain ⟨t_MOST_LETTERS, g_MOST_LETTERS⟩ := T.g_MOST_LETTERS
  refine F.okX sc_data_at (fun vs H Q E h => ln_data_atX h) (fun cdv A outer s H vs Q E hr h => ⟨t_data_atX K C E, ?_, rd_data_atX  h⟩)
  exact (pss_cons (ps_set (i := 2) sc_data_at.nd rfl (Or.inl rfl) (pe_cal f_head_at hr (passes_call (takes_of rfl rfl rfl rfl) fun _ _ _ _ z => z) (pa_cons (pv 0) (pa_cons (pv 1) (pa_cons (pe_glob rfl g_MOST_LETTERS ⟨_, rfl⟩) (pa_cons pe_str pa_nil))))))
    (pss_cons (ps_if (pt_cmpR opIsN (pv 2) pe_non (nomark _)) (pss_one (ps_ret pe_non)) pss_nil)
    (pss_cons (ps_asg (pv 2) (pg_tup rfl (pgs_cons (pg_name (i := 3) sc_data_at.nd rfl (Or.inl rfl)) (pgs_cons (pg_name (i := 4) sc_data_at.nd rfl (Or.inl rfl)) (pgs_cons (pg_name (i := 1) sc_data_at.nd rfl (Or.inl rfl)) pgs_nil)))))
    (pss_cons (ps_set (i := 5) sc_data_at.nd rfl (Or.inl rfl) (pe_cal f_body_at hr (passes_call (takes_of rfl rfl rfl rfl) fun _ _ _ _ z => z) (pa_cons (pv 0) (pa_cons (pv 1) (pa_cons (pv 4) pa_nil)))))
    (pss_cons (ps_if (pt_cmpR opIsN (pv 5) pe_non (nomark _)) (pss_one (ps_ret pe_non)) pss_nil)
    (pss_cons (ps_asg (pv 5) (pg_tup rfl (pgs_cons (pg_name (i := 6) sc_data_at.nd rfl (Or.inl rfl)) (pgs_cons (pg_name (i := 7) sc_data_at.nd rfl (Or.inl rfl)) (pgs_cons (pg_name (i := 8) sc_data_at.nd rfl (Or.inl rfl)) (pgs_cons (pg_name (i := 1) sc_data_at.nd rfl (Or.inl rfl)) pgs_nil))))))
    (pss_one (ps_ret (pe_tup (pa_cons (pe_tup (pa_cons pe_str (pa_cons (pv 3) (pa_cons (pv 6) (pa_cons (pv 7) (pa_cons (pv 8) pa_nil)))))) (pa_cons (pv 1) pa_nil)))))))))))
theorem ok_frame_at {f : Addr} {fd : FuncData} (F : Fun K "frame_at" "frame_at" s_frame_at f fd) (T : Bl mg)  (E_BadFrame : ErrK K mg "BadFrame" C.BadFrame) (i_BadFrame : ErrI P w K mg base 1 C.BadFrame P_BadFrame___init__ (rSup K C.BadFrame)) (f_back_at : Cal P w K mg base (L2.CX P w) 4 "back_at" P_back_at [] (sp_back_atX K C)) (f_data_at : Cal P w K mg base (L2.CX P w) 4 "data_at" P_data_at [] (sp_data_atX K C)) : FnOk P w K mg base (L2.CX P w) 5 f fd P_frame_at (sp_frame_atX K C) := by
  obtain ⟨t_BARRED_SIGN, g_BARRED_SIGN⟩ := T.g_BARRED_SIGN
  obtain ⟨t_FIRST_SIGN, g_FIRST_SIGN⟩ := T.g_FIRST_SIGN
  obtain ⟨t_LAST_SIGN, g_LAST_SIGN⟩ := T.g_LAST_SIGN
  obtain ⟨t_LONGEST_NAME, g_LONGEST_NAME⟩ := T.g_LONGEST_NAME
  obtain ⟨t_MOST_BACK, g_MOST_BACK⟩ := T.g_MOST_BACK
  obtain ⟨t_MOST_LETTERS, g_MOST_LETTERS⟩ := T.g_MOST_LETTERS
  refine F.okX sc_frame_at (fun vs H Q E h => ln_frame_atX h) (fun cdv A outer s H vs Q E hr h => ⟨t_frame_atX K C E, ?_, rd_frame_atX  h⟩)
  exact (pss_cons (ps_if (pt_cmpR (opEq hr.units) (pe_ix ix_seq (pv 0) (pv 1) (fun _ _ => rfl)) pe_str (nomark _)) (pss_one (ps_ret (pe_cal f_data_at hr (passes_call (takes_of rfl rfl rfl rfl) fun _ _ _ _ z => z) (pa_cons (pv 0) (pa_cons (pe_op opAdd (pv 1) pe_int) pa_nil))))) pss_nil)
    (pss_cons (ps_if (pt_cmpR (opEq hr.units) (pe_ix ix_seq (pv 0) (pv 1) (fun _ _ => rfl)) pe_str (nomark _)) (pss_one (ps_ret (pe_cal f_back_at hr (passes_call (takes_of rfl rfl rfl rfl) fun _ _ _ _ z => z) (pa_cons (pv 0) (pa_cons (pe_op opAdd (pv 1) pe_int) pa_nil))))) pss_nil)
    (pss_one (ps_raise rfl (takes_of rfl rfl rfl rfl) (pmk_sup E_BadFrame i_BadFrame hr)))))
theorem ok_read_frames {f : Addr} {fd : FuncData} (F : Fun K "read_frames" "read_frames" s_read_frames f fd) (T : Bl mg)  (f_frame_at : Cal P w K mg base (L2.CX P w) 5 "frame_at" P_frame_at [] (sp_frame_atX K C)) (E_BadFrame : ErrK K mg "BadFrame" C.BadFrame) (i_BadFrame : ErrI P w K mg base 1 C.BadFrame P_BadFrame___init__ (rSup K C.BadFrame)) : FnOk P w K mg base (L2.CX P w) 6 f fd P_read_frames (sp_read_framesX K C) := by
  obtain ⟨t_BARRED_SIGN, g_BARRED_SIGN⟩ := T.g_BARRED_SIGN
  obtain ⟨t_FIRST_SIGN, g_FIRST_SIGN⟩ := T.g_FIRST_SIGN
  obtain ⟨t_LAST_SIGN, g_LAST_SIGN⟩ := T.g_LAST_SIGN
  obtain ⟨t_LONGEST_NAME, g_LONGEST_NAME⟩ := T.g_LONGEST_NAME
  obtain ⟨t_MOST_BACK, g_MOST_BACK⟩ := T.g_MOST_BACK
  obtain ⟨t_MOST_LETTERS, g_MOST_LETTERS⟩ := T.g_MOST_LETTERS
  refine F.okX sc_read_frames (fun vs H Q E h => ln_read_framesX h) (fun cdv A outer s H vs Q E hr h => ⟨t_read_framesX K C E, ?_, rd_read_framesX  h⟩)
  exact (pss_cons (ps_if (pt_not (pt_val (pe_callB call_isi rfl T.b_isinstance Pk.boot_isinstance (pa_cons (pv 0) (pa_cons (pe_bltn (v := .ty "str") rfl T.b_str Pk.boot_t_str rfl) pa_nil))))) (pss_one (ps_raise rfl (takes_of rfl rfl rfl rfl) (pmk_sup E_BadFrame i_BadFrame hr))) pss_nil)
    (pss_cons (ps_set (i := 1) sc_read_frames.nd rfl (Or.inl rfl) (pe_lst pa_nil))
    (pss_cons (ps_set (i := 2) sc_read_frames.nd rfl (Or.inl rfl) pe_int)
    (pss_cons (ps_while (passes_of rfl) (pt_cmpR opLt (pv 2) (pe_callB callLen rfl T.b_len Pk.boot_len (pa_cons (pv 0) pa_nil)) (nomark _)) (pss_cons (ps_set (i := 3) sc_read_frames.nd rfl (Or.inl rfl) (pe_cal f_frame_at hr (passes_call (takes_of rfl rfl rfl rfl) fun _ _ _ _ z => z) (pa_cons (pv 0) (pa_cons (pv 2) pa_nil))))
    (pss_cons (ps_if (pt_cmpR opIsN (pv 3) pe_non (nomark _)) (pss_one (ps_ret (pe_tup (pa_cons (pv 1) (pa_cons (pe_slice sl_str (pv 0) (po_some (pv 2)) po_none) pa_nil))))) pss_nil)
    (pss_cons (ps_asg (pv 3) (pg_tup rfl (pgs_cons (pg_name (i := 4) sc_read_frames.nd rfl (Or.inl rfl)) (pgs_cons (pg_name (i := 2) sc_read_frames.nd rfl (Or.inl rfl)) pgs_nil))))
    (pss_one (ps_expr (pe_bm PySem.F.plainAttrs_list PySem.F.slot_list_append PySem.F.type_list_append mt_append (pv 1) (pa_cons (pv 4) pa_nil))))))))
    (pss_one (ps_ret (pe_tup (pa_cons (pv 1) (pa_cons pe_str pa_nil)))))))))
theorem ok__law_told {f : Addr} {fd : FuncData} (F : Fun K "_law_told" "_law_told" s__law_told f fd) (T : Bl mg)  (E_PipeError : ErrK K mg "PipeError" C.PipeError) (f_read_frames : Cal P w K mg base (L2.CX P w) 6 "read_frames" P_read_frames [] (sp_read_framesX K C)) (E_BadFrame : ErrK K mg "BadFrame" C.BadFrame) (E_NoText : ErrK K mg "NoText" C.NoText) : FnOk P w K mg base CX0 7 f fd P__law_told (sp_law_told K C) := by
  obtain ⟨t_BARRED_SIGN, g_BARRED_SIGN⟩ := T.g_BARRED_SIGN
  obtain ⟨t_FIRST_SIGN, g_FIRST_SIGN⟩ := T.g_FIRST_SIGN
  obtain ⟨t_LAST_SIGN, g_LAST_SIGN⟩ := T.g_LAST_SIGN
  obtain ⟨t_LONGEST_NAME, g_LONGEST_NAME⟩ := T.g_LONGEST_NAME
  obtain ⟨t_MOST_BACK, g_MOST_BACK⟩ := T.g_MOST_BACK
  obtain ⟨t_MOST_LETTERS, g_MOST_LETTERS⟩ := T.g_MOST_LETTERS
  refine F.ok sc__law_told (fun vs H Q E h => ln_law_told h) (fun cdv A outer s H vs Q E hr h => ⟨t_law_told K C, ?_, rd_law_told  h⟩)
  exact (pss_one (ps_try_as (i := 1) (tb := (fun W => (tRet (tCallS (sp_read_framesX K C) (WE W) (tCons (tVar 0) tNil))))) (ts := (fun a cls d => (tRet (tIf (tAnd (tB (tCB (rIsC K a cls d) (tCons (tVar 1) (tCons (tC (.ref C.BadFrame)) tNil)))) (tNot (tB (tCB (rIsC K a cls d) (tCons (tVar 1) (tCons (tC (.ref C.NoText)) tNil)))))) (tC (.str "bad")) (tC (.str "other")))))) (Wout := fun _ _ _ _ => False) rfl rfl sc__law_told.nd rfl rfl ⟨rfl, by decide, Or.inl E_PipeError.at_⟩ takes0
      (fun W pn xe tk _ => (pss_one (ps_ret (pe_calS f_read_frames hr (fun σ => passAt tk σ) (pa_cons (pv 0) pa_nil)))))
      (fun a oe cls d pn hz hf => (pss_one (ps_ret (pe_ifExp (PW.pt (pw_and (pt_val (pe_callB (call_isC hz hf) rfl T.b_isinstance Pk.boot_isinstance (pa_cons (pv 1) (pa_cons (pe_glob rfl E_BadFrame.at_ rfl) pa_nil)))) (pw_and1 (pt_not (pt_val (pe_callB (call_isC hz hf) rfl T.b_isinstance Pk.boot_isinstance (pa_cons (pv 1) (pa_cons (pe_glob rfl E_NoText.at_ rfl) pa_nil)))))))) pe_str pe_str))))))
theorem ok_law {f : Addr} {fd : FuncData} (F : Fun K "law" "law" s_law f fd) (T : Bl mg) (fx_FxB : FxB K C) (f__law_told : Cal P w K mg base CX0 7 "_law_told" P__law_told [] (sp_law_told K C)) (f__law_alike : CalG P w K mg base CX0 1 "_law_alike" P__law_alike (sp_law_alike K)) (f__law_read : Cal P w K mg base CX0 3 "_law_read" P__law_read [] (sp_law_read K)) (f__law_take : Cal P w K mg base CX0 1 "_law_take" P__law_take [] (sp_law_take K)) (f__law_bent : Cal P w K mg base CX0 2 "_law_bent" P__law_bent [] (sp_law_bent K)) (f__law_draw_frame : Cal P w K mg base CX0 3 "_law_draw_frame" P__law_draw_frame [] (sp_law_draw_frame K)) (f__law_text : Cal P w K mg base CX0 1 "_law_text" P__law_text [] (sp_law_text K)) (f__law_bag : Cal P w K mg base CX0 1 "_law_bag" P__law_bag [] (sp_law_bag K)) : FnG P w K mg base CX0 8 f fd P_law (sp_law K) := by
  obtain ⟨t_BARRED_SIGN, g_BARRED_SIGN⟩ := T.g_BARRED_SIGN
  obtain ⟨t_FIRST_SIGN, g_FIRST_SIGN⟩ := T.g_FIRST_SIGN
  obtain ⟨t_LAST_SIGN, g_LAST_SIGN⟩ := T.g_LAST_SIGN
  obtain ⟨t_LONGEST_NAME, g_LONGEST_NAME⟩ := T.g_LONGEST_NAME
  obtain ⟨t_MOST_BACK, g_MOST_BACK⟩ := T.g_MOST_BACK
  obtain ⟨t_MOST_LETTERS, g_MOST_LETTERS⟩ := T.g_MOST_LETTERS
  refine okG F sc_law (fun vs H Q E h => ln_law h) (fun cdv A outer s H vs Q E gd hr h => ⟨t_law K C, ?_, rd_law fx_FxB h⟩)
  exact (pss_cons (ps_set (i := 1) sc_law.nd rfl (Or.inr rfl) (pe_cal f__law_bag hr pass0 (pa_cons (pv 0) pa_nil)))
    (pss_cons (ps_for PassesOwn.never rfl (pi_range1 rfl T.b_range (pa_cons pe_int pa_nil)) (pg_name (i := 2) sc_law.nd rfl (Or.inl rfl)) (pss_cons (ps_set (i := 4) sc_law.nd rfl (Or.inl rfl) (pe_join pe_str (pe_lc (own := [("_law_k", 3)]) (g := (gName 3)) (tt := tYes) rfl sc_law.nd (pi_range1 rfl T.b_range (pa_cons (pe_op opAdd pe_int (pe_cal f__law_take hr pass0 (pa_cons (pv 1) (pa_cons pe_int pa_nil)))) pa_nil)) (blkOk_by (N := N_law) (own := [("_law_k", 3)]) (sc := defScope s_law) (by decide +kernel)) (fun _ _ _ _ _ => (pg_name (i := 3) sc_law.nd rfl (Or.inl rfl))) (fun _ _ _ _ _ => pts_nil) (fun _ _ _ _ _ => (pe_cal f__law_text hr pass0 (pa_cons (pe_cal f__law_draw_frame hr pass0 (pa_cons (pv 1) pa_nil)) pa_nil))))))
    (pss_cons (ps_for PassesOwn.never rfl (pi_range1 rfl T.b_range (pa_cons (pe_cal f__law_take hr pass0 (pa_cons (pv 1) (pa_cons pe_int pa_nil))) pa_nil)) (pg_name (i := 3) sc_law.nd rfl (Or.inl rfl)) (pss_one (ps_set (i := 4) sc_law.nd rfl (Or.inl rfl) (pe_cal f__law_bent hr pass0 (pa_cons (pv 1) (pa_cons (pv 4) pa_nil))))))
    (pss_cons (ps_set (i := 5) sc_law.nd rfl (Or.inl rfl) (pe_cal f__law_read hr pass0 (pa_cons (pv 4) pa_nil)))
    (pss_one (ps_for PassesOwn.never rfl (pi_range1 rfl T.b_range (pa_cons pe_int pa_nil)) (pg_name (i := 6) sc_law.nd rfl (Or.inl rfl)) (pss_one (ps_if (pt_not (pt_val (pe_calg f__law_alike gd hr pass0 (pa_cons (pe_cal f__law_told hr pass0 (pa_cons (pv 4) pa_nil)) (pa_cons (pe_ifExp (pt_cmpR opIsN (pv 5) pe_non (nomark _)) pe_str (pv 5)) pa_nil))))) (pss_one (ps_ret pe_bl)) pss_nil))))))))
    (pss_cons (ps_set (i := 7) sc_law.nd rfl (Or.inl rfl) (pe_lst (pa_cons pe_non (pa_cons pe_int (pa_cons pe_bl (pa_cons (pe_lst (pa_cons pe_str pa_nil)) (pa_cons (pe_tup (pa_cons pe_str pa_nil)) (pa_cons pe_dnewK (pa_cons (pe_lst pa_nil) (pa_cons (pe_disp (pps_cons pe_str pe_int pps_nil) rfl rfl nofun (by decide)) pa_nil))))))))))
    (pss_one (ps_ret (pe_cmpR (opEq hr.units) (pe_lc (own := [("_law_thing", 8)]) (g := (gName 8)) (tt := (tTest (tOp (rNeU K) (tCall (sp_law_told K C) [] E0 (tCons (tVar 8) tNil)) (tC (.str "bad"))))) rfl sc_law.nd (pi_list (pv 7)) (blkOk_by (N := N_law) (own := [("_law_thing", 8)]) (sc := defScope s_law) (by decide +kernel)) (fun _ _ _ _ _ => (pg_name (i := 8) sc_law.nd rfl (Or.inl rfl))) (fun _ _ _ _ _ => (pts_one (pt_cmpR (opNe hr.units) (pe_cal f__law_told hr pass0 (pa_cons (pv 8) pa_nil)) pe_str (nomark _)))) (fun _ _ _ _ _ => (pv 8))) (pe_lst pa_nil) (nomark _)))))))
end
theorem kit_false {K : PySem.W.Frag} {D C : Addr} (hd : PySem.W.hasDictIn K C = true) (ty : PySem.W.typeIn K (.ref C) = some (.type "type")) (s : PySem.W.subIn K (.ref D) (.ref C) = some false) (r : PySem.W.subIn K (.ref D) (.ref D) = some true) :
    PySem.W.kitOne K (.ref D) (.ref C) = some false := by
  have ne : D ≠ C := fun e => by
    subst e
    rw [s] at r
    cases r
  have ne2 : ((Value.ref D) == Value.ref C) = false := beq_eq_false_iff_ne.mpr fun e => ne (Value.ref.inj e)
  obtain ⟨cd, hc, _⟩ := PySem.W.any_some hd
  unfold PySem.W.kitOne
  rw [ne2, if_neg (by decide)]
  unfold PySem.W.kitCls
  dsimp only
  rw [hc, ty]
  exact s
theorem all_mk {l : PySem.W.OpenLaw} {w : World} {K : PySem.W.Frag} {h : Heap} {mg : Str → Option Value} {fa : Addr} (X : K.In h) (G : h.Ns mainGlobals mg) (hfa : mg "law" = some (.ref fa))
    {c_BadFrame : Addr} {nmBadFrame qnBadFrame : Str} {NBadFrame : Addr} {bsBadFrame : List Value} {snBadFrame : List Str} {sbBadFrame : List Value} {abBadFrame : Bool} {coBadFrame : Option Bool} {ddBadFrame : Option Addr} {m0BadFrame m1BadFrame m2BadFrame m3BadFrame m5BadFrame : Option Value}
    {c_NoText : Addr} {nmNoText qnNoText : Str} {NNoText : Addr} {bsNoText : List Value} {snNoText : List Str} {sbNoText : List Value} {abNoText : Bool} {coNoText : Option Bool} {ddNoText : Option Addr} {m0NoText m1NoText m2NoText m3NoText m5NoText : Option Value}
    {c_PipeError : Addr} {nmPipeError qnPipeError : Str} {NPipeError : Addr} {bsPipeError : List Value} {snPipeError : List Str} {sbPipeError : List Value} {abPipeError : Bool} {coPipeError : Option Bool} {ddPipeError : Option Addr} {m0PipeError m1PipeError m2PipeError m3PipeError m5PipeError : Option Value}
    {f0 : Addr} {od0 an0 : Option Addr} {oc0 kV0 dc0 pm0 cd0 ct0 : Value} {sl0 : Array (Option Value)}
    {f1 : Addr} {od1 an1 : Option Addr} {oc1 kV1 dc1 pm1 cd1 ct1 : Value} {sl1 : Array (Option Value)}
    {f2 : Addr} {od2 an2 : Option Addr} {oc2 kV2 dc2 pm2 cd2 ct2 : Value} {sl2 : Array (Option Value)}
    {f3 : Addr} {od3 an3 : Option Addr} {oc3 kV3 dc3 pm3 cd3 ct3 : Value} {sl3 : Array (Option Value)}
    {f4 : Addr} {od4 an4 : Option Addr} {oc4 kV4 dc4 pm4 cd4 ct4 : Value} {sl4 : Array (Option Value)}
    {f5 : Addr} {od5 an5 : Option Addr} {oc5 kV5 dc5 pm5 cd5 ct5 : Value} {sl5 : Array (Option Value)}
    {f6 : Addr} {od6 an6 : Option Addr} {oc6 kV6 dc6 pm6 cd6 ct6 : Value} {sl6 : Array (Option Value)}
    {f7 : Addr} {od7 an7 : Option Addr} {oc7 kV7 dc7 pm7 cd7 ct7 : Value} {sl7 : Array (Option Value)}
    {f8 : Addr} {od8 an8 : Option Addr} {oc8 kV8 dc8 pm8 cd8 ct8 : Value} {sl8 : Array (Option Value)}
    {f9 : Addr} {od9 an9 : Option Addr} {oc9 kV9 dc9 pm9 cd9 ct9 : Value} {sl9 : Array (Option Value)}
    {f10 : Addr} {od10 an10 : Option Addr} {oc10 kV10 dc10 pm10 cd10 ct10 : Value} {sl10 : Array (Option Value)}
    {f11 : Addr} {od11 an11 : Option Addr} {oc11 kV11 dc11 pm11 cd11 ct11 : Value} {sl11 : Array (Option Value)}
    {f12 : Addr} {od12 an12 : Option Addr} {oc12 kV12 dc12 pm12 cd12 ct12 : Value} {sl12 : Array (Option Value)}
    {f13 : Addr} {od13 an13 : Option Addr} {oc13 kV13 dc13 pm13 cd13 ct13 : Value} {sl13 : Array (Option Value)}
    {f14 : Addr} {od14 an14 : Option Addr} {oc14 kV14 dc14 pm14 ct14 : Value} {sl14 : Array (Option Value)}
    {cc14 cda14 : Addr} {ccl14 cclB14 : Value} {cdd14 ccd14 : Option Addr} {ccs14 ccsB14 : Array (Option Value)} {va14 : Array Value} {fi14 : Str} {tf14 : Tok}
    {f15 : Addr} {od15 an15 : Option Addr} {oc15 kV15 dc15 pm15 cd15 ct15 : Value} {sl15 : Array (Option Value)}
    {f16 : Addr} {od16 an16 : Option Addr} {oc16 kV16 dc16 pm16 cd16 ct16 : Value} {sl16 : Array (Option Value)}
    {f17 : Addr} {od17 an17 : Option Addr} {oc17 kV17 dc17 pm17 cd17 ct17 : Value} {sl17 : Array (Option Value)}
    {f18 : Addr} {od18 an18 : Option Addr} {oc18 kV18 dc18 pm18 cd18 ct18 : Value} {sl18 : Array (Option Value)}
    {f19 : Addr} {od19 an19 : Option Addr} {oc19 kV19 dc19 pm19 cd19 ct19 : Value} {sl19 : Array (Option Value)}
    {f20 : Addr} {od20 an20 : Option Addr} {oc20 kV20 dc20 pm20 cd20 ct20 : Value} {sl20 : Array (Option Value)}
    {f21 : Addr} {od21 an21 : Option Addr} {oc21 kV21 dc21 pm21 cd21 ct21 : Value} {sl21 : Array (Option Value)}
    {f22 : Addr} {od22 an22 : Option Addr} {oc22 kV22 dc22 pm22 cd22 ct22 : Value} {sl22 : Array (Option Value)}
    {f23 : Addr} {od23 an23 : Option Addr} {oc23 kV23 dc23 pm23 cd23 ct23 : Value} {sl23 : Array (Option Value)}
    {f24 : Addr} {od24 an24 : Option Addr} {oc24 kV24 dc24 pm24 cd24 ct24 : Value} {sl24 : Array (Option Value)}
    {tk_BARRED_SIGN : Tok}
    {tk_FIRST_SIGN : Tok}
    {tk_LAST_SIGN : Tok}
    {tk_LONGEST_NAME : Tok}
    {tk_MOST_BACK : Tok}
    {tk_MOST_LETTERS : Tok}
    (aC_BadFrame : PySem.W.nsIn K mainGlobals "BadFrame" = some (some (.ref c_BadFrame)))
    (kl_BadFrame : K.lookup c_BadFrame = some (excClassObj nmBadFrame qnBadFrame c_BadFrame NBadFrame bsBadFrame [.ref c_PipeError, .type "ValueError", .type "Exception", .type "BaseException", .type "object"] true snBadFrame sbBadFrame abBadFrame coBadFrame ddBadFrame m0BadFrame m1BadFrame m2BadFrame m3BadFrame m5BadFrame "ValueError.__new__"))
    (sa_BadFrame : PySem.W.findIn K (.ref c_BadFrame) "__setattr__" = some (some (.builtin "object.__setattr__")))
    (ex_BadFrame : PySem.W.subIn K (.ref c_BadFrame) (.type "BaseException") = some true)
    (ty_BadFrame : PySem.W.typeIn K (.ref c_BadFrame) = some (.type "type"))
    (kc_BadFrame : PySem.W.keepIn K (.ref c_BadFrame) = true)
    (hd_BadFrame : PySem.W.hasDictIn K c_BadFrame = true)
    (ga_BadFrame : PySem.W.findIn K (.ref c_BadFrame) "__getattribute__" = some (some (.builtin "BaseException.__getattribute__")))
    (gg_BadFrame : PySem.W.findIn K (.ref c_BadFrame) "__getattr__" = some none)
    (ha_BadFrame : PySem.W.findIn K (.ref c_BadFrame) "__class__" = some (some (.builtin "object.__class__")))
    (hn_BadFrame : PySem.W.specialIn K (.builtin "object.__class__") "__get__" = some (some (.builtin "getset_descriptor.__get__")))
    (ht_BadFrame : PySem.W.takesIn K (.builtin "object.__class__") = some true)
    (hm_BadFrame : PySem.W.mroIn K c_BadFrame (.type "object") = some true)
    (su_BadFrame : PySem.W.subIn K (.ref c_BadFrame) (.ref c_PipeError) = some true)
    (aC_NoText : PySem.W.nsIn K mainGlobals "NoText" = some (some (.ref c_NoText)))
    (kl_NoText : K.lookup c_NoText = some (excClassObj nmNoText qnNoText c_NoText NNoText bsNoText [.ref c_PipeError, .type "ValueError", .type "Exception", .type "BaseException", .type "object"] true snNoText sbNoText abNoText coNoText ddNoText m0NoText m1NoText m2NoText m3NoText m5NoText "ValueError.__new__"))
    (sa_NoText : PySem.W.findIn K (.ref c_NoText) "__setattr__" = some (some (.builtin "object.__setattr__")))
    (ex_NoText : PySem.W.subIn K (.ref c_NoText) (.type "BaseException") = some true)
    (ty_NoText : PySem.W.typeIn K (.ref c_NoText) = some (.type "type"))
    (kc_NoText : PySem.W.keepIn K (.ref c_NoText) = true)
    (hd_NoText : PySem.W.hasDictIn K c_NoText = true)
    (ga_NoText : PySem.W.findIn K (.ref c_NoText) "__getattribute__" = some (some (.builtin "BaseException.__getattribute__")))
    (gg_NoText : PySem.W.findIn K (.ref c_NoText) "__getattr__" = some none)
    (ha_NoText : PySem.W.findIn K (.ref c_NoText) "__class__" = some (some (.builtin "object.__class__")))
    (hn_NoText : PySem.W.specialIn K (.builtin "object.__class__") "__get__" = some (some (.builtin "getset_descriptor.__get__")))
    (ht_NoText : PySem.W.takesIn K (.builtin "object.__class__") = some true)
    (hm_NoText : PySem.W.mroIn K c_NoText (.type "object") = some true)
    (su_NoText : PySem.W.subIn K (.ref c_NoText) (.ref c_PipeError) = some true)
    (aC_PipeError : PySem.W.nsIn K mainGlobals "PipeError" = some (some (.ref c_PipeError)))
    (kl_PipeError : K.lookup c_PipeError = some (excClassObj nmPipeError qnPipeError c_PipeError NPipeError bsPipeError [.type "ValueError", .type "Exception", .type "BaseException", .type "object"] true snPipeError sbPipeError abPipeError coPipeError ddPipeError m0PipeError m1PipeError m2PipeError m3PipeError m5PipeError "ValueError.__new__"))
    (sa_PipeError : PySem.W.findIn K (.ref c_PipeError) "__setattr__" = some (some (.builtin "object.__setattr__")))
    (ex_PipeError : PySem.W.subIn K (.ref c_PipeError) (.type "BaseException") = some true)
    (ty_PipeError : PySem.W.typeIn K (.ref c_PipeError) = some (.type "type"))
    (kc_PipeError : PySem.W.keepIn K (.ref c_PipeError) = true)
    (hd_PipeError : PySem.W.hasDictIn K c_PipeError = true)
    (ga_PipeError : PySem.W.findIn K (.ref c_PipeError) "__getattribute__" = some (some (.builtin "BaseException.__getattribute__")))
    (gg_PipeError : PySem.W.findIn K (.ref c_PipeError) "__getattr__" = some none)
    (ha_PipeError : PySem.W.findIn K (.ref c_PipeError) "__class__" = some (some (.builtin "object.__class__")))
    (hn_PipeError : PySem.W.specialIn K (.builtin "object.__class__") "__get__" = some (some (.builtin "getset_descriptor.__get__")))
    (ht_PipeError : PySem.W.takesIn K (.builtin "object.__class__") = some true)
    (hm_PipeError : PySem.W.mroIn K c_PipeError (.type "object") = some true)
    (sb_BadFrame : PySem.W.subIn K (.ref c_BadFrame) (.ref c_NoText) = some false)
    (ss_BadFrame : PySem.W.subIn K (.ref c_BadFrame) (.ref c_BadFrame) = some true)
    (sG_super : PySem.W.nsIn K mainGlobals "super" = some none)
    (sO_super : PySem.W.nsIn K cStatics "thirdparty.any" = some none)
    (sM_super : (l.prog.main.scope.names.lookup ("super" : Str)).isSome = false)
    (a0 : PySem.W.nsIn K mainGlobals "_law_alike" = some (some (.ref f0)))
    (l0 : K.lookup f0 = some ⟨oc0, od0, .func (PySem.W.fnOf "_law_alike" "_law_alike" (defArgs s__law_alike) (defBody s__law_alike) (defScope s__law_alike) .none kV0 dc0 pm0 an0 cd0 ct0), sl0⟩)
    (c0 : PySem.W.codeIn K cd0 "_law_alike" = true)
    (k0 : PySem.W.keepIn K (.ref f0) = true)
    (a1 : PySem.W.nsIn K mainGlobals "_law_bag" = some (some (.ref f1)))
    (l1 : K.lookup f1 = some ⟨oc1, od1, .func (PySem.W.fnOf "_law_bag" "_law_bag" (defArgs s__law_bag) (defBody s__law_bag) (defScope s__law_bag) .none kV1 dc1 pm1 an1 cd1 ct1), sl1⟩)
    (c1 : PySem.W.codeIn K cd1 "_law_bag" = true)
    (k1 : PySem.W.keepIn K (.ref f1) = true)
    (a2 : PySem.W.nsIn K mainGlobals "_law_take" = some (some (.ref f2)))
    (l2 : K.lookup f2 = some ⟨oc2, od2, .func (PySem.W.fnOf "_law_take" "_law_take" (defArgs s__law_take) (defBody s__law_take) (defScope s__law_take) .none kV2 dc2 pm2 an2 cd2 ct2), sl2⟩)
    (c2 : PySem.W.codeIn K cd2 "_law_take" = true)
    (k2 : PySem.W.keepIn K (.ref f2) = true)
    (a3 : PySem.W.nsIn K mainGlobals "_law_bent" = some (some (.ref f3)))
    (l3 : K.lookup f3 = some ⟨oc3, od3, .func (PySem.W.fnOf "_law_bent" "_law_bent" (defArgs s__law_bent) (defBody s__law_bent) (defScope s__law_bent) .none kV3 dc3 pm3 an3 cd3 ct3), sl3⟩)
    (c3 : PySem.W.codeIn K cd3 "_law_bent" = true)
    (k3 : PySem.W.keepIn K (.ref f3) = true)
    (a4 : PySem.W.nsIn K mainGlobals "_law_draw_letters" = some (some (.ref f4)))
    (l4 : K.lookup f4 = some ⟨oc4, od4, .func (PySem.W.fnOf "_law_draw_letters" "_law_draw_letters" (defArgs s__law_draw_letters) (defBody s__law_draw_letters) (defScope s__law_draw_letters) .none kV4 dc4 pm4 an4 cd4 ct4), sl4⟩)
    (c4 : PySem.W.codeIn K cd4 "_law_draw_letters" = true)
    (k4 : PySem.W.keepIn K (.ref f4) = true)
    (a5 : PySem.W.nsIn K mainGlobals "_law_draw_number" = some (some (.ref f5)))
    (l5 : K.lookup f5 = some ⟨oc5, od5, .func (PySem.W.fnOf "_law_draw_number" "_law_draw_number" (defArgs s__law_draw_number) (defBody s__law_draw_number) (defScope s__law_draw_number) .none kV5 dc5 pm5 an5 cd5 ct5), sl5⟩)
    (c5 : PySem.W.codeIn K cd5 "_law_draw_number" = true)
    (k5 : PySem.W.keepIn K (.ref f5) = true)
    (a6 : PySem.W.nsIn K mainGlobals "_law_draw_word" = some (some (.ref f6)))
    (l6 : K.lookup f6 = some ⟨oc6, od6, .func (PySem.W.fnOf "_law_draw_word" "_law_draw_word" (defArgs s__law_draw_word) (defBody s__law_draw_word) (defScope s__law_draw_word) .none kV6 dc6 pm6 an6 cd6 ct6), sl6⟩)
    (c6 : PySem.W.codeIn K cd6 "_law_draw_word" = true)
    (k6 : PySem.W.keepIn K (.ref f6) = true)
    (a7 : PySem.W.nsIn K mainGlobals "_law_draw_frame" = some (some (.ref f7)))
    (l7 : K.lookup f7 = some ⟨oc7, od7, .func (PySem.W.fnOf "_law_draw_frame" "_law_draw_frame" (defArgs s__law_draw_frame) (defBody s__law_draw_frame) (defScope s__law_draw_frame) .none kV7 dc7 pm7 an7 cd7 ct7), sl7⟩)
    (c7 : PySem.W.codeIn K cd7 "_law_draw_frame" = true)
    (k7 : PySem.W.keepIn K (.ref f7) = true)
    (a8 : PySem.W.nsIn K mainGlobals "_law_first_data" = some (some (.ref f8)))
    (l8 : K.lookup f8 = some ⟨oc8, od8, .func (PySem.W.fnOf "_law_first_data" "_law_first_data" (defArgs s__law_first_data) (defBody s__law_first_data) (defScope s__law_first_data) .none kV8 dc8 pm8 an8 cd8 ct8), sl8⟩)
    (c8 : PySem.W.codeIn K cd8 "_law_first_data" = true)
    (k8 : PySem.W.keepIn K (.ref f8) = true)
    (a9 : PySem.W.nsIn K mainGlobals "_law_is_number" = some (some (.ref f9)))
    (l9 : K.lookup f9 = some ⟨oc9, od9, .func (PySem.W.fnOf "_law_is_number" "_law_is_number" (defArgs s__law_is_number) (defBody s__law_is_number) (defScope s__law_is_number) .none kV9 dc9 pm9 an9 cd9 ct9), sl9⟩)
    (c9 : PySem.W.codeIn K cd9 "_law_is_number" = true)
    (k9 : PySem.W.keepIn K (.ref f9) = true)
    (a10 : PySem.W.nsIn K mainGlobals "_law_is_word" = some (some (.ref f10)))
    (l10 : K.lookup f10 = some ⟨oc10, od10, .func (PySem.W.fnOf "_law_is_word" "_law_is_word" (defArgs s__law_is_word) (defBody s__law_is_word) (defScope s__law_is_word) .none kV10 dc10 pm10 an10 cd10 ct10), sl10⟩)
    (c10 : PySem.W.codeIn K cd10 "_law_is_word" = true)
    (k10 : PySem.W.keepIn K (.ref f10) = true)
    (a11 : PySem.W.nsIn K mainGlobals "_law_first" = some (some (.ref f11)))
    (l11 : K.lookup f11 = some ⟨oc11, od11, .func (PySem.W.fnOf "_law_first" "_law_first" (defArgs s__law_first) (defBody s__law_first) (defScope s__law_first) .none kV11 dc11 pm11 an11 cd11 ct11), sl11⟩)
    (c11 : PySem.W.codeIn K cd11 "_law_first" = true)
    (k11 : PySem.W.keepIn K (.ref f11) = true)
    (a12 : PySem.W.nsIn K mainGlobals "_law_read" = some (some (.ref f12)))
    (l12 : K.lookup f12 = some ⟨oc12, od12, .func (PySem.W.fnOf "_law_read" "_law_read" (defArgs s__law_read) (defBody s__law_read) (defScope s__law_read) .none kV12 dc12 pm12 an12 cd12 ct12), sl12⟩)
    (c12 : PySem.W.codeIn K cd12 "_law_read" = true)
    (k12 : PySem.W.keepIn K (.ref f12) = true)
    (a13 : PySem.W.nsIn K mainGlobals "_law_text" = some (some (.ref f13)))
    (l13 : K.lookup f13 = some ⟨oc13, od13, .func (PySem.W.fnOf "_law_text" "_law_text" (defArgs s__law_text) (defBody s__law_text) (defScope s__law_text) .none kV13 dc13 pm13 an13 cd13 ct13), sl13⟩)
    (c13 : PySem.W.codeIn K cd13 "_law_text" = true)
    (k13 : PySem.W.keepIn K (.ref f13) = true)
    (a14 : PySem.W.findIn K (.ref c_BadFrame) "__init__" = some (some (.ref f14)))
    (i14 : PySem.W.typeIn K (.ref f14) = some (.type "function"))
    (l14 : K.lookup f14 = some ⟨oc14, od14, .func (PySem.W.ksFn "__init__" "BadFrame.__init__" (defArgs s_BadFrame___init__) (defBody s_BadFrame___init__) (defScope s_BadFrame___init__) .none kV14 dc14 pm14 an14 (.ref cda14) ct14 cc14), sl14⟩)
    (c14 : PySem.W.codeIn K (.ref cda14) "BadFrame.__init__" = true)
    (sc14 : K.lookup cda14 = some ⟨ccl14, cdd14, .fields va14, ccs14⟩)
    (sv14 : va14[2]? = some (.str fi14 tf14))
    (sf14 : ((l.prog.main.file : Str) == fi14) = true)
    (se14 : K.lookup cc14 = some ⟨cclB14, ccd14, .cell (some (.ref c_BadFrame)), ccsB14⟩)
    (su14 : PySem.W.ks_superIn K c_BadFrame c_BadFrame "__init__" = some (some (.builtin "ValueError.__init__")))
    (sw14 : PySem.W.subIn K (.ref c_BadFrame) (.type "ValueError") = some true)
    (sm14 : PySem.W.mroIn K c_BadFrame (.ref c_BadFrame) = some true)
    (a15 : PySem.W.nsIn K mainGlobals "run_at" = some (some (.ref f15)))
    (l15 : K.lookup f15 = some ⟨oc15, od15, .func (PySem.W.fnOf "run_at" "run_at" (defArgs s_run_at) (defBody s_run_at) (defScope s_run_at) .none kV15 dc15 pm15 an15 cd15 ct15), sl15⟩)
    (c15 : PySem.W.codeIn K cd15 "run_at" = true)
    (k15 : PySem.W.keepIn K (.ref f15) = true)
    (a16 : PySem.W.nsIn K mainGlobals "head_at" = some (some (.ref f16)))
    (l16 : K.lookup f16 = some ⟨oc16, od16, .func (PySem.W.fnOf "head_at" "head_at" (defArgs s_head_at) (defBody s_head_at) (defScope s_head_at) .none kV16 dc16 pm16 an16 cd16 ct16), sl16⟩)
    (c16 : PySem.W.codeIn K cd16 "head_at" = true)
    (k16 : PySem.W.keepIn K (.ref f16) = true)
    (a17 : PySem.W.nsIn K mainGlobals "back_at" = some (some (.ref f17)))
    (l17 : K.lookup f17 = some ⟨oc17, od17, .func (PySem.W.fnOf "back_at" "back_at" (defArgs s_back_at) (defBody s_back_at) (defScope s_back_at) .none kV17 dc17 pm17 an17 cd17 ct17), sl17⟩)
    (c17 : PySem.W.codeIn K cd17 "back_at" = true)
    (k17 : PySem.W.keepIn K (.ref f17) = true)
    (a18 : PySem.W.nsIn K mainGlobals "is_letters" = some (some (.ref f18)))
    (l18 : K.lookup f18 = some ⟨oc18, od18, .func (PySem.W.fnOf "is_letters" "is_letters" (defArgs s_is_letters) (defBody s_is_letters) (defScope s_is_letters) .none kV18 dc18 pm18 an18 cd18 ct18), sl18⟩)
    (c18 : PySem.W.codeIn K cd18 "is_letters" = true)
    (k18 : PySem.W.keepIn K (.ref f18) = true)
    (a19 : PySem.W.nsIn K mainGlobals "body_at" = some (some (.ref f19)))
    (l19 : K.lookup f19 = some ⟨oc19, od19, .func (PySem.W.fnOf "body_at" "body_at" (defArgs s_body_at) (defBody s_body_at) (defScope s_body_at) .none kV19 dc19 pm19 an19 cd19 ct19), sl19⟩)
    (c19 : PySem.W.codeIn K cd19 "body_at" = true)
    (k19 : PySem.W.keepIn K (.ref f19) = true)
    (a20 : PySem.W.nsIn K mainGlobals "data_at" = some (some (.ref f20)))
    (l20 : K.lookup f20 = some ⟨oc20, od20, .func (PySem.W.fnOf "data_at" "data_at" (defArgs s_data_at) (defBody s_data_at) (defScope s_data_at) .none kV20 dc20 pm20 an20 cd20 ct20), sl20⟩)
    (c20 : PySem.W.codeIn K cd20 "data_at" = true)
    (k20 : PySem.W.keepIn K (.ref f20) = true)
    (a21 : PySem.W.nsIn K mainGlobals "frame_at" = some (some (.ref f21)))
    (l21 : K.lookup f21 = some ⟨oc21, od21, .func (PySem.W.fnOf "frame_at" "frame_at" (defArgs s_frame_at) (defBody s_frame_at) (defScope s_frame_at) .none kV21 dc21 pm21 an21 cd21 ct21), sl21⟩)
    (c21 : PySem.W.codeIn K cd21 "frame_at" = true)
    (k21 : PySem.W.keepIn K (.ref f21) = true)
    (a22 : PySem.W.nsIn K mainGlobals "read_frames" = some (some (.ref f22)))
    (l22 : K.lookup f22 = some ⟨oc22, od22, .func (PySem.W.fnOf "read_frames" "read_frames" (defArgs s_read_frames) (defBody s_read_frames) (defScope s_read_frames) .none kV22 dc22 pm22 an22 cd22 ct22), sl22⟩)
    (c22 : PySem.W.codeIn K cd22 "read_frames" = true)
    (k22 : PySem.W.keepIn K (.ref f22) = true)
    (a23 : PySem.W.nsIn K mainGlobals "_law_told" = some (some (.ref f23)))
    (l23 : K.lookup f23 = some ⟨oc23, od23, .func (PySem.W.fnOf "_law_told" "_law_told" (defArgs s__law_told) (defBody s__law_told) (defScope s__law_told) .none kV23 dc23 pm23 an23 cd23 ct23), sl23⟩)
    (c23 : PySem.W.codeIn K cd23 "_law_told" = true)
    (k23 : PySem.W.keepIn K (.ref f23) = true)
    (a24 : PySem.W.nsIn K mainGlobals "law" = some (some (.ref f24)))
    (l24 : K.lookup f24 = some ⟨oc24, od24, .func (PySem.W.fnOf "law" "law" (defArgs s_law) (defBody s_law) (defScope s_law) .none kV24 dc24 pm24 an24 cd24 ct24), sl24⟩)
    (c24 : PySem.W.codeIn K cd24 "law" = true)
    (k24 : PySem.W.keepIn K (.ref f24) = true)
    (zb_abs : PySem.W.nsIn K mainGlobals "abs" = some none)
    (zb_all : PySem.W.nsIn K mainGlobals "all" = some none)
    (zb_int : PySem.W.nsIn K mainGlobals "int" = some none)
    (zb_isinstance : PySem.W.nsIn K mainGlobals "isinstance" = some none)
    (zb_len : PySem.W.nsIn K mainGlobals "len" = some none)
    (zb_max : PySem.W.nsIn K mainGlobals "max" = some none)
    (zb_ord : PySem.W.nsIn K mainGlobals "ord" = some none)
    (zb_range : PySem.W.nsIn K mainGlobals "range" = some none)
    (zb_repr : PySem.W.nsIn K mainGlobals "repr" = some none)
    (zb_str : PySem.W.nsIn K mainGlobals "str" = some none)
    (zc_BARRED_SIGN : PySem.W.nsIn K mainGlobals "BARRED_SIGN" = some (some (.int 37 tk_BARRED_SIGN)))
    (zc_FIRST_SIGN : PySem.W.nsIn K mainGlobals "FIRST_SIGN" = some (some (.int 32 tk_FIRST_SIGN)))
    (zc_LAST_SIGN : PySem.W.nsIn K mainGlobals "LAST_SIGN" = some (some (.int 126 tk_LAST_SIGN)))
    (zc_LONGEST_NAME : PySem.W.nsIn K mainGlobals "LONGEST_NAME" = some (some (.int 8 tk_LONGEST_NAME)))
    (zc_MOST_BACK : PySem.W.nsIn K mainGlobals "MOST_BACK" = some (some (.int 999999999999999999999999999999999999999 tk_MOST_BACK)))
    (zc_MOST_LETTERS : PySem.W.nsIn K mainGlobals "MOST_LETTERS" = some (some (.int 200 tk_MOST_LETTERS))) :
    ∃ fd : FuncData, (∀ (s : Shared) (v : Value), BindsTo s fd ⟨[v], []⟩ [("_law_script", v)]) ∧ ∀ base : Heap, K.In base → base.Ns mainGlobals mg → FnG l.prog w K mg base CX0 8 fa fd P_law (sp_law K) := by
  have e := hfa.symm.trans (PySem.W.mg_of X G a24)
  cases e
  have T : Bl mg := ⟨trivial, PySem.W.mg_none_of X G zb_abs, PySem.W.mg_none_of X G zb_all, PySem.W.mg_none_of X G zb_int, PySem.W.mg_none_of X G zb_isinstance, PySem.W.mg_none_of X G zb_len, PySem.W.mg_none_of X G zb_max, PySem.W.mg_none_of X G zb_ord, PySem.W.mg_none_of X G zb_range, PySem.W.mg_none_of X G zb_repr, PySem.W.mg_none_of X G zb_str, ⟨_, PySem.W.mg_of X G zc_BARRED_SIGN⟩, ⟨_, PySem.W.mg_of X G zc_FIRST_SIGN⟩, ⟨_, PySem.W.mg_of X G zc_LAST_SIGN⟩, ⟨_, PySem.W.mg_of X G zc_LONGEST_NAME⟩, ⟨_, PySem.W.mg_of X G zc_MOST_BACK⟩, ⟨_, PySem.W.mg_of X G zc_MOST_LETTERS⟩⟩
  have F0 := fun_mk (st := s__law_alike) l0 c0 k0
  have b0 := F0.binds (ps := P__law_alike) fun _ _ _ _ _ _ us hl => match us, hl with | [_, _], _ => rfl
  have F1 := fun_mk (st := s__law_bag) l1 c1 k1
  have b1 := F1.binds (ps := P__law_bag) fun _ _ _ _ _ _ us hl => match us, hl with | [_], _ => rfl
  have F2 := fun_mk (st := s__law_take) l2 c2 k2
  have b2 := F2.binds (ps := P__law_take) fun _ _ _ _ _ _ us hl => match us, hl with | [_, _], _ => rfl
  have F3 := fun_mk (st := s__law_bent) l3 c3 k3
  have b3 := F3.binds (ps := P__law_bent) fun _ _ _ _ _ _ us hl => match us, hl with | [_, _], _ => rfl
  have F4 := fun_mk (st := s__law_draw_letters) l4 c4 k4
  have b4 := F4.binds (ps := P__law_draw_letters) fun _ _ _ _ _ _ us hl => match us, hl with | [_, _], _ => rfl
  have F5 := fun_mk (st := s__law_draw_number) l5 c5 k5
  have b5 := F5.binds (ps := P__law_draw_number) fun _ _ _ _ _ _ us hl => match us, hl with | [_], _ => rfl
  have F6 := fun_mk (st := s__law_draw_word) l6 c6 k6
  have b6 := F6.binds (ps := P__law_draw_word) fun _ _ _ _ _ _ us hl => match us, hl with | [_], _ => rfl
  have F7 := fun_mk (st := s__law_draw_frame) l7 c7 k7
  have b7 := F7.binds (ps := P__law_draw_frame) fun _ _ _ _ _ _ us hl => match us, hl with | [_], _ => rfl
  have F8 := fun_mk (st := s__law_first_data) l8 c8 k8
  have b8 := F8.binds (ps := P__law_first_data) fun _ _ _ _ _ _ us hl => match us, hl with | [_, _, _, _], _ => rfl
  have F9 := fun_mk (st := s__law_is_number) l9 c9 k9
  have b9 := F9.binds (ps := P__law_is_number) fun _ _ _ _ _ _ us hl => match us, hl with | [_, _], _ => rfl
  have F10 := fun_mk (st := s__law_is_word) l10 c10 k10
  have b10 := F10.binds (ps := P__law_is_word) fun _ _ _ _ _ _ us hl => match us, hl with | [_], _ => rfl
  have F11 := fun_mk (st := s__law_first) l11 c11 k11
  have b11 := F11.binds (ps := P__law_first) fun _ _ _ _ _ _ us hl => match us, hl with | [_], _ => rfl
  have F12 := fun_mk (st := s__law_read) l12 c12 k12
  have b12 := F12.binds (ps := P__law_read) fun _ _ _ _ _ _ us hl => match us, hl with | [_], _ => rfl
  have F13 := fun_mk (st := s__law_text) l13 c13 k13
  have b13 := F13.binds (ps := P__law_text) fun _ _ _ _ _ _ us hl => match us, hl with | [_], _ => rfl
  have S14 : SupC l.prog K c_BadFrame cc14 (.ref cda14) := ⟨⟨_, _, _, _, _, _, _, rfl, sc14, sv14, sf14⟩, ⟨_, _, _, se14⟩, su14, sw14, sm14, sG_super, sO_super, sM_super⟩
  have F15 := fun_mk (st := s_run_at) l15 c15 k15
  have b15 := F15.binds (ps := P_run_at) fun _ _ _ _ _ _ us hl => match us, hl with | [_, _, _, _, _], _ => rfl
  have F16 := fun_mk (st := s_head_at) l16 c16 k16
  have b16 := F16.binds (ps := P_head_at) fun _ _ _ _ _ _ us hl => match us, hl with | [_, _, _, _], _ => rfl
  have F17 := fun_mk (st := s_back_at) l17 c17 k17
  have b17 := F17.binds (ps := P_back_at) fun _ _ _ _ _ _ us hl => match us, hl with | [_, _], _ => rfl
  have F18 := fun_mk (st := s_is_letters) l18 c18 k18
  have b18 := F18.binds (ps := P_is_letters) fun _ _ _ _ _ _ us hl => match us, hl with | [_], _ => rfl
  have F19 := fun_mk (st := s_body_at) l19 c19 k19
  have b19 := F19.binds (ps := P_body_at) fun _ _ _ _ _ _ us hl => match us, hl with | [_, _, _], _ => rfl
  have F20 := fun_mk (st := s_data_at) l20 c20 k20
  have b20 := F20.binds (ps := P_data_at) fun _ _ _ _ _ _ us hl => match us, hl with | [_, _], _ => rfl
  have F21 := fun_mk (st := s_frame_at) l21 c21 k21
  have b21 := F21.binds (ps := P_frame_at) fun _ _ _ _ _ _ us hl => match us, hl with | [_, _], _ => rfl
  have F22 := fun_mk (st := s_read_frames) l22 c22 k22
  have b22 := F22.binds (ps := P_read_frames) fun _ _ _ _ _ _ us hl => match us, hl with | [_], _ => rfl
  have F23 := fun_mk (st := s__law_told) l23 c23 k23
  have b23 := F23.binds (ps := P__law_told) fun _ _ _ _ _ _ us hl => match us, hl with | [_], _ => rfl
  have F24 := fun_mk (st := s_law) l24 c24 k24
  have b24 := F24.binds (ps := P_law) fun _ _ _ _ _ _ us hl => match us, hl with | [_], _ => rfl
  refine ⟨PySem.W.fnOf "law" "law" (defArgs s_law) (defBody s_law) (defScope s_law) .none kV24 dc24 pm24 an24 cd24 ct24, fun s v => .of_eq rfl, fun base _ _ => ?_⟩
  have E_BadFrame : ErrK K mg "BadFrame" c_BadFrame := ⟨PySem.W.mg_of X G aC_BadFrame, ⟨⟨_, _, _, _, _, _, _, _, _, _, _, _, _, _, _, kl_BadFrame, refs1 _⟩, sa_BadFrame, ex_BadFrame, ty_BadFrame, kc_BadFrame⟩, ⟨ga_BadFrame, gg_BadFrame, ex_BadFrame, hd_BadFrame⟩, ⟨ga_BadFrame, gg_BadFrame, ex_BadFrame, hd_BadFrame, ha_BadFrame, hn_BadFrame, ht_BadFrame, hm_BadFrame⟩⟩
  have E_NoText : ErrK K mg "NoText" c_NoText := ⟨PySem.W.mg_of X G aC_NoText, ⟨⟨_, _, _, _, _, _, _, _, _, _, _, _, _, _, _, kl_NoText, refs1 _⟩, sa_NoText, ex_NoText, ty_NoText, kc_NoText⟩, ⟨ga_NoText, gg_NoText, ex_NoText, hd_NoText⟩, ⟨ga_NoText, gg_NoText, ex_NoText, hd_NoText, ha_NoText, hn_NoText, ht_NoText, hm_NoText⟩⟩
  have E_PipeError : ErrK K mg "PipeError" c_PipeError := ⟨PySem.W.mg_of X G aC_PipeError, ⟨⟨_, _, _, _, _, _, _, _, _, _, _, _, _, _, _, kl_PipeError, refs0⟩, sa_PipeError, ex_PipeError, ty_PipeError, kc_PipeError⟩, ⟨ga_PipeError, gg_PipeError, ex_PipeError, hd_PipeError⟩, ⟨ga_PipeError, gg_PipeError, ex_PipeError, hd_PipeError, ha_PipeError, hn_PipeError, ht_PipeError, hm_PipeError⟩⟩
  have fx_FxB : FxB K ({ PipeError := c_PipeError, Wrong := 0, TooMany := 0, Overdrawn := 0, NotPassed := 0, Rule := 0, Account := 0, BadFrame := c_BadFrame, NoText := c_NoText } : Cs) := ⟨exm_is E_PipeError.xf ty_PipeError su_BadFrame, E_BadFrame.ex, kit_false hd_NoText ty_NoText sb_BadFrame ss_BadFrame⟩
  have f__law_alike : CalG l.prog w K mg base CX0 1 "_law_alike" P__law_alike (sp_law_alike K) := ⟨_, _, ok__law_alike  (P := l.prog) (w := w) (base := base) F0 T  , PySem.W.mg_of X G a0, k0, b0⟩
  have f__law_bag : Cal l.prog w K mg base CX0 1 "_law_bag" P__law_bag [] (sp_law_bag K) := ⟨_, _, ok__law_bag  (P := l.prog) (w := w) (base := base) F1 T  , PySem.W.mg_of X G a1, k1, b1⟩
  have f__law_take : Cal l.prog w K mg base CX0 1 "_law_take" P__law_take [] (sp_law_take K) := ⟨_, _, ok__law_take  (P := l.prog) (w := w) (base := base) F2 T  , PySem.W.mg_of X G a2, k2, b2⟩
  have f__law_bent : Cal l.prog w K mg base CX0 2 "_law_bent" P__law_bent [] (sp_law_bent K) := ⟨_, _, ok__law_bent  (P := l.prog) (w := w) (base := base) F3 T  f__law_take, PySem.W.mg_of X G a3, k3, b3⟩
  have f__law_draw_letters : Cal l.prog w K mg base CX0 2 "_law_draw_letters" P__law_draw_letters [] (sp_law_draw_letters K) := ⟨_, _, ok__law_draw_letters  (P := l.prog) (w := w) (base := base) F4 T  f__law_take, PySem.W.mg_of X G a4, k4, b4⟩
  have f__law_draw_number : Cal l.prog w K mg base CX0 2 "_law_draw_number" P__law_draw_number [] (sp_law_draw_number K) := ⟨_, _, ok__law_draw_number  (P := l.prog) (w := w) (base := base) F5 T  f__law_take, PySem.W.mg_of X G a5, k5, b5⟩
  have f__law_draw_word : Cal l.prog w K mg base CX0 2 "_law_draw_word" P__law_draw_word [] (sp_law_draw_word K) := ⟨_, _, ok__law_draw_word  (P := l.prog) (w := w) (base := base) F6 T  f__law_take, PySem.W.mg_of X G a6, k6, b6⟩
  have f__law_draw_frame : Cal l.prog w K mg base CX0 3 "_law_draw_frame" P__law_draw_frame [] (sp_law_draw_frame K) := ⟨_, _, ok__law_draw_frame  (P := l.prog) (w := w) (base := base) F7 T  f__law_take f__law_draw_letters f__law_draw_word f__law_draw_number, PySem.W.mg_of X G a7, k7, b7⟩
  have f__law_first_data : Cal l.prog w K mg base CX0 1 "_law_first_data" P__law_first_data [] (sp_law_first_data K) := ⟨_, _, ok__law_first_data  (P := l.prog) (w := w) (base := base) F8 T  , PySem.W.mg_of X G a8, k8, b8⟩
  have f__law_is_number : Cal l.prog w K mg base CX0 1 "_law_is_number" P__law_is_number [] (sp_law_is_number K) := ⟨_, _, ok__law_is_number  (P := l.prog) (w := w) (base := base) F9 T  , PySem.W.mg_of X G a9, k9, b9⟩
  have f__law_is_word : Cal l.prog w K mg base CX0 1 "_law_is_word" P__law_is_word [] (sp_law_is_word K) := ⟨_, _, ok__law_is_word  (P := l.prog) (w := w) (base := base) F10 T  , PySem.W.mg_of X G a10, k10, b10⟩
  have f__law_first : Cal l.prog w K mg base CX0 2 "_law_first" P__law_first [] (sp_law_first K) := ⟨_, _, ok__law_first  (P := l.prog) (w := w) (base := base) F11 T  f__law_first_data f__law_is_number f__law_is_word, PySem.W.mg_of X G a11, k11, b11⟩
  have f__law_read : Cal l.prog w K mg base CX0 3 "_law_read" P__law_read [] (sp_law_read K) := ⟨_, _, ok__law_read  (P := l.prog) (w := w) (base := base) F12 T  f__law_first, PySem.W.mg_of X G a12, k12, b12⟩
  have f__law_text : Cal l.prog w K mg base CX0 1 "_law_text" P__law_text [] (sp_law_text K) := ⟨_, _, ok__law_text  (P := l.prog) (w := w) (base := base) F13 T  , PySem.W.mg_of X G a13, k13, b13⟩
  have i_BadFrame : ErrI l.prog w K mg base 1 c_BadFrame P_BadFrame___init__ (rSup K c_BadFrame) := ⟨_, _, sup_mk (st := s_BadFrame___init__) l14 c14 S14 rfl rfl rfl rfl rfl (by decide +kernel) rfl rfl rfl rfl fun _ => ⟨_, rfl⟩, a14, i14, Binds.all fun us hl => match us, hl with | [_], _ => rfl⟩
  have f_run_at : Cal l.prog w K mg base CX0 1 "run_at" P_run_at [] (sp_run_at K) := ⟨_, _, ok_run_at  (P := l.prog) (w := w) (base := base) F15 T  , PySem.W.mg_of X G a15, k15, b15⟩
  have f_head_at : Cal l.prog w K mg base (L2.CX l.prog w) 3 "head_at" P_head_at [] (sp_head_atX K ({ PipeError := c_PipeError, Wrong := 0, TooMany := 0, Overdrawn := 0, NotPassed := 0, Rule := 0, Account := 0, BadFrame := c_BadFrame, NoText := c_NoText } : Cs)) := ⟨_, _, ok_head_at (C := ({ PipeError := c_PipeError, Wrong := 0, TooMany := 0, Overdrawn := 0, NotPassed := 0, Rule := 0, Account := 0, BadFrame := c_BadFrame, NoText := c_NoText } : Cs)) (P := l.prog) (w := w) (base := base) F16 T  E_BadFrame i_BadFrame f_run_at, PySem.W.mg_of X G a16, k16, b16⟩
  have f_back_at : Cal l.prog w K mg base (L2.CX l.prog w) 4 "back_at" P_back_at [] (sp_back_atX K ({ PipeError := c_PipeError, Wrong := 0, TooMany := 0, Overdrawn := 0, NotPassed := 0, Rule := 0, Account := 0, BadFrame := c_BadFrame, NoText := c_NoText } : Cs)) := ⟨_, _, ok_back_at (C := ({ PipeError := c_PipeError, Wrong := 0, TooMany := 0, Overdrawn := 0, NotPassed := 0, Rule := 0, Account := 0, BadFrame := c_BadFrame, NoText := c_NoText } : Cs)) (P := l.prog) (w := w) (base := base) F17 T  f_head_at, PySem.W.mg_of X G a17, k17, b17⟩
  have f_is_letters : Cal l.prog w K mg base CX0 1 "is_letters" P_is_letters [] (sp_is_let41 K) := ⟨_, _, ok_is_letters  (P := l.prog) (w := w) (base := base) F18 T  , PySem.W.mg_of X G a18, k18, b18⟩
  have f_body_at : Cal l.prog w K mg base (L2.CX l.prog w) 3 "body_at" P_body_at [] (sp_body_atX K ({ PipeError := c_PipeError, Wrong := 0, TooMany := 0, Overdrawn := 0, NotPassed := 0, Rule := 0, Account := 0, BadFrame := c_BadFrame, NoText := c_NoText } : Cs)) := ⟨_, _, ok_body_at (C := ({ PipeError := c_PipeError, Wrong := 0, TooMany := 0, Overdrawn := 0, NotPassed := 0, Rule := 0, Account := 0, BadFrame := c_BadFrame, NoText := c_NoText } : Cs)) (P := l.prog) (w := w) (base := base) F19 T  E_BadFrame i_BadFrame f_is_letters, PySem.W.mg_of X G a19, k19, b19⟩
  have f_data_at : Cal l.prog w K mg base (L2.CX l.prog w) 4 "data_at" P_data_at [] (sp_data_atX K ({ PipeError := c_PipeError, Wrong := 0, TooMany := 0, Overdrawn := 0, NotPassed := 0, Rule := 0, Account := 0, BadFrame := c_BadFrame, NoText := c_NoText } : Cs)) := ⟨_, _, ok_data_at (C := ({ PipeError := c_PipeError, Wrong := 0, TooMany := 0, Overdrawn := 0, NotPassed := 0, Rule := 0, Account := 0, BadFrame := c_BadFrame, NoText := c_NoText } : Cs)) (P := l.prog) (w := w) (base := base) F20 T  f_body_at f_head_at, PySem.W.mg_of X G a20, k20, b20⟩
  have f_frame_at : Cal l.prog w K mg base (L2.CX l.prog w) 5 "frame_at" P_frame_at [] (sp_frame_atX K ({ PipeError := c_PipeError, Wrong := 0, TooMany := 0, Overdrawn := 0, NotPassed := 0, Rule := 0, Account := 0, BadFrame := c_BadFrame, NoText := c_NoText } : Cs)) := ⟨_, _, ok_frame_at (C := ({ PipeError := c_PipeError, Wrong := 0, TooMany := 0, Overdrawn := 0, NotPassed := 0, Rule := 0, Account := 0, BadFrame := c_BadFrame, NoText := c_NoText } : Cs)) (P := l.prog) (w := w) (base := base) F21 T  E_BadFrame i_BadFrame f_back_at f_data_at, PySem.W.mg_of X G a21, k21, b21⟩
  have f_read_frames : Cal l.prog w K mg base (L2.CX l.prog w) 6 "read_frames" P_read_frames [] (sp_read_framesX K ({ PipeError := c_PipeError, Wrong := 0, TooMany := 0, Overdrawn := 0, NotPassed := 0, Rule := 0, Account := 0, BadFrame := c_BadFrame, NoText := c_NoText } : Cs)) := ⟨_, _, ok_read_frames (C := ({ PipeError := c_PipeError, Wrong := 0, TooMany := 0, Overdrawn := 0, NotPassed := 0, Rule := 0, Account := 0, BadFrame := c_BadFrame, NoText := c_NoText } : Cs)) (P := l.prog) (w := w) (base := base) F22 T  f_frame_at E_BadFrame i_BadFrame, PySem.W.mg_of X G a22, k22, b22⟩
  have f__law_told : Cal l.prog w K mg base CX0 7 "_law_told" P__law_told [] (sp_law_told K ({ PipeError := c_PipeError, Wrong := 0, TooMany := 0, Overdrawn := 0, NotPassed := 0, Rule := 0, Account := 0, BadFrame := c_BadFrame, NoText := c_NoText } : Cs)) := ⟨_, _, ok__law_told (C := ({ PipeError := c_PipeError, Wrong := 0, TooMany := 0, Overdrawn := 0, NotPassed := 0, Rule := 0, Account := 0, BadFrame := c_BadFrame, NoText := c_NoText } : Cs)) (P := l.prog) (w := w) (base := base) F23 T  E_PipeError f_read_frames E_BadFrame E_NoText, PySem.W.mg_of X G a23, k23, b23⟩
  exact (ok_law (C := ({ PipeError := c_PipeError, Wrong := 0, TooMany := 0, Overdrawn := 0, NotPassed := 0, Rule := 0, Account := 0, BadFrame := c_BadFrame, NoText := c_NoText } : Cs)) (P := l.prog) (w := w) (base := base) F24 T fx_FxB f__law_told f__law_alike f__law_read f__law_take f__law_bent f__law_draw_frame f__law_text f__law_bag)
end Lw
open PySem PySem.W PyProof.Rows
set_option maxRecDepth 100000 in
set_option maxHeartbeats 0 in
theorem PySem.Challenge.cw_sharedpipe_k41_frames_refused_holds : PySem.Challenge.rw_sharedpipe_k41_frames_refused.Holds := by
  w_on; o_law; k_head; (case hw => w_witness2)
  k_fill
  refine Pk.walkG (l := PySem.Challenge.rw_sharedpipe_k41_frames_refused) (n := 63) (k := 8) (x := "_law_script") (sp := Pk.sp_law) rfl (by decide) rfl ⟨rfl, by decide, by decide⟩ (fun w h Y => PySem.W.kIn_of Y) ?F (fun K H a ns hl hS => ⟨a, ns, rfl, hS, hl, fun _ => rfl⟩)
  case F =>
    intro w mg fa h KX G hmg
    refine' Lw.all_mk KX G hmg ?aC_BadFrame ?kl_BadFrame ?sa_BadFrame ?ex_BadFrame ?ty_BadFrame ?kc_BadFrame ?hd_BadFrame ?ga_BadFrame ?gg_BadFrame ?ha_BadFrame ?hn_BadFrame ?ht_BadFrame ?hm_BadFrame ?su_BadFrame ?aC_NoText ?kl_NoText ?sa_NoText ?ex_NoText ?ty_NoText ?kc_NoText ?hd_NoText ?ga_NoText ?gg_NoText ?ha_NoText ?hn_NoText ?ht_NoText ?hm_NoText ?su_NoText ?aC_PipeError ?kl_PipeError ?sa_PipeError ?ex_PipeError ?ty_PipeError ?kc_PipeError ?hd_PipeError ?ga_PipeError ?gg_PipeError ?ha_PipeError ?hn_PipeError ?ht_PipeError ?hm_PipeError ?sb_BadFrame ?ss_BadFrame ?sG_super ?sO_super ?sM_super ?a0 ?l0 ?c0 ?k0 ?a1 ?l1 ?c1 ?k1 ?a2 ?l2 ?c2 ?k2 ?a3 ?l3 ?c3 ?k3 ?a4 ?l4 ?c4 ?k4 ?a5 ?l5 ?c5 ?k5 ?a6 ?l6 ?c6 ?k6 ?a7 ?l7 ?c7 ?k7 ?a8 ?l8 ?c8 ?k8 ?a9 ?l9 ?c9 ?k9 ?a10 ?l10 ?c10 ?k10 ?a11 ?l11 ?c11 ?k11 ?a12 ?l12 ?c12 ?k12 ?a13 ?l13 ?c13 ?k13 ?a14 ?i14 ?l14 ?c14 ?sc14 ?sv14 ?sf14 ?se14 ?su14 ?sw14 ?sm14 ?a15 ?l15 ?c15 ?k15 ?a16 ?l16 ?c16 ?k16 ?a17 ?l17 ?c17 ?k17 ?a18 ?l18 ?c18 ?k18 ?a19 ?l19 ?c19 ?k19 ?a20 ?l20 ?c20 ?k20 ?a21 ?l21 ?c21 ?k21 ?a22 ?l22 ?c22 ?k22 ?a23 ?l23 ?c23 ?k23 ?a24 ?l24 ?c24 ?k24 ?zb_abs ?zb_all ?zb_int ?zb_isinstance ?zb_len ?zb_max ?zb_ord ?zb_range ?zb_repr ?zb_str ?zc_BARRED_SIGN ?zc_FIRST_SIGN ?zc_LAST_SIGN ?zc_LONGEST_NAME ?zc_MOST_BACK ?zc_MOST_LETTERS
    (case aC_BadFrame => k_is)
    (case kl_BadFrame => k_is)
    (case sa_BadFrame => k_is)
    (case ex_BadFrame => k_is)
    (case ty_BadFrame => k_is)
    (case kc_BadFrame => k_is)
    (case hd_BadFrame => k_is)
    (case ga_BadFrame => k_is)
    (case gg_BadFrame => k_is)
    (case ha_BadFrame => k_is)
    (case hn_BadFrame => k_is)
    (case ht_BadFrame => k_is)
    (case hm_BadFrame => k_is)
    (case su_BadFrame => k_is)
    (case aC_NoText => k_is)
    (case kl_NoText => k_is)
    (case sa_NoText => k_is)
    (case ex_NoText => k_is)
    (case ty_NoText => k_is)
    (case kc_NoText => k_is)
    (case hd_NoText => k_is)
    (case ga_NoText => k_is)
    (case gg_NoText => k_is)
    (case ha_NoText => k_is)
    (case hn_NoText => k_is)
    (case ht_NoText => k_is)
    (case hm_NoText => k_is)
    (case su_NoText => k_is)
    (case aC_PipeError => k_is)
    (case kl_PipeError => k_is)
    (case sa_PipeError => k_is)
    (case ex_PipeError => k_is)
    (case ty_PipeError => k_is)
    (case kc_PipeError => k_is)
    (case hd_PipeError => k_is)
    (case ga_PipeError => k_is)
    (case gg_PipeError => k_is)
    (case ha_PipeError => k_is)
    (case hn_PipeError => k_is)
    (case ht_PipeError => k_is)
    (case hm_PipeError => k_is)
    (case sb_BadFrame => k_is)
    (case ss_BadFrame => k_is)
    (case sG_super => k_is)
    (case sO_super => k_is)
    (case sM_super => first | rfl | decide +kernel)
    (case a0 => k_is)
    (case l0 => k_is)
    (case c0 => k_is)
    (case k0 => k_is)
    (case a1 => k_is)
    (case l1 => k_is)
    (case c1 => k_is)
    (case k1 => k_is)
    (case a2 => k_is)
    (case l2 => k_is)
    (case c2 => k_is)
    (case k2 => k_is)
    (case a3 => k_is)
    (case l3 => k_is)
    (case c3 => k_is)
    (case k3 => k_is)
    (case a4 => k_is)
    (case l4 => k_is)
    (case c4 => k_is)
    (case k4 => k_is)
    (case a5 => k_is)
    (case l5 => k_is)
    (case c5 => k_is)
    (case k5 => k_is)
    (case a6 => k_is)
    (case l6 => k_is)
    (case c6 => k_is)
    (case k6 => k_is)
    (case a7 => k_is)
    (case l7 => k_is)
    (case c7 => k_is)
    (case k7 => k_is)
    (case a8 => k_is)
    (case l8 => k_is)
    (case c8 => k_is)
    (case k8 => k_is)
    (case a9 => k_is)
    (case l9 => k_is)
    (case c9 => k_is)
    (case k9 => k_is)
    (case a10 => k_is)
    (case l10 => k_is)
    (case c10 => k_is)
    (case k10 => k_is)
    (case a11 => k_is)
    (case l11 => k_is)
    (case c11 => k_is)
    (case k11 => k_is)
    (case a12 => k_is)
    (case l12 => k_is)
    (case c12 => k_is)
    (case k12 => k_is)
    (case a13 => k_is)
    (case l13 => k_is)
    (case c13 => k_is)
    (case k13 => k_is)
    (case a14 => k_is)
    (case i14 => k_is)
    (case l14 => k_is)
    (case c14 => k_is)
    (case sc14 => k_is)
    (case sv14 => first | rfl | k_is | ks_is | decide +kernel)
    (case sf14 => first | rfl | k_is | ks_is | decide +kernel)
    (case se14 => k_is)
    (case su14 => first | rfl | k_is | ks_is | decide +kernel)
    (case sw14 => k_is)
    (case sm14 => first | rfl | k_is | ks_is | decide +kernel)
    (case a15 => k_is)
    (case l15 => k_is)
    (case c15 => k_is)
    (case k15 => k_is)
    (case a16 => k_is)
    (case l16 => k_is)
    (case c16 => k_is)
    (case k16 => k_is)
    (case a17 => k_is)
    (case l17 => k_is)
    (case c17 => k_is)
    (case k17 => k_is)
    (case a18 => k_is)
    (case l18 => k_is)
    (case c18 => k_is)
    (case k18 => k_is)
    (case a19 => k_is)
    (case l19 => k_is)
    (case c19 => k_is)
    (case k19 => k_is)
    (case a20 => k_is)
    (case l20 => k_is)
    (case c20 => k_is)
    (case k20 => k_is)
    (case a21 => k_is)
    (case l21 => k_is)
    (case c21 => k_is)
    (case k21 => k_is)
    (case a22 => k_is)
    (case l22 => k_is)
    (case c22 => k_is)
    (case k22 => k_is)
    (case a23 => k_is)
    (case l23 => k_is)
    (case c23 => k_is)
    (case k23 => k_is)
    (case a24 => k_is)
    (case l24 => k_is)
    (case c24 => k_is)
    (case k24 => k_is)
    (case zb_abs => k_is)
    (case zb_all => k_is)
    (case zb_int => k_is)
    (case zb_isinstance => k_is)
    (case zb_len => k_is)
    (case zb_max => k_is)
    (case zb_ord => k_is)
    (case zb_range => k_is)
    (case zb_repr => k_is)
    (case zb_str => k_is)
    (case zc_BARRED_SIGN => k_is)
    (case zc_FIRST_SIGN => k_is)
    (case zc_LAST_SIGN => k_is)
    (case zc_LONGEST_NAME => k_is)
    (case zc_MOST_BACK => k_is)
    (case zc_MOST_LETTERS => k_is)
