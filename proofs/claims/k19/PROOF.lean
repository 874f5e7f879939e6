import PyProof.Rows.All
import Wide.All
import OpenK.AllK
import Wide.FinOn
import HandS.ForExc
import HandS.Wide
import HandS.Evl
import HandS.Deep
import HandS.TupAny
import HandS.TupMul
import HandS.Star
import HandS.Property
import HandS.Flow
import HandS.Style
import HandS.IsInst
import HandS.OwnEq
import HandS.ForMost
import HandS.SlotsOwn
import HandS.Codes
import HandS.Defaults
import KE.KOpsOwn
import HandS.Small
import KE.KExcIs
import HandS.WordsExc
import HandS.ExcInit
import HandS.ExcField
import HandS.ExcIs
import HandS.TryOnly
import PyProof.Rows.Range3
import HandS.Strs
import HandS.SetBool
import HandS.SortInts
import PyProof.IsiBase
import HandS.CallSlots
import PySem.Challenge.RW_sharedpipe_k19_rules_refused
set_option Elab.async false
set_option linter.all false
set_option maxRecDepth 100000
set_option maxHeartbeats 2000000
namespace Pk
open PySem PySem.Spec L2 PyProof.Rows

/-! ### texts of data: a bound of their length -/
mutual
def siz : PyData → Nat
  | .none => 8
  | .bool _ => 8
  | .int _ => 2000
  | .str x => 10 * x.length + 8
  | .list xs => 8 + sizL xs
  | .tuple xs => 8 + sizL xs
  | .dict _ => 0
def sizL : List PyData → Nat
  | [] => 0
  | x :: xs => siz x + 4 + sizL xs
end
theorem textFrom_size : ∀ (ts : List Str) (k : Nat) (acc : Str), (textFrom k acc ts).length ≤ acc.length + piled ts
  | [], k, acc => by show acc.length ≤ _; omega
  | t :: r, k, acc => by
    have ih := textFrom_size r (k + 1) (acc ++ (if k > 0 then ", " else "" : String) ++ t)
    have e : (acc ++ (if k > 0 then ", " else "" : String) ++ t).length = acc.length + (if k > 0 then 2 else 0) + t.length := by
      rw [strLen_append, strLen_append]
      split <;> rfl
    have d1 : (if k > 0 then 2 else 0 : Nat) ≤ 2 := by split <;> decide
    rw [piled_cons]
    show (textFrom (k + 1) _ r).length ≤ _
    omega
theorem listText_size (ts : List Str) : (listText ts).length ≤ piled ts + 2 := by
  have q := textFrom_size ts 0 "["
  unfold listText
  rw [strLen_append]
  have e1 : ((("[" : String) : Str)).length = 1 := rfl
  have e2 : ((("]" : String) : Str)).length = 1 := rfl
  rw [e1] at q
  rw [e2]
  omega
theorem tupleText_size (ts : List Str) : (tupleText ts).length ≤ piled ts + 3 := by
  unfold tupleText
  rw [strLen_append, strLen_append]
  have e1 : ((("(" : String) : Str)).length = 1 := rfl
  have e3 : (((if ts.length == 1 then ",)" else ")" : String) : Str)).length ≤ 2 := by split <;> decide
  rw [e1]
  cases ts with
  | nil =>
    have e4 : (Str.join ", " ([] : List Str)).length = 0 := rfl
    rw [e4]
    omega
  | cons t r =>
    have q := join_length_add (t :: r) (by simp)
    omega
mutual
theorem shown_le : ∀ d : PyData, d.showable = true → d.canLay0 = true → d.shown.length ≤ siz d
  | .none, _, _ => by decide
  | .bool b, _, _ => by cases b <;> decide
  | .int i, h, _ => by
    have h' : i.natAbs.log2 < 1920 := of_decide_eq_true h
    have e := int_text_length_le (k := 1920) (by decide) h'
    show (Str.ofString (toString i)).length ≤ 2000
    rw [PySem.ofString_length]
    omega
  | .str x, _, h => by
    have h' : x.cps.all (· < 0x110000) = true := h
    have q := StrLaws.reprText_len x fun c hc => by
      have := Array.all_eq_true_iff_forall_mem.mp h' c (by simpa using hc)
      have z : c < 0x110000 := of_decide_eq_true this
      have z2 : (0x110000 : Nat) < 16 ^ 8 := by decide
      omega
    show (reprText x).length ≤ 10 * x.length + 8
    omega
  | .list xs, h, h2 => by
    have q := shownAll_le xs h h2
    have q2 := listText_size (PyData.shownAll xs)
    show (listText (PyData.shownAll xs)).length ≤ 8 + sizL xs
    omega
  | .tuple xs, h, h2 => by
    have q := shownAll_le xs h h2
    have q2 := tupleText_size (PyData.shownAll xs)
    show (tupleText (PyData.shownAll xs)).length ≤ 8 + sizL xs
    omega
  | .dict _, _, h => by cases h
theorem shownAll_le : ∀ ds : List PyData, PyData.showableAll ds = true → PyData.canLayAll0 ds = true → piled (PyData.shownAll ds) ≤ sizL ds
  | [], _, _ => by show piled [] ≤ 0; simp [piled]
  | d :: ds, h, h2 => by
    have h' : d.showable = true ∧ PyData.showableAll ds = true := by simpa [PyData.showableAll] using h
    have h2' : d.canLay0 = true ∧ PyData.canLayAll0 ds = true := by simpa [PyData.canLayAll0] using h2
    have q1 := shown_le d h'.1 h2'.1
    have q2 := shownAll_le ds h'.2 h2'.2
    show piled (d.shown :: PyData.shownAll ds) ≤ siz d + 4 + sizL ds
    rw [piled_cons]
    omega
end
/-- data that may be compared and shown -/
structure Good (d : PyData) : Prop where
  sh : SeqAt.shaped d = true
  wr : d.showable = true
  sz : siz d ≤ 16000000
theorem Good.lay {d : PyData} (g : Good d) : d.canLay0 = true := SeqAt.canLay_of_shaped g.sh
theorem Good.fits {d : PyData} (g : Good d) : d.shown.length ≤ sizeLine := by
  have q := shown_le d g.wr g.lay
  have z := g.sz
  rw [sizeLine_eq]
  omega
theorem Good.same {d : PyData} (g : Good d) : PyData.eqv d d = true := SeqAt.eqv_refl d g.lay

/-! ### defs that are called where nothing is being shown -/
/-- as FnOk, where nothing is being shown around -/
structure FnG (P : Program) (w : World) (K : PySem.W.Frag) (mg : Str → Option Value) (base : Heap) (CX : CXT) (k : Nat) (f : Addr) (fd : FuncData) (ps : List Str) (sp : Sp) : Prop where
  few : ∀ vs H Q E, sp vs H Q E → vs.length = ps.length
  goes : ∀ (A : Around), A.guards = some [] → Room k A → ∀ (outer : List Env) (s : Shared) (H : Hp) (args : Args) (us : List Value) (vs : List V) (Q : VK) (E : XK),
    Env0 P w K mg base A outer s H → BindsTo s fd args (ps.zip us) → Vals vs us → sp vs H Q E → codeAny (model P w) A (.call (.ref f) args) (CR CX outer P w H s Q E) s
theorem FnG.of {P : Program} {w : World} {K : PySem.W.Frag} {mg : Str → Option Value} {base : Heap} {CX : CXT} {k : Nat} {f : Addr} {fd : FuncData} {ps : List Str} {sp : Sp}
    (F : FnOk P w K mg base CX k f fd ps sp) : FnG P w K mg base CX k f fd ps sp :=
  ⟨F.len, fun A _ hr outer s H args us vs Q E e0 hb r h => F.run A outer s H args us vs Q E hr e0 hb r h⟩
theorem FnG.mono {P : Program} {w : World} {K : PySem.W.Frag} {mg : Str → Option Value} {base : Heap} {CX : CXT} {j k : Nat} {f : Addr} {fd : FuncData} {ps : List Str} {sp : Sp}
    (F : FnG P w K mg base CX j f fd ps sp) (h : j ≤ k) : FnG P w K mg base CX k f fd ps sp :=
  ⟨F.few, fun A hg hr => F.goes A hg (hr.mono h)⟩
section
variable {X : Cx} {CX : CXT} {k : Nat} {f : Addr} {fd : FuncData} {ps : List Str} {sp : Sp} {E : XK} {x : Str} {p pos : Pos} {e : Expr} {es : List Expr} {t : TA}
theorem go_g {pins : List (Addr × Obj)} {σ : L2.St} {H : Hp} {s : Shared} {Q : VK} {us : List Value} {vs : List V} (F : FnG X.prog X.w X.K X.mg X.base CX k f fd ps sp) (hg : X.A.guards = some []) (hr : Room k X.A)
    (hb : Binds X.K fd ps []) (hx : Passes CX X E) (I : Inv X pins σ H s) (r : Vals vs us) (h : sp vs H Q E) : wpAny (model X.prog X.w) X.A (call (.ref f) us) (EP X pins σ Q) X.xe s := by
  have n : (us ++ ([] : List Value)).length = ps.length := by
    rw [List.append_nil, ← r.length]
    exact F.few _ _ _ _ h
  have b := hb s us I.kIn n
  rw [List.append_nil] at b
  apply wpAny_call
  apply codeAny_mono (F.goes X.A hg hr X.stack s H ⟨us, []⟩ us vs Q E I.env0 b r h)
  intro res s2 q
  match res, q with
  | .error er, q => exact hx pins σ H s er s2 I q
  | .ok (.ret u), q => exact I.after q
theorem pe_callG (F : FnG X.prog X.w X.K X.mg X.base CX k f fd ps sp) (gd : X.A.guards = some []) (hr : Room k X.A) (hg : Gl X x) (hm : X.mg x = some (.ref f)) (hk : PySem.W.keepIn X.K (.ref f) = true) (hb : Binds X.K fd ps []) (hx : Passes CX X E)
    (ha : PA X (e :: es) t) (h1 : (x == ("__debug__" : Str)) = false := by decide) (h2 : starEach (e :: es) X.env = (false, eval e X.env) :: starEach es X.env := by rfl) (h3 : (backTo pos (starEach es X.env)).any (·.1) = false := by rfl) :
    PE X (.Call (.Name x p) (e :: es) [] pos) (tCall sp [] E t) := by
  constructor
  intro pins s σ H Q I h
  apply wpAny_Call_Name_kw (ld_glob I hg hm ?_ h1)
  apply PySem.W.callWith_K (h₀ := X.base) I.ok.mod.kin hk _ h2 h3
  apply thn (ha.run pos pins s σ H _ I h)
  rintro us s1 ⟨vs, H1, I1, r, q⟩
  rw [List.append_nil] at q
  exact ⟨I1.kIn, go_g F gd hr hb hx I1 r q⟩
end
/-- a def by its body, where nothing is being shown around -/
theorem fnG_of {CX : CXT} {P : Program} {w : World} {K : PySem.W.Frag} {mg : Str → Option Value} {base : Heap} {k : Nat} {f : Addr} {name qual : Str} {params : Arguments} {body : List Stmt} {scope : Scope} {dV kV doc pm cdv ct oc : Value}
    {an od : Option Addr} {osl : Array (Option Value)} {N ps : List Str} {sp : Sp}
    (lk : K.lookup f = some ⟨oc, od, .func (PySem.W.fnOf name qual params body scope dV kV doc pm an cdv ct), osl⟩) (cd : PySem.W.codeIn K cdv qual = true) (S : FnScope N ps scope) (few : ∀ vs H Q E, sp vs H Q E → vs.length = ps.length)
    (goes : ∀ (A : Around) (outer : List Env) (s : Shared) (H : Hp) (vs : List V) (Q : VK) (E : XK), (A.deeper (envOfC qual scope s.heap.objs.size f cdv)).guards = some [] → Room k (A.deeper (envOfC qual scope s.heap.objs.size f cdv)) → sp vs H Q E →
      ∃ t, PSs (cxOf CX P w K mg base N qual scope f cdv A outer s H E) body t ∧ t { nx := fun _ H' => Q .non H', rt := Q } (start N vs) H) :
    FnG P w K mg base CX (k + 1) f (PySem.W.fnOf name qual params body scope dV kV doc pm an cdv ct) ps sp := by
  constructor
  · exact few
  intro A gd hr outer s H args us vs Q E e0 hb r hsp
  have n := few _ _ _ _ hsp
  have old : ∀ b o, base.get? b = some o → s.heap.get? b = some o := fun b o q => (e0.bs b o q).1
  have KX := e0.mod.kin.keeps old
  have kinds : ∀ y ∈ ps.zip us, scope.names.lookup y.1 = some .local ∨ (scope.names.lookup y.1 = some .cell ∧ ((cellsFrom (s.heap.objs.size + 1) scope.names []).lookup y.1).isSome = true) := by
    rintro ⟨a, v⟩ hy
    rcases S.par a (List.of_mem_zip hy).1 with q | q
    · left; exact q
    · right; exact ⟨q, PySem.W.cellsFrom_some _ _ _ (.inl q)⟩
  apply codeAny_call_function hr.depth (KX _ _ lk) rfl S.co S.gen rfl (PySem.W.codeRec_of KX cd)
  apply hb
  apply wpAny_newFunctionEnv_cells S.kind kinds
  rintro env rfl s1 x
  refine ⟨(e0.mod.nolimit.keeps old).keeps x.toInCall.keep, codeAny_func ?_⟩
  obtain ⟨t, ht, hq⟩ := goes A outer s H vs Q E gd (hr.deeper _) hsp
  have I : Inv (cxOf CX P w K mg base N qual scope f cdv A outer s H E) [] (start N vs) H s1 := inv_start S hr.hd e0 n r x
  apply wpAny_mono (ht.run [] s1 (start N vs) H _ I hq) _ (fun _ _ z => z)
  intro fl s2 z
  have done : ∀ {σ' : L2.St} {H' : Hp} {v : V} {u : Value}, Inv (cxOf CX P w K mg base N qual scope f cdv A outer s H E) [] σ' H' s2 → RelV v u → Q v H' → CE outer P w H s Q u s2 := by
    intro σ' H' v u J rv q
    exact ⟨v, H', J.os, J.bare, J.base, J.hok, rv, q⟩
  match fl, z with
  | .ret u, ⟨v, σ', H', J, rv, q⟩ => exact done J rv q
  | .next, ⟨σ', H', J, q⟩ => exact done (v := V.non) (u := Value.none) J rfl q
  | .brk, ⟨_, _, _, q⟩ => exact q.elim
  | .cont, ⟨_, _, _, q⟩ => exact q.elim
section
variable {P : Program} {w : World} {K : PySem.W.Frag} {mg : Str → Option Value} {base : Heap}
/-- a def of the text -/
theorem okG {x qual : Str} {st : Stmt} {f : Addr} {fd : FuncData} {N ps : List Str} {k : Nat} {sp : Sp} (F : Fun K x qual st f fd) (S : FnScope N ps (defScope st)) (few : ∀ vs H Q E, sp vs H Q E → vs.length = ps.length)
    (goes : ∀ (cdv : Value) (A : Around) (outer : List Env) (s : Shared) (H : Hp) (vs : List V) (Q : VK) (E : XK), (A.deeper (envOfC qual (defScope st) s.heap.objs.size f cdv)).guards = some [] →
      Room k (A.deeper (envOfC qual (defScope st) s.heap.objs.size f cdv)) → sp vs H Q E →
      ∃ t, PSs (cxOf CX0 P w K mg base N qual (defScope st) f cdv A outer s H E).nox (defBody st) t ∧ t { nx := fun _ H' => Q .non H', rt := Q } (start N vs) H) : FnG P w K mg base CX0 (k + 1) f fd ps sp := by
  obtain ⟨oc, od, kV, doc, pm, an, cdv, ct, osl, rfl, lk, cd⟩ := F.ex
  apply fnG_of lk cd S few
  intro A outer s H vs Q E gd hr h
  obtain ⟨t, q1, q2⟩ := goes cdv A outer s H vs Q E gd hr h
  exact ⟨t, q1.nox, q2⟩
end

/-! ### repr of data -/
theorem pyd_nodict : ∀ d : PyData, d.canLay0 = true → d.hasDict = false := PyData.hasDict_of_canLay
def rRepr (K : PySem.W.Frag) : List V → Hp → VK → Prop := fun xs H Q => ∃ x d, xs = [x] ∧ Dp K H x d ∧ Good d ∧ Q (.str d.shown) H
section
variable {X : Cx}
theorem call_repr (gd : X.A.guards = some []) (hu : X.A.units + 68 < cLine) : CallR X (.builtin "repr") (rRepr X.K) := by
  intro pins s σ H xs us Q I r h
  obtain ⟨x, d, rfl, hd, g, q⟩ := h
  obtain ⟨u, rfl, rx⟩ : ∃ u, us = [u] ∧ RelV x u := by
    cases r with
    | cons a b =>
      cases b
      exact ⟨_, rfl, a⟩
  obtain ⟨as, rd⟩ := Dp.reads I d x u hd rx
  have dep : d.depth ≤ 64 := SeqAt.depth_of_shaped g.sh
  have big := g.fits
  have last : ∀ (h' : Heap) (tk : Nat) (t : Tok), (∀ b o, s.heap.get? b = some o → h'.get? b = some o) → EP X pins σ Q (.str d.shown t) { s with heap := h', toks := tk } :=
    fun h' tk t k => ⟨.str d.shown, H, I.kept k, ⟨_, rfl⟩, q⟩
  have deep : ∀ a, u = .ref a → wpAny (model X.prog X.w) X.A (call (.builtin "repr") [u]) (EP X pins σ Q) X.xe s := by
    intro a e
    subst e
    exact repr_of_reads' rd g.wr (PyData.noDict_hsm (pyd_nodict d g.lay)) gd (by omega) (fun _ _ z => z) (fun h' t tk k => last h' tk t k) big
  match d, hd, rd with
  | .list _, _, .list _ _ _ _ => exact deep _ rfl
  | .tuple _, _, .tuple _ _ _ _ => exact deep _ rfl
  | .none, _, .none => exact P.repr_of_none (last s.heap _ _ fun _ _ z => z)
  | .bool b, _, .bool _ =>
    refine P.repr_of_bool ?_
    have z := last s.heap (s.toks + 1) s.toks fun _ _ z => z
    cases b <;> exact z
  | .int i, _, .int _ _ => exact P.repr_of_int (of_decide_eq_true g.wr) (last s.heap _ _ fun _ _ z => z)
  | .str z, _, .str _ _ => exact P.repr_of_str (last s.heap _ _ fun _ _ z => z) big
end

/-! ### the law's own call -/
/-- the script's abstract heap: the script alone, locked, where it is none of the module's own lists -/
def H0 (K : PySem.W.Frag) (a : Addr) (ob : Obj) (xs : List V) : Hp := fun b => if b = a ∧ K.lookup a = none then some (.frz ob (.lst xs)) else none
theorem H0_cases {K : PySem.W.Frag} {a b : Addr} {ob : Obj} {xs : List V} {u : HO} (h : H0 K a ob xs b = some u) : b = a ∧ K.lookup a = none ∧ u = .frz ob (.lst xs) := by
  unfold H0 at h
  split at h
  · rename_i c
    cases h
    exact ⟨c.1, c.2, rfl⟩
  · cases h
theorem law_callG {P : Program} {w : World} {K : PySem.W.Frag} {mg mb : Str → Option Value} {k : Nat} {fa a : Addr} {fd : FuncData} {x : Str} {sp : Sp} {s₁ : Shared} {vs : List Value} {ns : List Int}
    (F : ∀ base : Heap, K.In base → base.Ns mainGlobals mg → FnG P w K mg base CX0 k fa fd [x] sp) (kin : K.In s₁.heap) (gl : s₁.heap.Ns mainGlobals mg) (bl : s₁.heap.Ns builtinsNs mb)
    (blt : ∀ x : Str, x ≠ "__name__" → mb x = bootBuiltins x) (nol : s₁.heap.NoLimit) (gens : s₁.gens = #[]) (at_a : s₁.heap.get? a = some { cls := .type "list", data := .seq vs.toArray })
    (are : IntsAre vs ns) (few : ns.length ≤ sizeLine) (hr : Room k callerA) (bnd : ∀ (s : Shared) (u : Value), BindsTo s fd ⟨[u], []⟩ [(x, u)])
    (hsp : ∀ H : Hp, SqL K H a (ns.map V.int) → sp [.ref a] H (fun v _ => v = .bl true) E0) :
    codeAny (model P w) callerA (.call (.ref fa) ⟨[.ref a], []⟩) (fun r s' => r = .ok (.ret (.bool true)) ∧ OldK s₁.heap s'.heap ∧ s'.os = s₁.os ∧ AllBare s'.gens) s₁ := by
  have rv := vals_ints are
  have z : vs.length ≤ sizeLine := by rw [are.length]; exact few
  generalize eo : ({ cls := .type "list", data := .seq vs.toArray } : Obj) = ob at at_a
  let H := H0 K a ob (ns.map V.int)
  have one : ∀ b u, H b = some u → b = a ∧ K.lookup a = none ∧ u = .frz ob (.lst (ns.map V.int)) := fun b u h => H0_cases h
  have ok : HOk P w H s₁.heap := by
    intro b u h
    obtain ⟨rfl, _, rfl⟩ := one b u h
    refine ⟨at_a, by rw [List.length_map]; exact few, vs, 0, rv, ?_⟩
    rw [at_a, ← eo]
  have sq : SqL K H a (ns.map V.int) := by
    cases hk : K.lookup a with
    | none =>
      left
      right
      exact ⟨ob, if_pos ⟨rfl, hk⟩⟩
    | some o =>
      right
      have e := (kin a o hk).symm.trans at_a
      cases e
      subst eo
      exact ⟨_, vs.toArray, _, hk, rfl, rfl, rfl, by simpa using z, by simpa using rv⟩
  have dropped : ∀ {b : Addr} {o : Obj}, s₁.heap.get? b = some o → (b ≠ a ∨ K.lookup a ≠ none) → H b = none := by
    intro b o _ c
    cases h : H b with
    | none => rfl
    | some u =>
      obtain ⟨e1, e2, _⟩ := one b u h
      rcases c with c | c
      · exact absurd e1 c
      · exact absurd e2 c
  have nsA : ∀ {b : Addr} {m : Str → Option Value}, s₁.heap.Ns b m → (hidT s₁.heap H).Ns b m := by
    rintro b m ⟨o, es, ep, e, d, r⟩
    refine ⟨o, es, ep, hidT_get e (dropped e (.inl ?_)), d, r⟩
    rintro rfl
    rw [at_a] at e
    cases e
    rw [← eo] at d
    cases d
  have kinB : K.In (hidT s₁.heap H) := by
    intro b o e
    refine hidT_get (kin b o e) (dropped (kin b o e) ?_)
    by_cases h : b = a
    · right
      intro q
      rw [h, q] at e
      cases e
    · left; exact h
  have e0 : Env0 P w K mg (hidT s₁.heap H) callerA [] s₁ H := by
    constructor
    · rfl
    · obtain ⟨mc, q1, q2⟩ := nol
      exact ⟨kinB, nsA gl, ⟨mb, nsA bl, blt⟩, mc, nsA q1, q2⟩
    · exact fun b o e => of_hidT e
    · exact Nat.le_of_eq (hidT_size _ _)
    · trivial
    · intro b hb
      cases hb
    · exact ok
    · exact .of_eq gens
  apply codeAny_mono ((F _ kinB (nsA gl)).goes callerA rfl hr [] s₁ H ⟨[.ref a], []⟩ [.ref a] [.ref a] _ _ e0 (bnd s₁ (.ref a)) (.cons rfl .nil) (hsp H sq))
  intro res s2 h
  match res, h with
  | .error _, h => exact h.elim
  | .ok (.ret u), ⟨v, H', os, bare, un, ok2, rr, q⟩ =>
    have e : v = .bl true := q
    subst e
    obtain rfl : u = Value.bool true := rr
    refine ⟨rfl, OldK.of_keep ?_, os, bare⟩
    intro b o e
    cases hb : H b with
    | none => exact un.keep b o e hb (fun z => nomatch z) fun z => nomatch z
    | some u =>
      obtain ⟨_, _, rfl⟩ := one b u hb
      obtain ⟨e1, _⟩ := ok b _ hb
      obtain ⟨e2, _⟩ := ok2 b _ (un.frzs b ob _ hb)
      rw [e] at e1
      cases e1
      exact e2
/-- the walk, from the law's def -/
theorem walkG {l : PySem.W.OpenLaw} {n k : Nat} {q : Program} {loose : List Str} {XP : (Str → Option Value) → Heap → Prop} {YP : World → Heap → Prop} {d : DefRec} {K : Params → PySem.W.Frag} {sp : PySem.W.Frag → Sp} {x : Str}
    (most : l.most = some n) (small : n ≤ sizeLine) (nodef : d.params.defaults = []) (hr : Room k callerA) (hY : ∀ (w : World) (h : Heap), YP w h → (K w.params).In h)
    (F : ∀ (w : World) (mg : Str → Option Value) (fa : Addr) (h : Heap), (K w.params).In h → h.Ns mainGlobals mg → mg d.name = some (.ref fa) →
      ∃ fd : FuncData, (∀ (s : Shared) (u : Value), BindsTo s fd ⟨[u], []⟩ [(x, u)]) ∧ ∀ base : Heap, (K w.params).In base → base.Ns mainGlobals mg → FnG l.prog w (K w.params) mg base CX0 k fa fd [x] (sp (K w.params)))
    (hsp : ∀ (K : PySem.W.Frag) (H : Hp) (a : Addr) (ns : List Int), ns.length ≤ n → SqL K H a (ns.map V.int) → sp K [.ref a] H (fun v _ => v = .bl true) E0) :
    PySem.W.WalkO q loose XP YP l.row.toRowW d [] (fun f vs => PySem.call f vs) := by
  apply Att.attach_call most nodef
  intro w s₀ s₁ mg mb fa o pm cd doc a vs ns G Y _ _ _ hm at_a are few gens
  obtain ⟨fd, b, hF⟩ := F w mg fa _ (hY w _ Y) G.T.g hm
  exact law_callG hF (hY w _ Y) G.T.g G.T.b G.T.builtins G.T.nolimit gens at_a are (Nat.le_trans few small) hr b fun H h => hsp _ H a ns few h
end Pk
set_option Elab.async false
set_option linter.all false
set_option maxRecDepth 100000
set_option maxHeartbeats 2000000
namespace Pk
open PySem PySem.Spec L2 PyProof.Rows
/-! ### operators over several kinds of values -/
section
variable {X : Cx}
theorem or2 {f : Value → Value → Sem Value} {r r' : R2} (h : OpR X f r) (h' : OpR X f r') : OpR X f (fun x y H Q => r x y H Q ∨ r' x y H Q) := by
  intro pins s σ H x y v u Q I rx ry q
  rcases q with q | q
  · exact h pins s σ H x y v u Q I rx ry q
  · exact h' pins s σ H x y v u Q I rx ry q
theorem orC {f : Value} {r r' : List V → Hp → VK → Prop} (h : CallR X f r) (h' : CallR X f r') : CallR X f (fun x H Q => r x H Q ∨ r' x H Q) := by
  intro pins s σ H xs us Q I rx q
  rcases q with q | q
  · exact h pins s σ H xs us Q I rx q
  · exact h' pins s σ H xs us Q I rx q
def rAddI : R2 := rI0 fun i j => .int (i + j)
def rAddT : R2 := fun x y H Q => ∃ i j, x = .str i ∧ y = .str j ∧ i.length + j.length ≤ sizeLine ∧ Q (.str (i ++ j)) H
def rAddU (K : PySem.W.Frag) : R2 := fun x y H Q => rAddI x y H Q ∨ rAddT x y H Q ∨ rCat x y H Q ∨ rCatA K x y H Q
theorem opAdd : OpR X (binaryOp .Add) (rAddU X.K) := or2 op_add (or2 op_add_str (or2 op_cat op_catA))
def rSubI : R2 := rI0 fun i j => .int (i - j)
theorem opSub : OpR X (binaryOp .Sub) rSubI := op_sub
def rMulI : R2 := rI (fun i j => CMul i j ∨ CMulW i j) fun i j => .int (i * j)
theorem op_mulI : OpR X (binaryOp .Mult) rMulI := opI fun _ _ _ _ _ _ _ hc q => mul_int q (hc.elim CMul.ok CMulW.ok)
def rRepS : R2 := fun x y H Q => ∃ z n, x = .str z ∧ y = .int n ∧ z.length ≤ 1000 ∧ 0 ≤ n ∧ n ≤ 1000 ∧ Q (.str (Txt.mul z n)) H
theorem op_repS : OpR X (binaryOp .Mult) rRepS := by
  intro pins s σ H x y v u Q I rx ry h
  obtain ⟨z, n, rfl, rfl, hz, h0, h1, q⟩ := h
  obtain ⟨t, rfl⟩ := rx
  obtain ⟨t', rfl⟩ := ry
  refine SB.mul ⟨?_, fun a _ => ?_, fun a _ => ?_⟩ fun t2 k => ⟨.str _, H, I.tok k, ⟨_, rfl⟩, q⟩
  · rw [decide_eq_false (show ¬ n < -(2 ^ 63 : Int) by omega), decide_eq_false (show ¬ n ≥ 2 ^ 63 by omega)]
    rfl
  · have h2 : (1000 : Int) ≤ (2 ^ 63 - 1) / n := by
      apply Int.le_ediv_of_mul_le (by omega)
      omega
    omega
  · have h2 : z.length * n.toNat ≤ 1000 * 1000 := Nat.mul_le_mul hz (by omega)
    unfold Builtin.Str.tooLong
    rw [decide_eq_false]
    rw [sizeLine_eq]
    omega
def rMulU (K : PySem.W.Frag) : R2 := fun x y H Q => rMulI x y H Q ∨ rRepS x y H Q ∨ rRep x y H Q ∨ rRepT K x y H Q
theorem opMul : OpR X (binaryOp .Mult) (rMulU X.K) := or2 op_mulI (or2 op_repS (or2 op_rep op_repT))
def rDivI : R2 := rI CDivW fun i j => .int (i / j)
theorem opDiv : OpR X (binaryOp .FloorDiv) rDivI := op_fdivW
def rModI : R2 := rI (fun _ j => 0 < j) fun i j => .int (i % j)
theorem opMod : OpR X (binaryOp .Mod) rModI := op_mod
/-! comparisons; hu: room -/
def rEqU (K : PySem.W.Frag) : R2 := fun x y H Q => rEq x y H Q ∨ rEqD K x y H Q
def rNeU (K : PySem.W.Frag) : R2 := fun x y H Q => rNe x y H Q ∨ rNeD K x y H Q
theorem opEq (hu : X.A.units + 64 < cLine) : OpR X (compareOp .Eq) (rEqU X.K) := or2 op_eq (op_eqD hu)
theorem opNe (hu : X.A.units + 64 < cLine) : OpR X (compareOp .NotEq) (rNeU X.K) := or2 op_ne (op_neD hu)
def rLtI : R2 := rI0 fun i j => .bl (decide (i < j))
def rGtI : R2 := rI0 fun i j => .bl (decide (j < i))
def rLeI : R2 := rI0 fun i j => .bl (decide (i ≤ j))
def rGeI : R2 := rI0 fun i j => .bl (decide (j ≤ i))
def rLeT : R2 := fun x y H Q => ∃ i j, x = .str i ∧ y = .str j ∧ Q (.bl (!decide (j.cps.toList < i.cps.toList))) H
def rLeU : R2 := fun x y H Q => rLeI x y H Q ∨ rLeT x y H Q
theorem opLt : OpR X (compareOp .Lt) rLtI := op_lt
theorem opGt : OpR X (compareOp .Gt) rGtI := op_gt
theorem opLe : OpR X (compareOp .LtE) rLeU := or2 op_le op_le_str
theorem opGe : OpR X (compareOp .GtE) rGeI := op_ge
def rIsNn : R2 := fun x y H Q => y = .non ∧ Q (.bl (decide (x = .non))) H
def rNotNn : R2 := fun x y H Q => y = .non ∧ Q (.bl (!decide (x = .non))) H
theorem opIsN : OpR X (compareOp .Is) rIsNn := op_isN
theorem opNotN : OpR X (compareOp .IsNot) rNotNn := op_notN
/-- x in (a, b, ..), x in [..], a sign in a text -/
def rSignIn : R2 := fun x y H Q => ∃ (c : Nat) (z : Str), x = .str ⟨#[c]⟩ ∧ y = .str z ∧ Q (.bl (decide (c ∈ z.cps.toList))) H
def rSignNotIn : R2 := fun x y H Q => ∃ (c : Nat) (z : Str), x = .str ⟨#[c]⟩ ∧ y = .str z ∧ Q (.bl (!decide (c ∈ z.cps.toList))) H
def rInU (K : PySem.W.Frag) : R2 := fun x y H Q => rIn K false x y H Q ∨ rSignIn x y H Q
def rNotInU (K : PySem.W.Frag) : R2 := fun x y H Q => rIn K true x y H Q ∨ rSignNotIn x y H Q
theorem opIn : OpR X (compareOp .In) (rInU X.K) := or2 op_in_seq op_in_sign
theorem opNotIn : OpR X (compareOp .NotIn) (rNotInU X.K) := or2 op_notIn_seq op_notIn_sign
/-! slices, items stored by an operator -/
def rSlS : V → Option Int → Option Int → Hp → VK → Prop := fun x lo hi H Q => ∃ z, x = .str z ∧ z.length ≤ sizeLine ∧ Q (.str (cutS z lo hi)) H
def rSlU (K : PySem.W.Frag) : V → Option Int → Option Int → Hp → VK → Prop := fun x lo hi H Q => rSlL K x lo hi H Q ∨ rSlT K x lo hi H Q
theorem slU : SlR X (rSlU X.K) := SlR.or sl_list sl_tup
def rGetL (K : PySem.W.Frag) : R2 := fun x y H Q => ∃ p xs k v, x = .ref p ∧ y = .int k ∧ 0 ≤ k ∧ SqL K H p xs ∧ xs[k.toNat]? = some v ∧ Q v H
theorem get_list : PGet X (rGetL X.K) := by
  intro pins s σ H o i ov iv Q I ro ri h
  obtain ⟨p, xs, k, v, rfl, rfl, h0, hp, hat, q⟩ := h
  cases ro
  obtain ⟨t, rfl⟩ := ri
  obtain ⟨its, r, pl, hz⟩ := I.list hp
  obtain ⟨u, hu, ru⟩ := r.get hat
  have hl := r.length
  have hn := line63
  have hj := (List.getElem?_eq_some_iff.mp hat).1
  exact wpAny_getItem_list pl.isList h0 (by omega) (by simpa using hu) ⟨v, H, I, ru, q⟩
end
end Pk
set_option Elab.async false
set_option linter.all false
set_option maxRecDepth 100000
set_option maxHeartbeats 2000000
namespace Pk
open PySem PySem.Spec L2 PyProof.Rows
/-! ### built-ins by name -/
theorem boot_len : bootBuiltins "len" = some (.builtin "len") := PySem.boot_len
theorem boot_isinstance : bootBuiltins "isinstance" = some (.builtin "isinstance") := by decide +kernel
theorem boot_abs : bootBuiltins "abs" = some (.builtin "abs") := by decide +kernel
theorem boot_ord : bootBuiltins "ord" = some (.builtin "ord") := by decide +kernel
theorem boot_all : bootBuiltins "all" = some (.builtin "all") := by decide +kernel
theorem boot_any : bootBuiltins "any" = some (.builtin "any") := by decide +kernel
theorem boot_sum : bootBuiltins "sum" = some (.builtin "sum") := by decide +kernel
theorem boot_max : bootBuiltins "max" = some (.builtin "max") := by decide +kernel
theorem boot_min : bootBuiltins "min" = some (.builtin "min") := by decide +kernel
theorem boot_repr : bootBuiltins "repr" = some (.builtin "repr") := by decide +kernel
theorem boot_sorted : bootBuiltins "sorted" = some (.builtin "sorted") := by decide +kernel
theorem boot_t_int : bootBuiltins "int" = some (.type "int") := by decide +kernel
theorem boot_t_bool : bootBuiltins "bool" = some (.type "bool") := by decide +kernel
theorem boot_t_str : bootBuiltins "str" = some (.type "str") := by decide +kernel
theorem boot_t_list : bootBuiltins "list" = some (.type "list") := by decide +kernel
theorem boot_t_tuple : bootBuiltins "tuple" = some (.type "tuple") := by decide +kernel
theorem boot_t_dict : bootBuiltins "dict" = some (.type "dict") := by decide +kernel
section
variable {X : Cx}
def rLenU (K : PySem.W.Frag) : List V → Hp → VK → Prop := fun xs H Q => (∃ x n, xs = [x] ∧ LenV K x H n ∧ Q (.int n) H) ∨ ∃ a kvs, xs = [V.ref a] ∧ H a = some (.dK kvs) ∧ Q (.int kvs.length) H
theorem callLen : CallR X (.builtin "len") (rLenU X.K) := orC call_len call_lenD
def rAbs : List V → Hp → VK → Prop := fun xs H Q => ∃ i, xs = [.int i] ∧ Q (.int (if i < 0 then -i else i)) H
def rOrd : List V → Hp → VK → Prop := fun xs H Q => ∃ x, xs = [.str x] ∧ x.length = 1 ∧ Q (.int (x.cps.getD 0 0 : Nat)) H
def rMax2 : List V → Hp → VK → Prop := fun xs H Q => ∃ i j, xs = [.int i, .int j] ∧ Q (.int (if j > i then j else i)) H
def rMin2 : List V → Hp → VK → Prop := fun xs H Q => ∃ i j, xs = [.int i, .int j] ∧ Q (.int (if j < i then j else i)) H
def rInt1 : List V → Hp → VK → Prop := fun xs H Q => (∃ i, xs = [.int i] ∧ Q (.int i) H) ∨ ∃ k, xs = [.bl k] ∧ Q (.int (if k then 1 else 0)) H
def rIntS : List V → Hp → VK → Prop := fun xs H Q => ∃ a n, xs = [.str a] ∧ PySem.intText? a = some n ∧ a.length ≤ 640 ∧ Q (.int n) H
def rIntU : List V → Hp → VK → Prop := fun xs H Q => rInt1 xs H Q ∨ rIntS xs H Q
theorem callInt : CallR X (.type "int") rIntU := orC call_int1 call_int_str
def rBool1 : List V → Hp → VK → Prop := fun xs H Q => (∃ i, xs = [.int i] ∧ Q (.bl (i != 0)) H) ∨ ∃ k, xs = [.bl k] ∧ Q (.bl k) H
def rListOf (K : PySem.W.Frag) : List V → Hp → VK → Prop := fun xs H Q => ∃ p ys, xs = [.ref p] ∧ (SqL K H p ys ∨ SqT K H p ys) ∧ ∀ l, H l = none → Q (.ref l) (upd H l (.lst ys))
def rTupleOf (K : PySem.W.Frag) : List V → Hp → VK → Prop := fun xs H Q => ∃ p ys, xs = [.ref p] ∧ ((SqL K H p ys ∧ ∀ l, H l = none → Q (.ref l) (upd H l (.tup ys))) ∨ (SqT K H p ys ∧ Q (.ref p) H))
def rPowI : R2 := rI CPow fun i j => .int (i ^ j.toNat)
theorem opPow : OpR X (binaryOp .Pow) rPowI := op_pow
def tTru (K : PySem.W.Frag) (ta : TE) : TT := fun σ H Q => ta σ H fun x H' => ∃ k, TruV K x H' k ∧ Q k H'
def tJoin (K : PySem.W.Frag) (to ta : TE) : TE := tBM K "str" (fun x xs H Q => ∃ a p, ∃ ys : List Str, x = .str a ∧ xs = [.ref p] ∧ (SqL K H p (ys.map V.str) ∨ SqT K H p (ys.map V.str)) ∧ JoinOk a ys = true ∧ Q (.str (Txt.join a ys)) H) to (tCons ta tNil)
end
/-! ### a def that is called: where it stands, what it promises -/
structure Cal (P : Program) (w : World) (K : PySem.W.Frag) (mg : Str → Option Value) (base : Heap) (CX : CXT) (k : Nat) (x : Str) (ps : List Str) (ds : List Value) (sp : Sp) : Prop where
  ex : ∃ f fd, FnOk P w K mg base CX k f fd ps sp ∧ mg x = some (.ref f) ∧ PySem.W.keepIn K (.ref f) = true ∧ Binds K fd ps ds
structure CalG (P : Program) (w : World) (K : PySem.W.Frag) (mg : Str → Option Value) (base : Heap) (CX : CXT) (k : Nat) (x : Str) (ps : List Str) (sp : Sp) : Prop where
  ex : ∃ f fd, FnG P w K mg base CX k f fd ps sp ∧ mg x = some (.ref f) ∧ PySem.W.keepIn K (.ref f) = true ∧ Binds K fd ps []
section
variable {X : Cx} {CX : CXT} {k j : Nat} {ps : List Str} {ds : List Value} {dvs : List V} {sp : Sp} {E : XK} {x : Str} {p pos : Pos} {e : Expr} {es : List Expr} {t : TA}
theorem pe_cal (F : Cal X.prog X.w X.K X.mg X.base CX k x ps [] sp) (hr : Room j X.A) (hx : Passes CX X E) (ha : PA X (e :: es) t) (hj : k ≤ j := by first | decide | omega) (hg : Gl X x := by rfl)
    (h1 : (x == ("__debug__" : Str)) = false := by decide) (h2 : starEach (e :: es) X.env = (false, eval e X.env) :: starEach es X.env := by rfl) (h3 : (backTo pos (starEach es X.env)).any (·.1) = false := by rfl) :
    PE X (.Call (.Name x p) (e :: es) [] pos) (tCall sp [] E t) := by
  obtain ⟨f, fd, F, hm, hk, hb⟩ := F.ex
  exact pe_call F (hr.mono hj) hg hm hk hb .nil hx ha h1 h2 h3
theorem pe_calD (F : Cal X.prog X.w X.K X.mg X.base CX k x ps ds sp) (hd : Vals dvs ds) (hr : Room j X.A) (hx : Passes CX X E) (ha : PA X (e :: es) t) (hj : k ≤ j := by first | decide | omega) (hg : Gl X x := by rfl)
    (h1 : (x == ("__debug__" : Str)) = false := by decide) (h2 : starEach (e :: es) X.env = (false, eval e X.env) :: starEach es X.env := by rfl) (h3 : (backTo pos (starEach es X.env)).any (·.1) = false := by rfl) :
    PE X (.Call (.Name x p) (e :: es) [] pos) (tCall sp dvs E t) := by
  obtain ⟨f, fd, F, hm, hk, hb⟩ := F.ex
  exact pe_call F (hr.mono hj) hg hm hk hb hd hx ha h1 h2 h3
theorem pe_calg (F : CalG X.prog X.w X.K X.mg X.base CX k x ps sp) (gd : X.A.guards = some []) (hr : Room j X.A) (hx : Passes CX X E) (ha : PA X (e :: es) t) (hj : k ≤ j := by first | decide | omega) (hg : Gl X x := by rfl)
    (h1 : (x == ("__debug__" : Str)) = false := by decide) (h2 : starEach (e :: es) X.env = (false, eval e X.env) :: starEach es X.env := by rfl) (h3 : (backTo pos (starEach es X.env)).any (·.1) = false := by rfl) :
    PE X (.Call (.Name x p) (e :: es) [] pos) (tCall sp [] E t) := by
  obtain ⟨f, fd, F, hm, hk, hb⟩ := F.ex
  exact pe_callG F gd (hr.mono hj) hg hm hk hb hx ha h1 h2 h3
end
theorem room_repr {k : Nat} {A : Around} (hr : Room k A) : A.units + 68 < cLine := by have := hr.un; omega
/-! ### what is kept -/
/-- all that was tracked but b -/
def Kp (b : Addr) (H H' : Hp) : Prop := ∀ c o, H c = some o → c ≠ b → H' c = some o
theorem Kp.refl {b : Addr} {H : Hp} : Kp b H H := fun _ _ h _ => h
theorem Kp.trans {b : Addr} {H H1 H2 : Hp} (a : Kp b H H1) (c : Kp b H1 H2) : Kp b H H2 := fun d o h n => c d o (a d o h n) n
theorem Kp.of {b : Addr} {H H' : Hp} (s : Same H H') : Kp b H H' := fun c o h _ => s c o h
theorem same_new {H : Hp} {p : Addr} {o : HO} (h : H p = none) : Same H (upd H p o) := fun b u q => by
  rw [upd_ne (ne_of_none q h)]
  exact q
theorem kp_new {b : Addr} {H : Hp} {p : Addr} {o : HO} (h : H p = none) : Kp b H (upd H p o) := Kp.of (same_new h)
theorem Kp.laid {b : Addr} {H H1 : Hp} {p : Addr} {o : HO} (k : Kp b H H1) (h : H1 p = none) : Kp b H (upd H1 p o) := k.trans (kp_new h)
/-- the object b itself is written -/
theorem kp_put {b : Addr} {H : Hp} {o : HO} : Kp b H (upd H b o) := fun c u h n => by
  rw [upd_ne n]
  exact h
theorem Kp.put {b : Addr} {H H1 : Hp} {o : HO} (k : Kp b H H1) : Kp b H (upd H1 b o) := k.trans kp_put
/-- an object that was not tracked at the beginning is written -/
theorem Kp.other {b p : Addr} {H H1 : Hp} {o : HO} (k : Kp b H H1) (h : H p = none) : Kp b H (upd H1 p o) := fun c u q n => by
  rw [upd_ne (ne_of_none q h)]
  exact k c u q n
theorem Kp.tup {K : PySem.W.Frag} {b a : Addr} {H H' : Hp} {xs ys : List V} (k : Kp b H H') (hb : H b = some (.lst ys)) (h : SqT K H a xs) : SqT K H' a xs := by
  rcases h with (h | ⟨o, h⟩) | h
  · exact .inl (.inl (k _ _ h (ne_of h hb (by intro z; cases z))))
  · exact .inl (.inr ⟨o, k _ _ h (ne_of h hb (by intro z; cases z))⟩)
  · exact .inr h
/-! ### the bag of draws -/
structure Bag (H : Hp) (b l : Addr) : Prop where
  ex : ∃ (x m p : Int) (xs : List Int), H b = some (.lst [.int x, .int m, .int p, .ref l]) ∧ H l = some (.lst (xs.map V.int)) ∧ 0 ≤ x ∧ 0 ≤ m ∧ m < 2147483647 ∧ 0 ≤ p ∧ xs.length ≤ 63 ∧ ∀ c ∈ xs, 0 ≤ c
theorem Bag.ne {H : Hp} {b l : Addr} (B : Bag H b l) : l ≠ b := by
  obtain ⟨x, m, p, xs, h1, h2, _⟩ := B.ex
  intro e
  rw [e, h1] at h2
  cases xs with
  | nil => cases h2
  | cons _ r => cases r with
    | nil => cases h2
    | cons _ r => cases r with
      | nil => cases h2
      | cons _ r => cases r with
        | nil => cases h2
        | cons _ r => simp at h2
/-- what is new does not touch the bag -/
theorem Bag.same {H H' : Hp} {b l : Addr} (B : Bag H b l) (s : Same H H') : Bag H' b l := by
  obtain ⟨x, m, p, xs, h1, h2, r⟩ := B.ex
  exact ⟨x, m, p, xs, s _ _ h1, s _ _ h2, r⟩
theorem Bag.at {H : Hp} {b l : Addr} (B : Bag H b l) : ∃ xs, H b = some (.lst xs) := by
  obtain ⟨x, m, p, xs, h1, h2, r⟩ := B.ex
  exact ⟨_, h1⟩
theorem Bag.at2 {H : Hp} {b l : Addr} (B : Bag H b l) : ∃ xs, H l = some (.lst xs) := by
  obtain ⟨x, m, p, xs, h1, h2, r⟩ := B.ex
  exact ⟨_, h2⟩
theorem Bag.put {H : Hp} {b l c : Addr} {o : HO} (B : Bag H b l) (h1 : b ≠ c) (h2 : l ≠ c) : Bag (upd H c o) b l := by
  obtain ⟨x, m, p, xs, e1, e2, r⟩ := B.ex
  exact ⟨x, m, p, xs, by rw [upd_ne h1]; exact e1, by rw [upd_ne h2]; exact e2, r⟩
/-- a number drawn below n -/
def sp_law_take (K : PySem.W.Frag) : Sp := fun vs H Q _ => ∃ b l n, vs = [.ref b, .int n] ∧ Bag H b l ∧ 0 < n ∧ n ≤ 10 ^ 100 ∧ ∀ v H', 0 ≤ v → v < n → Bag H' b l → Kp b H H' → Q (.int v) H'
/-- a new bag of a script -/
def sp_law_bag (K : PySem.W.Frag) : Sp := fun vs H Q _ => ∃ (a : Addr) (ns : List Int), vs = [.ref a] ∧ SqL K H a (ns.map V.int) ∧ ∀ b l H', H b = none → H l = none → Bag H' b l → Same H H' → Q (.ref b) H'
end Pk
set_option Elab.async false
set_option linter.all false
set_option maxRecDepth 100000
set_option maxHeartbeats 2000000
namespace Pk
open PySem PySem.Spec L2 PyProof.Rows
def t_law_bag (K : PySem.W.Frag) : TS :=
  (tRet (tLst (tCons (tC (.int 0)) (tCons (tC (.int 1234567891)) (tCons (tC (.int 0)) (tCons (tLc (iList K (tSl (rSlU K) (tVar 0) tNoPart (tPart (tC (.int 63))))) (gName 1) tYes (tCB (rAbs) (tCons (tVar 1) tNil)) [1]) tNil))))))
def t_law_take (K : PySem.W.Frag) : TS :=
  (Evl.tCut (tIfS (tTest (tOp (rEqU K) (tOp (rIx K) (tVar 0) (tC (.int 0))) (tC (.int 0)))) (tSeq (tAsg (tC (.int 0)) (gName 2))
    (Evl.tCut (tIfS (tTest (tOp (rLtI) (tOp (rIx K) (tVar 0) (tC (.int 2))) (tCB (rLenU K) (tCons (tOp (rIx K) (tVar 0) (tC (.int 3))) tNil)))) (tAsg (tOp (rIx K) (tOp (rIx K) (tVar 0) (tC (.int 3))) (tOp (rIx K) (tVar 0) (tC (.int 2)))) (gName 2)) tNext)
    (tSeq (tAugS (tVar 0) (tC (.int 2)) (tC (.int 1)) (rGetL K) (ipI fun i j => i + j) rSetL)
    (Evl.tCut (tIfS (tTest (tOp (rGeI) (tVar 2) (tC (.int 1000000000000000000)))) (tAsg (tVar 2) (gSub (tVar 0) (tC (.int 0)) rSetL)) tNext)
    (tSeq (tAsg (tOp (rAddU K) (tOp (rAddU K) (tOp (rMulU K) (tOp (rIx K) (tVar 0) (tC (.int 1))) (tC (.int 48271))) (tOp (rModI) (tCB (rIntU) (tCons (tVar 2) tNil)) (tC (.int 2147483647)))) (tOp (rMulU K) (tC (.int 7919)) (tOp (rIx K) (tVar 0) (tC (.int 2))))) (gName 3))
    (tAsg (tOp (rModI) (tCB (rIntU) (tCons (tVar 3) tNil)) (tC (.int 2147483647))) (gSub (tVar 0) (tC (.int 1)) rSetL))))))) tNext)
    (tSeq (tIfS (tTest (tOp (rGtI) (tOp (rIx K) (tVar 0) (tC (.int 0))) (tC (.int 0)))) (tSeq (tAsg (tOp (rModI) (tCB (rIntU) (tCons (tOp (rIx K) (tVar 0) (tC (.int 0))) tNil)) (tVar 1)) (gName 4))
    (tSeq (tAsg (tOp (rDivI) (tOp (rIx K) (tVar 0) (tC (.int 0))) (tVar 1)) (gSub (tVar 0) (tC (.int 0)) rSetL))
    (tRet (tVar 4)))) tNext)
    (tSeq (tAsg (tOp (rModI) (tCB (rIntU) (tCons (tOp (rMulU K) (tOp (rAddU K) (tOp (rIx K) (tVar 0) (tC (.int 1))) (tC (.int 1))) (tC (.int 39373))) tNil)) (tC (.int 1000000007))) (gName 5))
    (tSeq (tAsg (tOp (rModI) (tCB (rIntU) (tCons (tOp (rMulU K) (tOp (rModI) (tCB (rIntU) (tCons (tOp (rMulU K) (tVar 5) (tVar 5)) tNil)) (tC (.int 998244353))) (tC (.int 30011))) tNil)) (tC (.int 998244353))) (gName 6))
    (tSeq (tIfS (tTest (tOp (rGtI) (tVar 1) (tC (.int 1000000)))) (tRet (tOp (rModI) (tCB (rIntU) (tCons (tOp (rAddU K) (tOp (rMulU K) (tVar 6) (tC (.int 1000000007))) (tVar 5)) tNil)) (tVar 1))) tNext)
    (tRet (tOp (rModI) (tCB (rIntU) (tCons (tOp (rDivI) (tVar 6) (tC (.int 7))) tNil)) (tVar 1))))))))
abbrev EndsOf (Q : VK) : Ends := { nx := fun _ H' => Q .non H', rt := Q }
theorem ln_law_take {K : PySem.W.Frag} {vs : List V} {H : Hp} {Q : VK} {E : XK} (h : sp_law_take K vs H Q E) : vs.length = 2 := by obtain ⟨_, _, _, rfl, _⟩ := h; rfl
theorem ln_law_bag {K : PySem.W.Frag} {vs : List V} {H : Hp} {Q : VK} {E : XK} (h : sp_law_bag K vs H Q E) : vs.length = 1 := by obtain ⟨_, _, rfl, _⟩ := h; rfl
/-! ### slices by natural numbers -/
theorem cutV_to (xs : List V) (k : Nat) : cutV xs none (some (k : Int)) = xs.take k := by
  unfold cutV
  rw [HT.sIx_none, HT.sIx_nat]
  show (xs.drop 0).take (min k xs.length - 0) = xs.take k
  rw [List.drop_zero, Nat.sub_zero]
  exact (List.take_eq_take_min).symm
theorem cutV_from (xs : List V) (k : Nat) : cutV xs (some (k : Int)) none = xs.drop k := by
  unfold cutV
  rw [HT.sIx_none, HT.sIx_nat]
  by_cases h : k ≤ xs.length
  · rw [Nat.min_eq_left h, List.take_of_length_le]
    rw [List.length_drop]
    exact Nat.le_refl _
  · rw [Nat.min_eq_right (by omega), List.drop_length, List.drop_eq_nil_of_le (by omega), List.take_nil]
theorem take_map_get {α β : Type} {f : α → β} {l : List α} {i : Nat} {x : α} (h : l[i]? = some x) : (l.take (i + 1)).map f = (l.take i).map f ++ [f x] := by
  rw [List.take_add_one, h]
  simp
def iabs (i : Int) : Int := if i < 0 then -i else i
theorem rd_law_bag {K : PySem.W.Frag} {vs : List V} {H : Hp} {Q : VK} {E : XK} (h : sp_law_bag K vs H Q E) : t_law_bag K (EndsOf Q) (start ["", ""] vs) H := by
  obtain ⟨a, ns, rfl, hS, k⟩ := h
  refine ⟨_, rfl, 63, rfl, .inl ⟨a, _, rfl, hS, fun p hp => ?_⟩⟩
  have e1 : cutV (ns.map V.int) none (some 63) = (ns.take 63).map V.int := by
    rw [show (63 : Int) = ((63 : Nat) : Int) from rfl, cutV_to, List.map_take]
  rw [e1]
  refine ⟨p, rfl, ⟨_, SqL.of upd_same⟩, fun D hD => ?_⟩
  refine lc_list (xs := (ns.take 63).map V.int) (fun i H' => Same (upd H p (.lst ((ns.take 63).map V.int))) H' ∧ H' D = some (.lst (((ns.take 63).take i).map fun z => V.int (iabs z)))) ⟨same_new hD, upd_same⟩ (fun i H' _ s => s.1.seq (SqL.of upd_same)) ?_ ?_
  · rintro i x H' hx ⟨s, e⟩
    rw [List.getElem?_map] at hx
    cases hz : (ns.take 63)[i]? with
    | none => rw [hz] at hx; cases hx
    | some z =>
      rw [hz] at hx
      cases hx
      have hi := (List.getElem?_eq_some_iff.mp hz).1
      have hl : (ns.take 63).length ≤ 63 := by rw [List.length_take]; omega
      refine ⟨rfl, ?_⟩
      refine ⟨_, rfl, z, rfl, _, e, ?_, fun b o q => ?_, ?_⟩
      · rw [List.length_map, List.length_take]
        exact small1000 (by omega)
      · rw [upd_ne (ne_of_none q hD)]
        exact s b o q
      · rw [upd_same, take_map_get hz]
        rfl
  · rintro H' ⟨s, e⟩
    refine ⟨by show 4 ≤ sizeLine; decide, fun b hb => ?_⟩
    rw [List.length_map, List.take_length] at e
    refine k b D _ ?_ ?_ ⟨0, 1234567891, 0, ((ns.take 63).map iabs), upd_same, ?_, by omega, by omega, by omega, by omega, ?_, ?_⟩ ?_
    · exact (same_new hp).free (s.free hb)
    · exact (same_new hp).free hD
    · rw [upd_ne (ne_of_none e hb), e, List.map_map]
      rfl
    · rw [List.length_map, List.length_take]
      omega
    · intro c hc
      obtain ⟨z, _, rfl⟩ := List.mem_map.mp hc
      unfold iabs
      split <;> omega
    · exact (same_new hp).trans (s.trans (same_new hb))

theorem ifI {x y : Int} {A B : Prop} (h1 : x = y → A) (h2 : x ≠ y → B) : if decide (V.int x = V.int y) = true then A else B := by
  by_cases h : x = y
  · rw [if_pos (decide_eq_true (congrArg V.int h))]
    exact h1 h
  · rw [if_neg]
    · exact h2 h
    · intro z
      exact h (V.int.inj (of_decide_eq_true z))
theorem ifD {p : Prop} [Decidable p] {A B : Prop} (h1 : p → A) (h2 : ¬ p → B) : if decide p = true then A else B := by
  by_cases h : p
  · rw [if_pos (decide_eq_true h)]
    exact h1 h
  · rw [if_neg (fun z => h (of_decide_eq_true z))]
    exact h2 h
theorem div_ok {n : Int} (h0 : 0 < n) (h1 : n ≤ 10 ^ 100) : CDivW 0 n := by
  refine ⟨h0, ?_⟩
  have h2 : n.natAbs < 2 ^ 9000 := by
    have z : n.natAbs ≤ 10 ^ 100 := by omega
    have z2 : (10 : Nat) ^ 100 < 2 ^ 9000 := by decide +kernel
    omega
  by_cases e : n.natAbs = 0
  · rw [e]; decide
  · exact (Nat.log2_lt e).mpr h2
theorem rd_law_take {K : PySem.W.Frag} {vs : List V} {H : Hp} {Q : VK} {E : XK} (h : sp_law_take K vs H Q E) : t_law_take K (EndsOf Q) (start ["", "", "", "", "", "", ""] vs) H := by
  obtain ⟨b, l, n, rfl, B, h0, h1, k⟩ := h
  have nlb := B.ne
  obtain ⟨x, m, p, xs, hb, hl, x0, m0, m1, p0, l63, c0⟩ := B.ex
  refine ⟨fun σ' H' => ∃ (s2 s3 : Option V) (x m p : Int), σ' = [some (.ref b), some (.int n), s2, s3, none, none, none] ∧ H' b = some (.lst [.int x, .int m, .int p, .ref l]) ∧ H' l = some (.lst (xs.map V.int)) ∧ 0 ≤ x ∧ 0 ≤ m ∧ m < 2147483647 ∧ 0 ≤ p ∧ Kp b H H', ?_, ?_⟩
  · refine ⟨_, rfl, .inl ⟨b, _, _, _, rfl, rfl, SqL.of hb, rfl, .inl ⟨rfl, _, rfl, ?_⟩⟩⟩
    refine ifI (fun e => ?_) (fun _ => ⟨_, _, x, m, p, rfl, hb, hl, x0, m0, m1, p0, Kp.refl⟩)
    subst e
    -- the next cell, 0 behind the script
    refine ⟨fun σ' H' => H' = H ∧ ∃ c, 0 ≤ c ∧ σ' = [some (.ref b), some (.int n), some (.int c), none, none, none, none], ?_, ?_⟩
    · refine ⟨_, rfl, .inl ⟨b, _, _, _, rfl, rfl, SqL.of hb, rfl, _, rfl, .inl ⟨b, _, _, _, rfl, rfl, SqL.of hb, rfl, .inl ⟨_, _, rfl, .inl ⟨_, SqL.of hl, rfl⟩, _, _, rfl, rfl, _, rfl, ?_⟩⟩⟩⟩
      refine ifD (fun q => ?_) (fun _ => ⟨rfl, 0, by decide, rfl⟩)
      rw [List.length_map] at q
      have hp : p.toNat < xs.length := by omega
      have ep : p = ((p.toNat : Nat) : Int) := by omega
      have g : (xs.map V.int)[p.toNat]? = some (.int (xs[p.toNat])) := by rw [List.getElem?_map, List.getElem?_eq_getElem hp]; rfl
      refine ⟨_, rfl, .inl ⟨b, _, _, _, rfl, rfl, SqL.of hb, rfl, _, rfl, .inl ⟨b, _, _, _, rfl, rfl, SqL.of hb, rfl, .inl ⟨l, _, p, _, rfl, rfl, SqL.of hl, by rw [ep]; exact atI_nat g, ?_⟩⟩⟩⟩
      exact ⟨rfl, _, c0 _ (List.getElem_mem hp), rfl⟩
    rintro σ' H' ⟨rfl, c, cc, rfl⟩
    -- the place
    refine ⟨_, rfl, b, _, 2, _, rfl, rfl, by decide, SqL.of hb, rfl, _, _, rfl, rfl, b, _, 2, 2, rfl, rfl, hb, rfl, ?_⟩
    have hb' : (upd H' b (.lst [.int 0, .int m, .int (p + 1), .ref l])) b = some (.lst [.int 0, .int m, .int (p + 1), .ref l]) := upd_same
    have hl' : (upd H' b (.lst [.int 0, .int m, .int (p + 1), .ref l])) l = some (.lst (xs.map V.int)) := by rw [upd_ne nlb]; exact hl
    have kp' : Kp b H' (upd H' b (.lst [.int 0, .int m, .int (p + 1), .ref l])) := kp_put
    show Evl.tCut _ _ _ _ (upd H' b (.lst [.int 0, .int m, .int (p + 1), .ref l]))
    generalize upd H' b (.lst [.int 0, .int m, .int (p + 1), .ref l]) = H2 at hb' hl' kp' ⊢
    -- a great cell fills the bag
    refine ⟨fun σ' H3 => σ' = [some (.ref b), some (.int n), some (.int c), none, none, none, none] ∧ ∃ x, 0 ≤ x ∧ H3 b = some (.lst [.int x, .int m, .int (p + 1), .ref l]) ∧ H3 l = some (.lst (xs.map V.int)) ∧ Kp b H' H3, ?_, ?_⟩
    · refine ⟨_, rfl, _, _, rfl, rfl, _, rfl, ?_⟩
      refine ifD (fun q => ?_) (fun _ => ⟨rfl, 0, by decide, hb', hl', kp'⟩)
      refine ⟨_, rfl, _, rfl, b, _, 0, 0, rfl, rfl, hb', rfl, rfl, c, cc, upd_same, by rw [upd_ne nlb]; exact hl', kp'.put⟩
    rintro σ' H3 ⟨rfl, x, x0', hb3, hl3, kp3⟩
    refine ⟨_, rfl, .inl ⟨b, _, _, _, rfl, rfl, SqL.of hb3, rfl, .inl ⟨_, _, rfl, rfl, .inl (.inl (by omega)), ?_⟩⟩⟩
    refine ⟨_, rfl, .inl (.inl ⟨_, rfl, _, _, rfl, rfl, (by show (0 : Int) < _; decide), .inl ⟨_, _, rfl, rfl, ?_⟩⟩)⟩
    refine ⟨_, rfl, .inl ⟨b, _, _, _, rfl, rfl, SqL.of hb3, rfl, .inl ⟨_, _, rfl, rfl, .inl (.inl (by omega)), .inl ⟨_, _, rfl, rfl, ?_⟩⟩⟩⟩
    refine ⟨_, rfl, .inl (.inl ⟨_, rfl, _, _, rfl, rfl, (by show (0 : Int) < _; decide), ?_⟩)⟩
    refine ⟨_, rfl, b, _, 1, 1, rfl, rfl, hb3, rfl, ?_⟩
    exact ⟨_, _, x, _, p + 1, rfl, upd_same, by rw [upd_ne nlb]; exact hl3, x0', Int.emod_nonneg _ (by decide), Int.emod_lt_of_pos _ (by decide), by omega, kp3.put⟩
  · rintro σ' H' ⟨s2, s3, x, m, p, rfl, hb, hl, x0, m0, m1, p0, kp⟩
    refine ⟨_, rfl, .inl ⟨b, _, _, _, rfl, rfl, SqL.of hb, rfl, _, _, rfl, rfl, _, rfl, ?_⟩⟩
    refine ifD (fun hx => ?_) (fun hx => ?_)
    · refine ⟨_, rfl, .inl ⟨b, _, _, _, rfl, rfl, SqL.of hb, rfl, .inl (.inl ⟨_, rfl, _, rfl, _, _, rfl, rfl, h0, ?_⟩)⟩⟩
      refine ⟨_, rfl, .inl ⟨b, _, _, _, rfl, rfl, SqL.of hb, rfl, _, rfl, _, _, rfl, rfl, div_ok h0 h1, ?_⟩⟩
      refine ⟨_, rfl, b, _, _, 0, rfl, rfl, hb, rfl, ?_⟩
      refine ⟨_, rfl, k _ _ (Int.emod_nonneg _ (by omega)) (Int.emod_lt_of_pos _ h0) ⟨x / n, m, p, xs, upd_same, by rw [upd_ne nlb]; exact hl, Int.ediv_nonneg x0 (by omega), m0, m1, p0, l63, c0⟩ kp.put⟩
    · refine ⟨_, rfl, .inl ⟨b, _, _, _, rfl, rfl, SqL.of hb, rfl, .inl ⟨_, _, rfl, rfl, .inl ⟨_, _, rfl, rfl, .inl (.inl (by omega)), ?_⟩⟩⟩⟩
      refine .inl (.inl ⟨_, rfl, _, _, rfl, rfl, (by show (0 : Int) < _; decide), ?_⟩)
      generalize hw : (m + 1) * 39373 % 1000000007 = w
      have w0 : 0 ≤ w := by rw [← hw]; exact Int.emod_nonneg _ (by decide)
      have w1 : w < 1000000007 := by rw [← hw]; exact Int.emod_lt_of_pos _ (by decide)
      refine ⟨_, rfl, _, rfl, .inl ⟨_, _, rfl, rfl, .inl (.inl (by omega)), ?_⟩⟩
      refine .inl (.inl ⟨_, rfl, _, _, rfl, rfl, (by show (0 : Int) < _; decide), .inl ⟨_, _, rfl, rfl, .inl (.inr (by decide)), .inl (.inl ⟨_, rfl, _, _, rfl, rfl, (by show (0 : Int) < _; decide), ?_⟩)⟩⟩)
      generalize hz : w * w % 998244353 * 30011 % 998244353 = z
      have z0 : 0 ≤ z := by rw [← hz]; exact Int.emod_nonneg _ (by decide)
      have z1 : z < 998244353 := by rw [← hz]; exact Int.emod_lt_of_pos _ (by decide)
      refine ⟨_, rfl, _, _, rfl, rfl, _, rfl, ?_⟩
      have B' : Bag H' b l := ⟨x, m, p, xs, hb, hl, x0, m0, m1, p0, l63, c0⟩
      refine ifD (fun _ => ?_) (fun _ => ?_)
      · refine ⟨_, rfl, .inl ⟨_, _, rfl, rfl, .inl (.inl (by omega)), _, rfl, .inl ⟨_, _, rfl, rfl, .inl (.inl ⟨_, rfl, _, rfl, _, _, rfl, rfl, h0, ?_⟩)⟩⟩⟩
        exact k _ _ (Int.emod_nonneg _ (by omega)) (Int.emod_lt_of_pos _ h0) B' kp
      · refine ⟨_, rfl, _, _, rfl, rfl, ⟨by decide, by decide⟩, .inl (.inl ⟨_, rfl, _, rfl, _, _, rfl, rfl, h0, ?_⟩)⟩
        exact k _ _ (Int.emod_nonneg _ (by omega)) (Int.emod_lt_of_pos _ h0) B' kp
end Pk
set_option Elab.async false
set_option linter.all false
set_option maxRecDepth 100000
set_option maxHeartbeats 2000000
namespace Pk
open PySem PySem.Spec L2 PyProof.Rows
theorem kit_same {K : PySem.W.Frag} {v : Value} : PySem.W.kitOne K v v = some true := by
  unfold PySem.W.kitOne
  simp
/-! ### own classes: bundles of what the top says of them -/
/-- a def that is a class's own: where it stands, what it promises -/
structure Own (P : Program) (w : World) (K : PySem.W.Frag) (mg : Str → Option Value) (base : Heap) (CX : CXT) (k : Nat) (C : Addr) (m : Str) (ps : List Str) (sp : Sp) : Prop where
  ex : ∃ f fd, FnOk P w K mg base CX k f fd ps sp ∧ PySem.W.findIn K (.ref C) m = some (some (.ref f)) ∧ PySem.W.isFn K (.ref f) = true ∧ PySem.W.keepIn K (.ref f) = true ∧ PySem.W.fnIn K f = true ∧ Binds K fd ps []
/-- a property of a class -/
structure Pro (P : Program) (w : World) (K : PySem.W.Frag) (mg : Str → Option Value) (base : Heap) (CX : CXT) (k : Nat) (C : Addr) (m : Str) (ps : List Str) (sp : Sp) : Prop where
  ex : ∃ p f fd, FnOk P w K mg base CX k f fd ps sp ∧ PropOf K C m p f ∧ Binds K fd ps []
/-- a class of the text -/
structure Kls (K : PySem.W.Frag) (mg : Str → Option Value) (x : Str) (C : Addr) : Prop where
  at_ : mg x = some (.ref C)
  cl : Cls K C
  ma : PySem.W.makesIn K C = true
  kp : PySem.W.keepIn K (.ref C) = true
  sf : PySem.W.selfFirst K C = true
  ic : C8.InsC K C
  ne : PySem.W.findIn K (.ref C) "__ne__" = some (some (.builtin "object.__ne__"))
section
variable {X : Cx} {CX : CXT} {k j : Nat} {C : Addr} {ps : List Str} {sp : Sp} {E : XK} {x m : Str} {p pos apos : Pos} {e o fe : Expr} {es : List Expr} {ta tf te : TE} {t : TA}
theorem run_code {pins : List (Addr × Obj)} {σ : L2.St} {H : Hp} {s : Shared} {f : Addr} {fd : FuncData} {Q : VK} {us : List Value} {vs : List V} (F : FnOk X.prog X.w X.K X.mg X.base CX k f fd ps sp) (hr : Room k X.A) (hb : Binds X.K fd ps [])
    (hx : Passes CX X E) (I : Inv X pins σ H s) (r : Vals vs us) (h : sp vs H Q E) :
    codeAny (model X.prog X.w) X.A (.call (.ref f) ⟨us, []⟩) (fun r s' => match r with | .ok (.ret v) => EP X pins σ Q v s' | .ok _ => False | .error e => X.xe e s') s := by
  have n : (us ++ ([] : List Value)).length = ps.length := by
    rw [List.append_nil, ← r.length]
    exact F.len _ _ _ _ h
  have b := hb s us I.kIn n
  rw [List.append_nil] at b
  apply codeAny_mono (F.run X.A X.stack s H ⟨us, []⟩ us vs Q E hr I.env0 b r h)
  intro res s2 q
  match res, q with
  | .error er, q => exact hx pins σ H s er s2 I q
  | .ok (.ret u), q => exact I.after q
/-- C(e, ..) -/
theorem pe_mk (c : Kls X.K X.mg x C) (F : Own X.prog X.w X.K X.mg X.base CX k C "__init__" ps sp) (hr : Room j X.A) (hx : Passes CX X E) (ha : PA X (e :: es) t) (hj : k + 1 ≤ j := by first | decide | omega) (hg : Gl X x := by rfl)
    (h1 : (x == ("__debug__" : Str)) = false := by decide) (h2 : starEach (e :: es) X.env = (false, eval e X.env) :: starEach es X.env := by rfl) (h3 : (backTo pos (starEach es X.env)).any (·.1) = false := by rfl) :
    PE X (.Call (.Name x p) (e :: es) [] pos) (tMake C sp [] E t) := by
  obtain ⟨f, fd, G, a1, a2, a3, _, b⟩ := F.ex
  exact pe_make ⟨c.ma, a1, a2, c.kp⟩ G (hr.mono hj) hg c.at_ b .nil hx ha h1 h2 h3
/-- o.m(e, ..), o.m() -/
theorem pe_mt (c : Kls X.K X.mg x C) (F : Own X.prog X.w X.K X.mg X.base CX k C m ps sp) (he : PE X o ta) (hr : Room j X.A) (hx : Passes CX X E) (ha : PA X (e :: es) t) (hj : k ≤ j := by first | decide | omega)
    {pl : Sem Bool} (hst : starEach (e :: es) X.env = (false, eval e X.env) :: starEach es X.env := by rfl) (hpl : (backTo pos (starEach es X.env)).any (·.1) = false := by rfl)
    (ht : eval (.Call (.Attribute o m apos) (e :: es) [] pos) X.env = (do
      let ov ← eval o X.env
      standAt apos.atName
      let (f, first) ← holding [ov] (getMethod ov m pl)
      callWith pos f first (backTo pos (starEach (e :: es) X.env)) (backToKw pos (keywordEach [] X.env))) := by rfl) :
    PE X (.Call (.Attribute o m apos) (e :: es) [] pos) (tMeth C m sp [] E ta t) := by
  obtain ⟨f, fd, G, a1, a2, a3, _, b⟩ := F.ex
  exact pe_meth he c.cl ⟨a1, a2, a3⟩ G (hr.mono hj) b .nil hx ha hst hpl ht
theorem pe_mt0 (c : Kls X.K X.mg x C) (F : Own X.prog X.w X.K X.mg X.base CX k C m ps sp) (he : PE X o ta) (hr : Room j X.A) (hx : Passes CX X E) (hj : k ≤ j := by first | decide | omega)
    {pl : Sem Bool} (ht : eval (.Call (.Attribute o m apos) [] [] pos) X.env = (do
      let ov ← eval o X.env
      standAt apos.atName
      let (f, first) ← holding [ov] (getMethod ov m pl)
      callWith pos f first (backTo pos (starEach [] X.env)) (backToKw pos (keywordEach [] X.env))) := by rfl) :
    PE X (.Call (.Attribute o m apos) [] [] pos) (tMeth C m sp [] E ta tNil) := by
  obtain ⟨f, fd, G, a1, a2, a3, _, b⟩ := F.ex
  exact pe_meth0 he c.cl ⟨a1, a2, a3⟩ G (hr.mono hj) b .nil hx ht
/-- o.f, a property -/
theorem pe_pr (c : Kls X.K X.mg x C) (F : Pro X.prog X.w X.K X.mg X.base CX k C m ps sp) (he : PE X o ta) (hr : Room j X.A) (hx : Passes CX X.nox E) (hj : k + 1 ≤ j := by first | decide | omega)
    (hab : attributeBase o m X.env (eval o X.env) = eval o X.env := by rfl) : PE X (.Attribute o m pos) (tProp C sp [] E ta) := by
  obtain ⟨q, f, fd, G, a1, b⟩ := F.ex
  exact pe_prop he c.cl a1 G (hr.mono hj) b .nil hx hab
/-- f(e, ..), f an instance of the class at C -/
def tCallI (C : Addr) (sp : Sp) (E : XK) (tf : TE) (t : TA) : TE := fun σ H Q => tf σ H fun y H1 => ∃ a, y = V.ref a ∧ t σ H1 fun vs H2 => (∃ dx fs, H2 a = some (.ins C dx fs)) ∧ sp (V.ref a :: vs) H2 Q E
theorem pe_in (F : Own X.prog X.w X.K X.mg X.base CX k C "__call__" ps sp) (hf : PE X fe tf) (hr : Room j X.A) (hx : Passes CX X E) (ha : PA X (e :: es) t) (hj : k ≤ j := by first | decide | omega)
    (ht : eval (.Call fe (e :: es) [] pos) X.env = (do callWith pos (← eval fe X.env) [] (backTo pos (starEach (e :: es) X.env)) (backToKw pos (keywordEach [] X.env))) := by rfl)
    (h2 : starEach (e :: es) X.env = (false, eval e X.env) :: starEach es X.env := by rfl) (h3 : (backTo pos (starEach es X.env)).any (·.1) = false := by rfl) : PE X (.Call fe (e :: es) [] pos) (tCallI C sp E tf t) := by
  obtain ⟨f, fd, G, a1, a2, a3, a4, b⟩ := F.ex
  constructor
  intro pins s σ H Q I h
  refine Call_ (thn (hf.run pins s σ H _ I h) ?_) ht
  rintro u s1 ⟨y, H1, I1, ry, a, rfl, q⟩
  obtain rfl : u = Value.ref a := ry
  refine StX.callO_with (thn (ha.run pos pins s1 σ H1 _ I1 q) ?_) h2 h3
  rintro us s2 ⟨vs, H2, I2, r, hi, q2⟩
  obtain ⟨ox, od, J, hd⟩ := StX.insC_at I2 (.inr hi)
  exact ⟨⟨C, ox, od, J, hd⟩, wpAny_call (PySem.W.kco_code I2.kIn J hd a1 a2 a4 (run_code (us := .ref a :: us) (vs := .ref a :: vs) G (hr.mono hj) b hx I2 (.cons rfl r) q2))⟩
/-- x op y, both instances of the class at C -/
def rOwnB (C : Addr) (sp : Sp) (E : XK) : R2 := fun x y H Q => ∃ a b dx fs dy gs, x = .ref a ∧ y = .ref b ∧ H a = some (.ins C dx fs) ∧ H b = some (.ins C dy gs) ∧ sp [x, y] H Q E
theorem op_ownB {op : Operator} (c : Kls X.K X.mg x C) (F : Own X.prog X.w X.K X.mg X.base CX k C (PySem.dunder op.info.2) ps sp) (hr : Room j X.A) (hx : Passes CX X E) (hj : k ≤ j := by first | decide | omega) : OpR X (binaryOp op) (rOwnB C sp E) := by
  obtain ⟨f, fd, G, a1, a2, a3, a4, bb⟩ := F.ex
  intro pins s σ H u v ov iv Q I ru rv h
  obtain ⟨a, b, dx, fs, dy, gs, rfl, rfl, ha, hb, q⟩ := h
  cases (show ov = Value.ref a from ru)
  cases (show iv = Value.ref b from rv)
  obtain ⟨_, O, _⟩ := ins_get I.hok ha
  obtain ⟨od, J, _⟩ := O.look
  obtain ⟨_, O', _⟩ := ins_get I.hok hb
  obtain ⟨od', J', _⟩ := O'.look
  obtain ⟨_, hF⟩ := I.fr
  refine PySem.W.binop_K (op := op) hF I.ok.mod.kin J J'.type c.sf a1 a2 ?_
  refine wpAny_mono (run_fn (us := [.ref a, .ref b]) (vs := [.ref a, .ref b]) G (hr.mono hj) bb .nil hx I (.cons rfl (.cons rfl .nil)) q) ?_ fun _ _ z => z
  rintro w s' ⟨z, H', I', rz, qz⟩
  exact SlX.cmpback rz ⟨z, H', I', rz, qz⟩
/-- o op= y, o an instance of the class at C -/
def ipOwn (C : Addr) (sp : Sp) (E : XK) : TIp := fun x y H Q => ∃ a dx fs, x = .ref a ∧ H a = some (.ins C dx fs) ∧ sp [x, y] H Q E
theorem ip_own {op : Operator} (c : Kls X.K X.mg x C) (F : Own X.prog X.w X.K X.mg X.base CX k C (dunderI op.info.2) ps sp) (hr : Room j X.A) (hx : Passes CX X E) (hj : k ≤ j := by first | decide | omega) : PIp X op (ipOwn C sp E) := by
  obtain ⟨f, fd, G, a1, a2, a3, a4, bb⟩ := F.ex
  intro pins s σ H u v ov iv Q I ru rv h
  obtain ⟨a, dx, fs, rfl, ha, q⟩ := h
  cases (show ov = Value.ref a from ru)
  obtain ⟨_, O, _⟩ := ins_get I.hok ha
  obtain ⟨od, J, _⟩ := O.look
  obtain ⟨_, hF⟩ := I.fr
  refine PySem.W.ksp_inplace (op := op) hF I.ok.mod.kin J c.sf a1 a2 ?_
  refine wpAny_mono (run_fn (us := [.ref a, iv]) (vs := [.ref a, v]) G (hr.mono hj) bb .nil hx I (.cons rfl (.cons rv .nil)) q) ?_ fun _ _ z => z
  rintro w s' ⟨z, H', I', rz, qz⟩
  exact SlX.cmpback rz ⟨z, H', I', rz, qz⟩
end
end Pk
set_option Elab.async false
set_option linter.all false
set_option maxRecDepth 100000
set_option maxHeartbeats 2000000
namespace Pk
open PySem PySem.Spec L2 PyProof.Rows
/-- where the package's classes stand -/
structure Cs where
  PipeError : Addr
  Wrong : Addr
  TooMany : Addr
  Overdrawn : Addr
  NotPassed : Addr
  Rule : Addr
  Account : Addr
  at_least : Addr := 0
  Twice : Addr := 0
  Unknown : Addr := 0
  Ring : Addr := 0
  BadGuide : Addr := 0
  Narrow : Addr := 0
  NoStep : Addr := 0
  Unready : Addr := 0
  NoCredit : Addr := 0
  Nothing : Addr := 0
  Broken : Addr := 0
  BadSlow : Addr := 0
  BadFrame : Addr := 0
  IsSlow : Addr := 0
  Unlike : Addr := 0
  NoDeed : Addr := 0
  Full : Addr := 0
  Refused : Addr := 0
  NoEntry : Addr := 0
  NoText : Addr := 0
  NoCommand : Addr := 0
  Plan : Addr := 0
  Machine : Addr := 0
  Sender : Addr := 0
  Reader : Addr := 0
  Standings : Addr := 0
  Layout : Addr := 0
  Book : Addr := 0
  Desk : Addr := 0
theorem iteT' {c : Bool} {A B : Prop} (e : c = true) (h : A) : if c = true then A else B := by
  rw [if_pos e]
  exact h
theorem iteF' {c : Bool} {A B : Prop} (e : c = false) (h : B) : if c = true then A else B := by
  rw [if_neg (by rw [e]; decide)]
  exact h
theorem vals_ints1 {i : Int} (t : Tok) : Vals [.int i] [.int i t] := .cons ⟨t, rfl⟩ .nil
/-! ### trees of rules -/
inductive Tr where
  | at (t q : Int)
  | or (a b : Tr)
  | and (a b : Tr)
namespace Tr
def lv : Tr → Nat
  | .at _ _ => 1
  | .or a b => lv a + lv b
  | .and a b => lv a + lv b
def dp : Tr → Nat
  | .at _ _ => 1
  | .or a b => max (dp a) (dp b) + 1
  | .and a b => max (dp a) (dp b) + 1
/-- nodes -/
def nd : Tr → Nat
  | .at _ _ => 1
  | .or a b => nd a + nd b + 1
  | .and a b => nd a + nd b + 1
def ok : Tr → Prop
  | .at t q => 1 ≤ t ∧ t ≤ 10 ^ 50 ∧ 1 ≤ q ∧ q ≤ 6
  | .or a b => ok a ∧ ok b
  | .and a b => ok a ∧ ok b
def give : Tr → Int → Int
  | .at t q, i => if t ≤ i then i - i % q else 0
  | .or a b, i => if give b i > give a i then give b i else give a i
  | .and a b, i => if give b i < give a i then give b i else give a i
def starts : Tr → List Int
  | .at t _ => [t]
  | .or a b => starts a ++ starts b
  | .and a b => starts a ++ starts b
def pd : Tr → PyData
  | .at t q => .tuple [.str "at", .int t, .int q]
  | .or a b => .tuple [.str "or", pd a, pd b]
  | .and a b => .tuple [.str "and", pd a, pd b]
theorem lv_pos : ∀ T : Tr, 1 ≤ lv T
  | .at _ _ => Nat.le_refl _
  | .or a b => Nat.le_trans (lv_pos a) (Nat.le_add_right _ _)
  | .and a b => Nat.le_trans (lv_pos a) (Nat.le_add_right _ _)
theorem dp_le : ∀ T : Tr, dp T ≤ lv T
  | .at _ _ => Nat.le_refl _
  | .or a b => by
    have h1 := dp_le a
    have h2 := dp_le b
    have h3 := lv_pos a
    have h4 := lv_pos b
    show max (dp a) (dp b) + 1 ≤ lv a + lv b
    omega
  | .and a b => by
    have h1 := dp_le a
    have h2 := dp_le b
    have h3 := lv_pos a
    have h4 := lv_pos b
    show max (dp a) (dp b) + 1 ≤ lv a + lv b
    omega
theorem dp_pos (T : Tr) : 1 ≤ dp T := by cases T <;> (unfold dp; omega)
theorem starts_len : ∀ T : Tr, (starts T).length = lv T
  | .at _ _ => rfl
  | .or a b => by show (starts a ++ starts b).length = _; rw [List.length_append, starts_len a, starts_len b]; rfl
  | .and a b => by show (starts a ++ starts b).length = _; rw [List.length_append, starts_len a, starts_len b]; rfl
/-- a tree as data: its depth, its text -/
theorem pd_depth : ∀ T : Tr, (pd T).depth ≤ dp T
  | .at t q => by show (PyData.tuple [.str "at", .int t, .int q]).depth ≤ 1; simp [PyData.depth, PyData.depthAll]
  | .or a b => by
    have h1 := pd_depth a
    have h2 := pd_depth b
    show (PyData.tuple [.str "or", pd a, pd b]).depth ≤ max (dp a) (dp b) + 1
    simp only [PyData.depth, PyData.depthAll]
    omega
  | .and a b => by
    have h1 := pd_depth a
    have h2 := pd_depth b
    show (PyData.tuple [.str "and", pd a, pd b]).depth ≤ max (dp a) (dp b) + 1
    simp only [PyData.depth, PyData.depthAll]
    omega
theorem pd_lay : ∀ T : Tr, (pd T).canLay0 = true
  | .at t q => by show (PyData.tuple [.str "at", .int t, .int q]).canLay0 = true; simp only [PyData.canLay0, PyData.canLayAll0]; decide +kernel
  | .or a b => by
    show (PyData.tuple [.str "or", pd a, pd b]).canLay0 = true
    simp only [PyData.canLay0, PyData.canLayAll0, pd_lay a, pd_lay b]; decide +kernel
  | .and a b => by
    show (PyData.tuple [.str "and", pd a, pd b]).canLay0 = true
    simp only [PyData.canLay0, PyData.canLayAll0, pd_lay a, pd_lay b]; decide +kernel
theorem log_ok {n : Int} (h0 : 0 ≤ n) (h1 : n ≤ 10 ^ 100) : n.natAbs.log2 < 1920 := by
  have h2 : n.natAbs < 2 ^ 1920 := by
    have z : n.natAbs ≤ 10 ^ 100 := by omega
    have z2 : (10 : Nat) ^ 100 < 2 ^ 1920 := by decide +kernel
    omega
  by_cases e : n.natAbs = 0
  · rw [e]; decide
  · exact (Nat.log2_lt e).mpr h2
theorem pd_show : ∀ T : Tr, ok T → (pd T).showable = true
  | .at t q, h => by
    obtain ⟨h1, h2, h3, h4⟩ := h
    show (PyData.tuple [.str "at", .int t, .int q]).showable = true
    have e1 : decide (t.natAbs.log2 < 1920) = true := decide_eq_true (log_ok (by omega) (by omega))
    have e2 : decide (q.natAbs.log2 < 1920) = true := decide_eq_true (log_ok (by omega) (by omega))
    simp only [PyData.showable, PyData.showableAll, e1, e2]; decide
  | .or a b, h => by
    show (PyData.tuple [.str "or", pd a, pd b]).showable = true
    simp only [PyData.showable, PyData.showableAll, pd_show a h.1, pd_show b h.2]; decide
  | .and a b, h => by
    show (PyData.tuple [.str "and", pd a, pd b]).showable = true
    simp only [PyData.showable, PyData.showableAll, pd_show a h.1, pd_show b h.2]; decide
theorem pd_siz : ∀ T : Tr, siz (pd T) + 100 ≤ 5000 * lv T
  | .at t q => by
    show siz (PyData.tuple [.str "at", .int t, .int q]) + 100 ≤ 5000 * 1
    have e : ((Str.ofString "at").length) = 2 := rfl
    simp only [siz, sizL]
    omega
  | .or a b => by
    have h1 := pd_siz a
    have h2 := pd_siz b
    have h3 := lv_pos a
    show siz (PyData.tuple [.str "or", pd a, pd b]) + 100 ≤ 5000 * (lv a + lv b)
    have e : ((Str.ofString "or").length) = 2 := rfl
    simp only [siz, sizL]
    omega
  | .and a b => by
    have h1 := pd_siz a
    have h2 := pd_siz b
    have h3 := lv_pos a
    show siz (PyData.tuple [.str "and", pd a, pd b]) + 100 ≤ 5000 * (lv a + lv b)
    have e : ((Str.ofString "and").length) = 3 := rfl
    simp only [siz, sizL]
    omega
end Tr
/-! ### trees in the heap -/
def TrAt (K : PySem.W.Frag) (H : Hp) : V → Tr → Prop
  | v, .at t q => ∃ a, v = .ref a ∧ SqT K H a [.str "at", .int t, .int q]
  | v, .or x y => ∃ a u w, v = .ref a ∧ SqT K H a [.str "or", u, w] ∧ TrAt K H u x ∧ TrAt K H w y
  | v, .and x y => ∃ a u w, v = .ref a ∧ SqT K H a [.str "and", u, w] ∧ TrAt K H u x ∧ TrAt K H w y
/-- tuples stay -/
def Tups (K : PySem.W.Frag) (H H' : Hp) : Prop := ∀ a xs, SqT K H a xs → SqT K H' a xs
section
variable {K : PySem.W.Frag} {H H' : Hp} {v : V} {T : Tr}
theorem TrAt.mono (s : Tups K H H') : ∀ {T : Tr} {v : V}, TrAt K H v T → TrAt K H' v T
  | .at t q, _, ⟨a, e, h⟩ => ⟨a, e, s _ _ h⟩
  | .or x y, _, ⟨a, u, w, e, h, h1, h2⟩ => ⟨a, u, w, e, s _ _ h, TrAt.mono s h1, TrAt.mono s h2⟩
  | .and x y, _, ⟨a, u, w, e, h, h1, h2⟩ => ⟨a, u, w, e, s _ _ h, TrAt.mono s h1, TrAt.mono s h2⟩
theorem Tups.same (s : Same H H') : Tups K H H' := fun a xs h => by
  rcases h with (h | ⟨o, h⟩) | h
  · exact .inl (.inl (s _ _ h))
  · exact .inl (.inr ⟨o, s _ _ h⟩)
  · exact .inr h
theorem Tups.kp {b : Addr} {ys : List V} (k : Kp b H H') (hb : H b = some (.lst ys)) : Tups K H H' := fun a xs h => k.tup hb h
theorem Tups.trans {H2 : Hp} (a : Tups K H H') (b : Tups K H' H2) : Tups K H H2 := fun x xs h => b x xs (a x xs h)
/-- an object that is no tuple is written -/
theorem Tups.put {p : Addr} {o u : HO} (h : H p = some u) (nt : ∀ xs, u ≠ .tup xs) (nf : ∀ ob xs, u ≠ .frz ob (.tup xs)) : Tups K H (upd H p o) := fun a xs q => by
  rcases q with (q | ⟨ob, q⟩) | q
  · exact .inl (.inl (by rw [upd_ne (ne_of q h fun e => nt _ e.symm)]; exact q))
  · exact .inl (.inr ⟨ob, by rw [upd_ne (ne_of q h fun e => nf _ _ e.symm)]; exact q⟩)
  · exact .inr q
theorem TrAt.ref (h : TrAt K H v T) : ∃ a, v = .ref a := by
  cases T with
  | «at» t q => obtain ⟨a, e, _⟩ := h; exact ⟨a, e⟩
  | or x y => obtain ⟨a, _, _, e, _⟩ := h; exact ⟨a, e⟩
  | and x y => obtain ⟨a, _, _, e, _⟩ := h; exact ⟨a, e⟩
theorem TrAt.dp : ∀ {T : Tr} {v : V}, TrAt K H v T → Dp K H v T.pd
  | .at t q, _, ⟨a, e, h⟩ => by subst e; exact .tup h (.cons (.str _) (.cons (.int _) (.cons (.int _) .nil)))
  | .or x y, _, ⟨a, u, w, e, h, h1, h2⟩ => by subst e; exact .tup h (.cons (.str _) (.cons (TrAt.dp h1) (.cons (TrAt.dp h2) .nil)))
  | .and x y, _, ⟨a, u, w, e, h, h1, h2⟩ => by subst e; exact .tup h (.cons (.str _) (.cons (TrAt.dp h1) (.cons (TrAt.dp h2) .nil)))
/-- what a tree's tuple is -/
theorem TrAt.tuple (h : TrAt K H v T) : ∃ a w x y, v = .ref a ∧ SqT K H a [.str w, x, y] ∧
    ((w = "at" ∧ ∃ t q, T = .at t q ∧ x = .int t ∧ y = .int q) ∨ (w = "or" ∧ ∃ A B, T = .or A B ∧ TrAt K H x A ∧ TrAt K H y B) ∨ (w = "and" ∧ ∃ A B, T = .and A B ∧ TrAt K H x A ∧ TrAt K H y B)) := by
  cases T with
  | «at» t q => obtain ⟨a, e, s⟩ := h; exact ⟨a, _, _, _, e, s, .inl ⟨rfl, t, q, rfl, rfl, rfl⟩⟩
  | or x y => obtain ⟨a, u, w, e, s, h1, h2⟩ := h; exact ⟨a, _, _, _, e, s, .inr (.inl ⟨rfl, x, y, rfl, h1, h2⟩)⟩
  | and x y => obtain ⟨a, u, w, e, s, h1, h2⟩ := h; exact ⟨a, _, _, _, e, s, .inr (.inr ⟨rfl, x, y, rfl, h1, h2⟩)⟩
end
end Pk
set_option Elab.async false
set_option linter.all false
set_option maxRecDepth 100000
set_option maxHeartbeats 2000000
namespace Pk
open PySem PySem.Spec L2 PyProof.Rows
section
variable {K : PySem.W.Frag} {C : Cs} {vs : List V} {H H' : Hp} {Q : VK} {E : XK} {n : Nat}
/-! ### numbers -/
def sp_is_integer (K : PySem.W.Frag) : Sp := fun vs H Q _ => ∃ i, vs = [.int i] ∧ Q (.bl true) H
def t_is_integer (K : PySem.W.Frag) : TS :=
  (tRet (tAndV (tCB (rIsi K) (tCons (tVar 0) (tCons (tC (.ty "int")) tNil))) (tNotV (tCB (rIsi K) (tCons (tVar 0) (tCons (tC (.ty "bool")) tNil))))))
theorem ln_is_integer (h : sp_is_integer K vs H Q E) : vs.length = 1 := by obtain ⟨_, rfl, _⟩ := h; rfl
theorem kit_ii {K : PySem.W.Frag} : PySem.W.kitOne K (.type "int") (.type "int") = some true := kit_ty (by decide +kernel)
theorem kit_ib {K : PySem.W.Frag} : PySem.W.kitOne K (.type "int") (.type "bool") = some false := kit_ty (by decide +kernel)
theorem kit_tt {K : PySem.W.Frag} : PySem.W.kitOne K (.type "tuple") (.type "tuple") = some true := kit_ty (by decide +kernel)
theorem kit_ss {K : PySem.W.Frag} : PySem.W.kitOne K (.type "str") (.type "str") = some true := kit_ty (by decide +kernel)
theorem rd_is_integer (h : sp_is_integer K vs H Q E) : t_is_integer K (EndsOf Q) (start [""] vs) H := by
  obtain ⟨i, rfl, k⟩ := h
  refine ⟨_, rfl, _, _, _, _, true, rfl, .ty _, .base (.int i), kit_ii, true, rfl, ?_⟩
  exact ⟨_, rfl, _, _, _, _, false, rfl, .ty _, .base (.int i), kit_ib, false, rfl, k⟩
def sp_is_number (K : PySem.W.Frag) : Sp := fun vs H Q _ => ∃ l i, vs = [.int l, .int i] ∧ Q (.bl (decide (l ≤ i))) H
def t_is_number (K : PySem.W.Frag) : TS :=
  (tRet (tAndV (tCall (sp_is_integer K) [] E0 (tCons (tVar 1) tNil)) (tOp (rGeI) (tVar 1) (tVar 0))))
theorem ln_is_number (h : sp_is_number K vs H Q E) : vs.length = 2 := by obtain ⟨_, _, rfl, _⟩ := h; rfl
theorem rd_is_number (h : sp_is_number K vs H Q E) : t_is_number K (EndsOf Q) (start ["", ""] vs) H := by
  obtain ⟨l, i, rfl, k⟩ := h
  exact ⟨_, rfl, i, rfl, true, rfl, _, rfl, _, rfl, _, _, rfl, rfl, k⟩
def sp_is_by (K : PySem.W.Frag) : Sp := fun vs H Q _ => ∃ i, vs = [.int i] ∧ Q (.bl (decide (1 ≤ i) && decide (i ≤ 6))) H
def t_is_by (K : PySem.W.Frag) : TS :=
  (tRet (tAndV (tCall (sp_is_number K) [] E0 (tCons (tC (.int 1)) (tCons (tVar 0) tNil))) (tOp (rLeU) (tVar 0) (tC (.int 6)))))
theorem ln_is_by (h : sp_is_by K vs H Q E) : vs.length = 1 := by obtain ⟨_, rfl, _⟩ := h; rfl
theorem rd_is_by (h : sp_is_by K vs H Q E) : t_is_by K (EndsOf Q) (start [""] vs) H := by
  obtain ⟨i, rfl, k⟩ := h
  refine ⟨_, rfl, 1, i, rfl, _, rfl, ?_⟩
  cases hb : decide ((1 : Int) ≤ i) with
  | false => rw [hb] at k; exact k
  | true => rw [hb] at k; exact ⟨_, rfl, .inl ⟨_, _, rfl, rfl, k⟩⟩
/-! ### trees -/
def Tr.word : Tr → Str
  | .at _ _ => "at"
  | .or _ _ => "or"
  | .and _ _ => "and"
def Tr.isAt : Tr → Bool
  | .at _ _ => true
  | _ => false
def sp_has_word (K : PySem.W.Frag) : Sp := fun vs H Q _ => ∃ (v : V) (T : Tr) (p : Addr) (ws : List Str), vs = [v, .ref p] ∧ TrAt K H v T ∧ SqT K H p (ws.map V.str) ∧ Q (.bl (inV (.str T.word) (ws.map V.str))) H
def t_has_word (K : PySem.W.Frag) : TS :=
  (tSeq (tIfS (tOr (tNot (tB (tCB (rIsi K) (tCons (tVar 0) (tCons (tC (.ty "tuple")) tNil))))) (tTest (tOp (rNeU K) (tCB (rLenU K) (tCons (tVar 0) tNil)) (tC (.int 3))))) (tRet (tC (.bl false))) tNext)
    (tRet (tAndV (tCB (rIsi K) (tCons (tOp (rIx K) (tVar 0) (tC (.int 0))) (tCons (tC (.ty "str")) tNil))) (tOp (rInU K) (tOp (rIx K) (tVar 0) (tC (.int 0))) (tVar 1)))))
theorem ln_has_word (h : sp_has_word K vs H Q E) : vs.length = 2 := by obtain ⟨_, _, _, _, rfl, _⟩ := h; rfl
theorem flat_strs (ws : List Str) : (ws.map V.str).all flatV = true := by
  induction ws with
  | nil => rfl
  | cons x r ih => exact ih
theorem sqt_ty {a : Addr} {xs : List V} (h : SqT K H a xs) : TyX K H (.ref a) (.type "tuple") := by
  rcases h with (h | ⟨o, h⟩) | ⟨o, its, n, h, c, _⟩
  · exact .base (.tup h)
  · exact .fTuple h
  · exact .kTuple h c
theorem rd_has_word (h : sp_has_word K vs H Q E) : t_has_word K (EndsOf Q) (start ["", ""] vs) H := by
  obtain ⟨v, T, p, ws, rfl, hT, hp, k⟩ := h
  obtain ⟨a, w, x, y, rfl, s, cw⟩ := hT.tuple
  have ew : w = T.word := by
    rcases cw with ⟨rfl, _, _, rfl, _⟩ | ⟨rfl, _, _, rfl, _⟩ | ⟨rfl, _, _, rfl, _⟩ <;> rfl
  subst ew
  refine ⟨_, rfl, _, _, _, _, true, rfl, .ty _, sqt_ty s, kit_tt, true, rfl, ?_⟩
  refine ⟨_, rfl, .inl ⟨_, 3, rfl, .inr ⟨_, s, rfl⟩, .inl ⟨rfl, _, rfl, ?_⟩⟩⟩
  refine ⟨_, rfl, .inr (.inl ⟨a, _, 0, _, rfl, rfl, s, rfl, ?_⟩)⟩
  refine ⟨_, _, _, _, true, rfl, .ty _, .base (.str _), kit_ss, true, rfl, ?_⟩
  refine ⟨_, rfl, .inr (.inl ⟨a, _, 0, _, rfl, rfl, s, rfl, ?_⟩)⟩
  exact ⟨_, rfl, .inl ⟨p, _, rfl, .inr hp, rfl, flat_strs ws, k⟩⟩
def sp_is_leaf (K : PySem.W.Frag) : Sp := fun vs H Q _ => ∃ v T, vs = [v] ∧ TrAt K H v T ∧ T.ok ∧ ∀ H', Same H H' → Q (.bl T.isAt) H'
def t_is_leaf (K : PySem.W.Frag) : TS :=
  (tRet (tAndV (tCall (sp_has_word K) [] E0 (tCons (tVar 0) (tCons (tTup (tCons (tC (.str "at")) tNil)) tNil))) (tAndV (tCall (sp_is_number K) [] E0 (tCons (tC (.int 1)) (tCons (tOp (rIx K) (tVar 0) (tC (.int 1))) tNil))) (tCall (sp_is_by K) [] E0 (tCons (tOp (rIx K) (tVar 0) (tC (.int 2))) tNil)))))
theorem ln_is_leaf (h : sp_is_leaf K vs H Q E) : vs.length = 1 := by obtain ⟨_, _, rfl, _⟩ := h; rfl
theorem two_fit : (1 : Nat) ≤ sizeLine ∧ (2 : Nat) ≤ sizeLine ∧ (3 : Nat) ≤ sizeLine ∧ (4 : Nat) ≤ sizeLine := by decide
theorem rd_is_leaf (h : sp_is_leaf K vs H Q E) : t_is_leaf K (EndsOf Q) (start [""] vs) H := by
  obtain ⟨v, T, rfl, hT, ok, k⟩ := h
  refine ⟨_, rfl, two_fit.1, fun p hp => ?_⟩
  have s := same_new (o := .tup [.str "at"]) hp
  have hT' := hT.mono (Tups.same s)
  refine ⟨v, T, p, ["at"], rfl, hT', SqT.of upd_same, _, rfl, ?_⟩
  obtain ⟨a, w, x, y, rfl, sq, cw⟩ := hT'.tuple
  rcases cw with ⟨rfl, t, q, rfl, rfl, rfl⟩ | ⟨rfl, A, B, rfl, _⟩ | ⟨rfl, A, B, rfl, _⟩
  · obtain ⟨o1, o2, o3, o4⟩ := ok
    refine iteT' (show inV (V.str "at") [V.str "at"] = true by decide +kernel) ?_
    refine ⟨_, rfl, .inr (.inl ⟨a, _, 1, _, rfl, rfl, sq, rfl, 1, t, rfl, _, rfl, ?_⟩)⟩
    rw [decide_eq_true o1]
    refine iteT' rfl ?_
    refine ⟨_, rfl, .inr (.inl ⟨a, _, 2, _, rfl, rfl, sq, rfl, q, rfl, ?_⟩)⟩
    rw [decide_eq_true o3, decide_eq_true o4]
    exact k _ s
  · refine iteF' (show inV (V.str "or") [V.str "at"] = false by decide +kernel) ?_
    exact k _ s
  · refine iteF' (show inV (V.str "and") [V.str "at"] = false by decide +kernel) ?_
    exact k _ s
/-! the stack of is_tree: values and trees -/
abbrev Ps := List (V × Tr)
def Ps.lvs (zs : Ps) : Nat := (zs.map fun z => z.2.lv).sum
def Ps.nds (zs : Ps) : Nat := (zs.map fun z => z.2.nd).sum
def Ps.At (K : PySem.W.Frag) (H : Hp) (zs : Ps) : Prop := ∀ z ∈ zs, TrAt K H z.1 z.2 ∧ z.2.ok
theorem Ps.At.mono {zs : Ps} (h : Ps.At K H zs) (s : Tups K H H') : Ps.At K H' zs := fun z hz => ⟨(h z hz).1.mono s, (h z hz).2⟩
theorem Ps.lvs_app (a b : Ps) : Ps.lvs (a ++ b) = Ps.lvs a + Ps.lvs b := by unfold Ps.lvs; rw [List.map_append, List.sum_append]
theorem Ps.nds_app (a b : Ps) : Ps.nds (a ++ b) = Ps.nds a + Ps.nds b := by unfold Ps.nds; rw [List.map_append, List.sum_append]
theorem Ps.len_le : ∀ zs : Ps, zs.length ≤ Ps.lvs zs
  | [] => Nat.le_refl _
  | z :: r => by
    have h1 := Ps.len_le r
    have h2 := z.2.lv_pos
    show r.length + 1 ≤ (z.2.lv :: (r.map fun z => z.2.lv)).sum
    rw [List.sum_cons]
    unfold Ps.lvs at h1
    omega
theorem nil_or_last {α : Type} (l : List α) : l = [] ∨ ∃ r x, l = r ++ [x] := by
  cases h : l.reverse with
  | nil => left; exact List.reverse_eq_nil_iff.mp h
  | cons x r => right; exact ⟨r.reverse, x, by rw [← List.reverse_cons, ← h, List.reverse_reverse]⟩
def sp_is_tree (K : PySem.W.Frag) : Sp := fun vs H Q _ => ∃ v T, vs = [v] ∧ TrAt K H v T ∧ T.ok ∧ T.lv ≤ 6 ∧ ∀ H', Same H H' → Q (.bl true) H'
def t_is_tree (K : PySem.W.Frag) : TS :=
  (tSeq (tAsg (tLst (tCons (tVar 0) tNil)) (gName 1))
    (tSeq (tAsg (tC (.int 0)) (gName 2))
    (tSeq (tWhile (tTest (tOp (rGtI) (tCB (rLenU K) (tCons (tVar 1) tNil)) (tC (.int 0)))) (tSeq (tAsg (tBM0 K "list" rPop (tVar 1)) (gName 3))
    (Evl.tCut (tIfS (tB (tCall (sp_is_leaf K) [] E0 (tCons (tVar 3) tNil))) (tAsg (tOp (rAddU K) (tVar 2) (tC (.int 1))) (gName 2)) (tIfS (tB (tCall (sp_has_word K) [] E0 (tCons (tVar 3) (tCons (tTup (tCons (tC (.str "or")) (tCons (tC (.str "and")) tNil))) tNil)))) (tSeq (tDrop (tBM K "list" rAppend (tVar 1) (tCons (tOp (rIx K) (tVar 3) (tC (.int 1))) tNil)))
    (tDrop (tBM K "list" rAppend (tVar 1) (tCons (tOp (rIx K) (tVar 3) (tC (.int 2))) tNil)))) (tRet (tC (.bl false)))))
    (tIfS (tTest (tOp (rGtI) (tOp (rAddU K) (tVar 2) (tCB (rLenU K) (tCons (tVar 1) tNil))) (tC (.int 6)))) (tRet (tC (.bl false))) tNext))))
    (tRet (tC (.bl true))))))
theorem ln_is_tree (h : sp_is_tree K vs H Q E) : vs.length = 1 := by obtain ⟨_, _, rfl, _⟩ := h; rfl
theorem rd_is_tree (h : sp_is_tree K vs H Q E) : t_is_tree K (EndsOf Q) (start ["", "", "", ""] vs) H := by
  obtain ⟨v, T, rfl, hT, ok, l6, k⟩ := h
  refine ⟨_, rfl, two_fit.1, fun w hw => ?_⟩
  have s0 := same_new (o := .lst [v]) hw
  refine ⟨fun m σ' H' => ∃ (zs : Ps) (lf : Nat) (pt : Option V), σ' = [some v, some (.ref w), some (.int lf), pt] ∧ H' w = some (.lst (zs.map (·.1))) ∧ Ps.At K H' zs ∧ lf + zs.lvs = T.lv ∧ Same H H' ∧ m = zs.nds,
    ⟨_, [(v, T)], 0, none, rfl, upd_same, fun z hz => ?_, ?_, s0, rfl⟩, ?_⟩
  · rw [List.mem_singleton.mp hz]
    exact ⟨hT.mono (Tups.same s0), ok⟩
  · show 0 + (T.lv + 0) = T.lv
    omega
  rintro m σ' H' ⟨zs, lf, pt, rfl, hwl, hz, hl, s, rfl⟩
  refine ⟨_, rfl, .inl ⟨_, _, rfl, .inl ⟨_, SqL.of hwl, rfl⟩, _, _, rfl, rfl, _, rfl, ?_⟩⟩
  rw [List.length_map]
  rcases nil_or_last zs with rfl | ⟨rs, ⟨u, S⟩, rfl⟩
  · refine iteF' (by decide) ?_
    exact k H' s
  refine iteT' (decide_eq_true (by rw [List.length_append, List.length_singleton]; omega)) ?_
  obtain ⟨hu, hok⟩ := hz (u, S) (List.mem_append_right _ (List.mem_singleton.mpr rfl))
  have hu : TrAt K H' u S := hu
  have hok : S.ok := hok
  have e1 : (rs ++ [(u, S)]).map (·.1) = rs.map (·.1) ++ [u] := by rw [List.map_append]; rfl
  rw [e1] at hwl
  refine ⟨fun σ2 H2 => ∃ (zs : Ps) (lf : Nat) (pt : Option V), σ2 = [some v, some (.ref w), some (.int lf), pt] ∧ H2 w = some (.lst (zs.map (·.1))) ∧ Ps.At K H2 zs ∧ lf + zs.lvs = T.lv ∧ Same H H2 ∧ zs.nds < Ps.nds (rs ++ [(u, S)]), fun σ2 H2 ⟨zs, lf, pt, a1, a2, a3, a4, a5, a6⟩ => ⟨_, a6, zs, lf, pt, a1, a2, a3, a4, a5, rfl⟩, ?_⟩
  -- part = waiting.pop()
  refine ⟨_, rfl, .inl ⟨rfl, _, SqL.of hwl⟩, w, _, u, rfl, rfl, hwl, ?_, ?_⟩
  · rw [List.length_append, List.length_singleton, Nat.add_sub_cancel, List.getElem?_append_right (Nat.le_refl _), Nat.sub_self]
    rfl
  rw [List.dropLast_concat]
  have tp : Tups K H' (upd H' w (.lst (rs.map (·.1)))) := Tups.put hwl (fun _ z => nomatch z) fun _ _ z => nomatch z
  have s1 : Same H (upd H' w (.lst (rs.map (·.1)))) := fun b o e => by rw [upd_ne (ne_of_none e hw)]; exact s b o e
  have hrs : Ps.At K (upd H' w (.lst (rs.map (·.1)))) rs := fun z q => ⟨(hz z (List.mem_append_left _ q)).1.mono tp, (hz z (List.mem_append_left _ q)).2⟩
  have hu1 := hu.mono tp
  have hw1 : (upd H' w (.lst (rs.map (·.1)))) w = some (.lst (rs.map (·.1))) := upd_same
  rw [Ps.lvs_app] at hl
  have hS : Ps.lvs [(u, S)] = S.lv := by show S.lv + 0 = S.lv; omega
  have hN : Ps.nds [(u, S)] = S.nd := by show S.nd + 0 = S.nd; omega
  rw [hS] at hl
  rw [Ps.nds_app, hN]
  generalize upd H' w (.lst (rs.map (·.1))) = G at s1 hrs hu1 hw1 ⊢
  -- is it a leaf, is it two trees
  refine ⟨fun σ2 H2 => ∃ (zs : Ps) (lf : Nat), σ2 = [some v, some (.ref w), some (.int lf), some u] ∧ H2 w = some (.lst (zs.map (·.1))) ∧ Ps.At K H2 zs ∧ lf + zs.lvs = T.lv ∧ Same H H2 ∧ Ps.nds zs < Ps.nds rs + S.nd, ?_, ?_⟩
  · refine ⟨_, rfl, u, S, rfl, hu1, hok, fun G1 g1 => ⟨_, rfl, ?_⟩⟩
    have hu2 := hu1.mono (Tups.same g1)
    obtain ⟨a, wd, x, y, rfl, sq, cw⟩ := hu2.tuple
    rcases cw with ⟨rfl, t, q, rfl, rfl, rfl⟩ | cw
    · refine iteT' rfl ?_
      refine ⟨_, rfl, .inl ⟨_, _, rfl, rfl, ?_⟩⟩
      exact ⟨rs, lf + 1, rfl, g1 _ _ hw1, hrs.mono (Tups.same g1), by have h1 : (Tr.at t q).lv = 1 := rfl; omega, s1.trans g1, by have h1 : (Tr.at t q).nd = 1 := rfl; omega⟩
    obtain ⟨A, B, hAB, hA, hB, oA, oB, eL, eN, hin⟩ : ∃ A B, S.isAt = false ∧ TrAt K G1 x A ∧ TrAt K G1 y B ∧ A.ok ∧ B.ok ∧ S.lv = A.lv + B.lv ∧ S.nd = A.nd + B.nd + 1 ∧ inV (.str S.word) (([("or" : Str), ("and" : Str)] : List Str).map V.str) = true := by
      rcases cw with ⟨rfl, A, B, rfl, hA, hB⟩ | ⟨rfl, A, B, rfl, hA, hB⟩
      · exact ⟨A, B, rfl, hA, hB, hok.1, hok.2, rfl, rfl, show inV (V.str "or") [V.str "or", V.str "and"] = true by decide +kernel⟩
      · exact ⟨A, B, rfl, hA, hB, hok.1, hok.2, rfl, rfl, show inV (V.str "and") [V.str "or", V.str "and"] = true by decide +kernel⟩
    refine iteF' hAB ?_
    refine ⟨_, rfl, two_fit.2.1, fun p hp => ?_⟩
    have g2 := same_new (o := .tup [.str "or", .str "and"]) hp
    refine ⟨_, S, p, ["or", "and"], rfl, hu2.mono (Tups.same g2), SqT.of upd_same, _, rfl, ?_⟩
    refine iteT' hin ?_
    have hw2 := g2 _ _ (g1 _ _ hw1)
    have sq2 := (Tups.same (K := K) g2) _ _ sq
    have hr2 := (hrs.mono (Tups.same g1)).mono (Tups.same g2)
    have hA2 := hA.mono (Tups.same g2)
    have hB2 := hB.mono (Tups.same g2)
    have s2 := s1.trans (g1.trans g2)
    generalize upd G1 p (.tup [.str "or", .str "and"]) = G2 at hw2 sq2 hr2 hA2 hB2 s2 ⊢
    have nw : H w = none := hw
    have lr : (rs.map (·.1)).length ≤ 6 := by
      rw [List.length_map]
      have z := Ps.len_le rs
      omega
    refine ⟨_, rfl, .inl ⟨rfl, _, SqL.of hw2⟩, _, rfl, .inr (.inl ⟨a, _, 1, _, rfl, rfl, sq2, rfl, ?_⟩)⟩
    refine ⟨w, _, x, rfl, rfl, hw2, small1000 (by omega), ?_⟩
    have t3 : Tups K G2 (upd G2 w (.lst (rs.map (·.1) ++ [x]))) := Tups.put hw2 (fun _ z => nomatch z) fun _ _ z => nomatch z
    refine ⟨_, rfl, .inl ⟨rfl, _, SqL.of upd_same⟩, _, rfl, .inr (.inl ⟨a, _, 2, _, rfl, rfl, t3 _ _ sq2, rfl, ?_⟩)⟩
    refine ⟨w, _, y, rfl, rfl, upd_same, small1000 (by rw [List.length_append, List.length_singleton]; omega), ?_⟩
    rw [upd_upd]
    have t4 : Tups K G2 (upd G2 w (.lst (rs.map (·.1) ++ [x] ++ [y]))) := Tups.put hw2 (fun _ z => nomatch z) fun _ _ z => nomatch z
    refine ⟨rs ++ [(x, A), (y, B)], lf, rfl, ?_, fun z q => ?_, ?_, fun b o e => ?_, ?_⟩
    · rw [upd_same, List.map_append, List.append_assoc]
      rfl
    · rcases List.mem_append.mp q with q | q
      · exact ⟨(hr2 z q).1.mono t4, (hr2 z q).2⟩
      · rcases List.mem_cons.mp q with rfl | q
        · exact ⟨hA2.mono t4, oA⟩
        · rw [List.mem_singleton.mp q]
          exact ⟨hB2.mono t4, oB⟩
    · rw [Ps.lvs_app]
      have h1 : Ps.lvs [(x, A), (y, B)] = A.lv + B.lv := by show A.lv + (B.lv + 0) = _; omega
      omega
    · rw [upd_ne (ne_of_none e hw)]
      exact s2 b o e
    · rw [Ps.nds_app]
      have h1 : Ps.nds [(x, A), (y, B)] = A.nd + B.nd := by show A.nd + (B.nd + 0) = _; omega
      omega
  rintro σ2 H2 ⟨zs2, lf2, rfl, b2, b3, b4, b5, b6⟩
  -- not too many
  refine ⟨_, rfl, _, rfl, .inl ⟨_, _, rfl, .inl ⟨_, SqL.of b2, rfl⟩, .inl ⟨_, _, rfl, rfl, _, _, rfl, rfl, _, rfl, ?_⟩⟩⟩
  have z := Ps.len_le zs2
  refine iteF' (decide_eq_false (by rw [List.length_map]; omega)) ?_
  exact ⟨zs2, lf2, _, rfl, b2, b3, b4, b5, b6⟩
end
end Pk
set_option Elab.async false
set_option linter.all false
set_option maxRecDepth 100000
set_option maxHeartbeats 2000000
namespace Pk
open PySem PySem.Spec L2 PyProof.Rows
section
variable {K : PySem.W.Frag} {C : Cs} {vs : List V} {H H' : Hp} {Q : VK} {E : XK} {n : Nat}
theorem g3 {i j l : Nat} {a : Addr} {σ : L2.St} {R : L2.St → Hp → Prop} {x y z : V} (s : SqT K H a [x, y, z]) (h : R (((σ.set i (some x)).set j (some y)).set l (some z)) H) :
    gTup K 3 (gCons (gName i) (gCons (gName j) (gCons (gName l) gNil))) (.ref a) σ H R := ⟨a, _, rfl, s, rfl, _, _, rfl, _, _, rfl, _, _, rfl, rfl, h⟩
theorem ifS {x y : Str} {A B : Prop} (h1 : x = y → A) (h2 : x ≠ y → B) : if decide (V.str x = V.str y) = true then A else B := by
  by_cases h : x = y
  · rw [if_pos (decide_eq_true (congrArg V.str h))]
    exact h1 h
  · rw [if_neg]
    · exact h2 h
    · intro z
      exact h (V.str.inj (of_decide_eq_true z))
theorem or_at : ("or" : Str) ≠ "at" := by decide +kernel
theorem and_at : ("and" : Str) ≠ "at" := by decide +kernel
theorem and_or : ("and" : Str) ≠ "or" := by decide +kernel
def sp_given (K : PySem.W.Frag) (n : Nat) : Sp := fun vs H Q _ => ∃ v T i, vs = [v, .int i] ∧ TrAt K H v T ∧ T.ok ∧ T.dp ≤ n ∧ Q (.int (T.give i)) H
def t_given (K : PySem.W.Frag) (n : Nat) : TS :=
  (tSeq (tAsg (tVar 0) (gTup K 3 (gCons (gName 2) (gCons (gName 3) (gCons (gName 4) gNil)))))
    (tSeq (tIfS (tTest (tOp (rEqU K) (tVar 2) (tC (.str "at")))) (tRet (tIf (tTest (tOp (rGeI) (tVar 1) (tVar 3))) (tOp (rSubI) (tVar 1) (tOp (rModI) (tVar 1) (tVar 4))) (tC (.int 0)))) tNext)
    (tSeq (tIfS (tTest (tOp (rEqU K) (tVar 2) (tC (.str "or")))) (tRet (tCB (rMax2) (tCons (tCall (sp_given K n) [] E0 (tCons (tVar 3) (tCons (tVar 1) tNil))) (tCons (tCall (sp_given K n) [] E0 (tCons (tVar 4) (tCons (tVar 1) tNil))) tNil)))) tNext)
    (tRet (tCB (rMin2) (tCons (tCall (sp_given K n) [] E0 (tCons (tVar 3) (tCons (tVar 1) tNil))) (tCons (tCall (sp_given K n) [] E0 (tCons (tVar 4) (tCons (tVar 1) tNil))) tNil)))))))
theorem no_given (h : sp_given K 0 vs H Q E) : False := by
  obtain ⟨_, T, _, _, _, _, h, _⟩ := h
  have := T.dp_pos
  omega
theorem ln_given (h : sp_given K n vs H Q E) : vs.length = 2 := by obtain ⟨_, _, _, rfl, _⟩ := h; rfl
theorem rd_given (h : sp_given K (n + 1) vs H Q E) : t_given K n (EndsOf Q) (start ["", "", "", "", ""] vs) H := by
  obtain ⟨v, T, i, rfl, hT, ok, hd, k⟩ := h
  obtain ⟨a, w, x, y, rfl, s, cw⟩ := hT.tuple
  refine ⟨_, rfl, g3 s ?_⟩
  refine ⟨_, rfl, .inl ⟨rfl, _, rfl, ?_⟩⟩
  rcases cw with ⟨rfl, t, q, rfl, rfl, rfl⟩ | ⟨rfl, A, B, rfl, hA, hB⟩ | ⟨rfl, A, B, rfl, hA, hB⟩
  · refine ifS (fun _ => ?_) (fun z => absurd rfl z)
    obtain ⟨o1, o2, o3, o4⟩ := ok
    have e : (Tr.at t q).give i = if t ≤ i then i - i % q else 0 := rfl
    rw [e] at k
    refine ⟨_, rfl, _, rfl, _, _, rfl, rfl, _, rfl, ?_⟩
    refine ifD (fun c => ?_) (fun c => ?_)
    · rw [if_pos c] at k
      exact ⟨_, rfl, _, rfl, _, rfl, _, _, rfl, rfl, (by show (0 : Int) < q; omega), _, _, rfl, rfl, k⟩
    · rw [if_neg c] at k
      exact k
  · refine ifS (fun z => absurd z or_at) (fun _ => ?_)
    refine ⟨_, rfl, .inl ⟨rfl, _, rfl, ?_⟩⟩
    refine ifS (fun _ => ?_) (fun z => absurd rfl z)
    have hd' : max A.dp B.dp + 1 ≤ n + 1 := hd
    exact ⟨_, rfl, _, rfl, x, A, i, rfl, hA, ok.1, by omega, _, rfl, _, rfl, y, B, i, rfl, hB, ok.2, by omega, _, _, rfl, k⟩
  · refine ifS (fun z => absurd z and_at) (fun _ => ?_)
    refine ⟨_, rfl, .inl ⟨rfl, _, rfl, ?_⟩⟩
    refine ifS (fun z => absurd z and_or) (fun _ => ?_)
    have hd' : max A.dp B.dp + 1 ≤ n + 1 := hd
    exact ⟨_, rfl, _, rfl, x, A, i, rfl, hA, ok.1, by omega, _, rfl, _, rfl, y, B, i, rfl, hB, ok.2, by omega, _, _, rfl, k⟩
/-- the leaves of a tree: from where on, multiples of what -/
def Tr.lvs : Tr → List (Int × Int)
  | .at t q => [(t, q)]
  | .or a b => a.lvs ++ b.lvs
  | .and a b => a.lvs ++ b.lvs
theorem Tr.lvs_len : ∀ T : Tr, T.lvs.length = T.lv
  | .at _ _ => rfl
  | .or a b => by show (a.lvs ++ b.lvs).length = _; rw [List.length_append, a.lvs_len, b.lvs_len]; rfl
  | .and a b => by show (a.lvs ++ b.lvs).length = _; rw [List.length_append, a.lvs_len, b.lvs_len]; rfl
theorem Tr.lvs_starts : ∀ T : Tr, T.lvs.map Prod.fst = T.starts
  | .at _ _ => rfl
  | .or a b => by show (a.lvs ++ b.lvs).map _ = _; rw [List.map_append, a.lvs_starts, b.lvs_starts]; rfl
  | .and a b => by show (a.lvs ++ b.lvs).map _ = _; rw [List.map_append, a.lvs_starts, b.lvs_starts]; rfl
def LeafAt (K : PySem.W.Frag) (H : Hp) (v : V) (l : Int × Int) : Prop := ∃ a, v = .ref a ∧ SqT K H a [.str "at", .int l.1, .int l.2]
def LvsAt (K : PySem.W.Frag) (H : Hp) (xs : List V) (ls : List (Int × Int)) : Prop := xs.length = ls.length ∧ ∀ (i : Nat) x l, xs[i]? = some x → ls[i]? = some l → LeafAt K H x l
theorem LvsAt.mono {xs : List V} {ls : List (Int × Int)} (h : LvsAt K H xs ls) (s : Tups K H H') : LvsAt K H' xs ls := ⟨h.1, fun i x l e1 e2 => by
  obtain ⟨a, e, q⟩ := h.2 i x l e1 e2
  exact ⟨a, e, s _ _ q⟩⟩
theorem LvsAt.app {xs ys : List V} {ls ms : List (Int × Int)} (h : LvsAt K H xs ls) (h2 : LvsAt K H ys ms) : LvsAt K H (xs ++ ys) (ls ++ ms) := by
  refine ⟨by rw [List.length_append, List.length_append, h.1, h2.1], fun i x l e1 e2 => ?_⟩
  by_cases c : i < xs.length
  · rw [List.getElem?_append_left c] at e1
    rw [List.getElem?_append_left (by rw [← h.1]; exact c)] at e2
    exact h.2 i x l e1 e2
  · rw [List.getElem?_append_right (by omega)] at e1
    rw [List.getElem?_append_right (by rw [← h.1]; omega), ← h.1] at e2
    exact h2.2 _ x l e1 e2
def sp_leaves_of (K : PySem.W.Frag) (n : Nat) : Sp := fun vs H Q _ => ∃ v T, vs = [v] ∧ TrAt K H v T ∧ T.dp ≤ n ∧ T.lv ≤ 6 ∧ ∀ p H' xs, H p = none → Same H H' → H' p = some (.lst xs) → LvsAt K H' xs T.lvs → Q (.ref p) H'
def t_leaves_of (K : PySem.W.Frag) (n : Nat) : TS :=
  (tSeq (tAsg (tVar 0) (gTup K 3 (gCons (gName 1) (gCons (gName 2) (gCons (gName 3) gNil)))))
    (tSeq (tIfS (tTest (tOp (rEqU K) (tVar 1) (tC (.str "at")))) (tRet (tLst (tCons (tVar 0) tNil))) tNext)
    (tRet (tOp (rAddU K) (tCall (sp_leaves_of K n) [] E0 (tCons (tVar 2) tNil)) (tCall (sp_leaves_of K n) [] E0 (tCons (tVar 3) tNil))))))
theorem no_leaves_of (h : sp_leaves_of K 0 vs H Q E) : False := by
  obtain ⟨_, T, _, _, h, _⟩ := h
  have := T.dp_pos
  omega
theorem ln_leaves_of (h : sp_leaves_of K n vs H Q E) : vs.length = 1 := by obtain ⟨_, _, rfl, _⟩ := h; rfl
theorem rd_leaves_of (h : sp_leaves_of K (n + 1) vs H Q E) : t_leaves_of K n (EndsOf Q) (start ["", "", "", ""] vs) H := by
  obtain ⟨v, T, rfl, hT, hd, hl, k⟩ := h
  obtain ⟨a, w, x, y, rfl, s, cw⟩ := hT.tuple
  refine ⟨_, rfl, g3 s ?_⟩
  refine ⟨_, rfl, .inl ⟨rfl, _, rfl, ?_⟩⟩
  have two : ∀ {A B : Tr}, T.lvs = A.lvs ++ B.lvs → T.lv = A.lv + B.lv → max A.dp B.dp + 1 ≤ n + 1 → TrAt K H x A → TrAt K H y B →
      tRet (tOp (rAddU K) (tCall (sp_leaves_of K n) [] E0 (tCons (tVar 2) tNil)) (tCall (sp_leaves_of K n) [] E0 (tCons (tVar 3) tNil))) (EndsOf Q) [some (.ref a), some (.str w), some x, some y] H := by
    intro A B e1 e2 hd' hA hB
    refine ⟨_, rfl, x, A, rfl, hA, by omega, by omega, fun p H1 xs hp s1 h1 l1 => ?_⟩
    refine ⟨_, rfl, y, B, rfl, hB.mono (Tups.same s1), by omega, by omega, fun p2 H2 ys hp2 s2 h2 l2 => ?_⟩
    refine .inr (.inr (.inl ⟨p, p2, _, _, rfl, rfl, s2 _ _ h1, h2, ?_, fun r hr => ?_⟩))
    · rw [l1.1, l2.1, A.lvs_len, B.lvs_len]
      exact Nat.le_of_lt (small1000 (by omega))
    · refine k r _ _ ((s1.trans s2).free hr) ((s1.trans s2).trans (same_new hr)) upd_same ?_
      rw [e1]
      exact ((l1.mono (Tups.same s2)).app l2).mono (Tups.same (same_new hr))
  rcases cw with ⟨rfl, t, q, rfl, rfl, rfl⟩ | ⟨rfl, A, B, rfl, hA, hB⟩ | ⟨rfl, A, B, rfl, hA, hB⟩
  · refine ifS (fun _ => ?_) (fun z => absurd rfl z)
    refine ⟨_, rfl, two_fit.1, fun p hp => k p _ _ hp (same_new hp) upd_same ⟨rfl, fun i x l e1 e2 => ?_⟩⟩
    match i, e1, e2 with
    | 0, e1, e2 =>
      cases e1
      cases e2
      exact ⟨a, rfl, Tups.same (same_new hp) _ _ s⟩
    | i + 1, e1, _ => exact nomatch e1
  · refine ifS (fun z => absurd z or_at) (fun _ => ?_)
    exact two rfl rfl hd hA hB
  · refine ifS (fun z => absurd z and_at) (fun _ => ?_)
    exact two rfl rfl hd hA hB
def sp_starts_of (K : PySem.W.Frag) : Sp := fun vs H Q _ => ∃ v T, vs = [v] ∧ TrAt K H v T ∧ T.dp ≤ 7 ∧ T.lv ≤ 6 ∧ ∀ p H', H p = none → Same H H' → H' p = some (.lst (T.starts.map V.int)) → Q (.ref p) H'
def t_starts_of (K : PySem.W.Frag) : TS :=
  (tRet (tLc (iList K (tCall (sp_leaves_of K 7) [] E0 (tCons (tVar 0) tNil))) (gTup K 3 (gCons (gName 1) (gCons (gName 2) (gCons (gName 1) gNil)))) tYes (tVar 2) [1, 2]))
theorem ln_starts_of (h : sp_starts_of K vs H Q E) : vs.length = 1 := by obtain ⟨_, _, rfl, _⟩ := h; rfl
theorem rd_starts_of (h : sp_starts_of K vs H Q E) : t_starts_of K (EndsOf Q) (start ["", "", ""] vs) H := by
  obtain ⟨v, T, rfl, hT, hd, hl, k⟩ := h
  refine ⟨_, rfl, v, T, rfl, hT, hd, hl, fun p G xs hp s1 h1 l1 => ?_⟩
  refine ⟨p, rfl, ⟨_, SqL.of h1⟩, fun D hD => ?_⟩
  refine lc_list (K := K) (a := p) (xs := xs) (fun i F => Same G F ∧ F D = some (.lst ((T.starts.take i).map V.int))) ⟨same_new hD, upd_same⟩ (fun i F _ s => s.1.seq (SqL.of h1)) ?_ ?_
  · rintro i x F hx ⟨s, hz⟩
    obtain ⟨lt, ex⟩ := List.getElem?_eq_some_iff.mp hx
    have lt2 : i < T.lvs.length := by rw [← l1.1]; exact lt
    obtain ⟨a, rfl, sa⟩ := l1.2 i x T.lvs[i] hx (List.getElem?_eq_getElem lt2)
    have lt3 : i < T.starts.length := by rw [T.starts_len, ← T.lvs_len]; exact lt2
    refine g3 (Tups.same s _ _ sa) ⟨rfl, ?_⟩
    refine ⟨_, rfl, _, hz, small1000 ?_, fun c o q => ?_, ?_⟩
    · rw [List.length_map, List.length_take]
      have := T.starts_len
      omega
    · rw [upd_ne (ne_of_none q hD)]
      exact s c o q
    · rw [upd_same, List.take_succ_eq_append_getElem lt3, List.map_append]
      have e : T.starts[i] = (T.lvs[i]).1 := by
        have z : (T.lvs.map Prod.fst)[i]? = T.starts[i]? := by rw [T.lvs_starts]
        rw [List.getElem?_map, List.getElem?_eq_getElem lt2, List.getElem?_eq_getElem lt3] at z
        exact (Option.some.inj z).symm
      rw [e]
      rfl
  · rintro F ⟨s, hz⟩
    rw [l1.1, T.lvs_len, ← T.starts_len, List.take_length] at hz
    exact k D F (s1.free hD) (s1.trans s) hz
/-! ### Rules -/
structure FxRule (K : PySem.W.Frag) (C : Cs) : Prop where
  cl : Cls K C.Rule
  no : NoAttr K C.Rule "_tree"
  ic : C8.InsC K C.Rule
theorem lk_tree {f : Str} {u : V} (h : (f == ("_tree" : Str)) = false) : List.lookup f [(("_tree" : Str), u)] = none := by simp [List.lookup, h]
def RuleAt (K : PySem.W.Frag) (C : Cs) (H : Hp) (v : V) (T : Tr) : Prop := ∃ a dx u, v = .ref a ∧ H a = some (.ins C.Rule dx [("_tree", u)]) ∧ TrAt K H u T ∧ T.ok ∧ T.lv ≤ 6 ∧ FxRule K C
theorem RuleAt.mono {v : V} {T : Tr} (h : RuleAt K C H v T) (s : Tups K H H') (k : ∀ a dx fs, H a = some (.ins C.Rule dx fs) → H' a = some (.ins C.Rule dx fs)) : RuleAt K C H' v T := by
  obtain ⟨a, dx, u, e, h1, h2, r⟩ := h
  exact ⟨a, dx, u, e, k _ _ _ h1, h2.mono s, r⟩
theorem RuleAt.same {v : V} {T : Tr} (h : RuleAt K C H v T) (s : Same H H') : RuleAt K C H' v T := h.mono (Tups.same s) fun _ _ _ e => s _ _ e
theorem RuleAt.kp {v : V} {T : Tr} {b : Addr} {ys : List V} (h : RuleAt K C H v T) (k : Kp b H H') (hb : H b = some (.lst ys)) : RuleAt K C H' v T := h.mono (Tups.kp k hb) fun _ _ _ e => k _ _ e (ne_of e hb fun z => nomatch z)
def sp_Rule___init__ (K : PySem.W.Frag) (C : Cs) : Sp := fun vs H Q _ => ∃ p dx u T, vs = [.ref p, u] ∧ H p = some (.ins C.Rule dx []) ∧ TrAt K H u T ∧ T.ok ∧ T.lv ≤ 6 ∧ FxRule K C ∧
  ∀ H', H' p = some (.ins C.Rule dx [("_tree", u)]) → (∀ b o, H b = some o → b ≠ p → H' b = some o) → Q .non H'
def t_Rule___init__ (K : PySem.W.Frag) : TS :=
  (tSeq (tIfS (tNot (tB (tCall (sp_is_tree K) [] E0 (tCons (tVar 1) tNil)))) tNever tNext)
    (sFld K (tVar 0) (tVar 1) "_tree"))
theorem ln_Rule___init__ (h : sp_Rule___init__ K C vs H Q E) : vs.length = 2 := by obtain ⟨_, _, _, _, rfl, _⟩ := h; rfl
theorem rd_Rule___init__ (h : sp_Rule___init__ K C vs H Q E) : t_Rule___init__ K (EndsOf Q) (start ["", ""] vs) H := by
  obtain ⟨p, dx, u, T, rfl, hp, hT, ok, l6, fx, k⟩ := h
  refine ⟨_, rfl, u, T, rfl, hT, ok, l6, fun H1 s => ⟨true, rfl, ?_⟩⟩
  refine ⟨_, rfl, _, rfl, p, _, dx, _, rfl, s _ _ hp, fx.cl, fx.no, by show 0 < 1000; decide, ?_⟩
  refine k _ upd_same fun b o e n => ?_
  rw [upd_ne n]
  exact s b o e
/-- what Rule(tree) makes -/
theorem make_rule {t : TA} {σ : L2.St} {u : V} {T : Tr} {G : Hp} (fx : FxRule K C) (ok : T.ok) (l6 : T.lv ≤ 6) (hT : TrAt K G u T) (k : ∀ x H', G x = none → Same G H' → RuleAt K C H' (.ref x) T → Q (.ref x) H') :
    ∀ x dx, G x = none → G dx = none → dx ≠ x → sp_Rule___init__ K C (.ref x :: ([u] ++ [])) (upd (upd G dx (.own x)) x (.ins C.Rule dx [])) (fun v H2 => v = .non ∧ Q (.ref x) H2) E := by
  intro x dx hx hd ne
  have s : Same G (upd (upd G dx (.own x)) x (.ins C.Rule dx [])) := fun b o e => by
    rw [upd_ne (ne_of_none e hx), upd_ne (ne_of_none e hd)]
    exact e
  refine ⟨x, dx, u, T, rfl, upd_same, hT.mono (Tups.same s), ok, l6, fx, fun H' h1 h2 => ⟨rfl, ?_⟩⟩
  have s2 : Same G H' := fun b o e => h2 b o (s b o e) (ne_of_none e hx)
  exact k x H' hx s2 ⟨x, dx, u, rfl, h1, hT.mono (Tups.same s2), ok, l6, fx⟩
theorem Tr.dp6 {T : Tr} (h : T.lv ≤ 6) : T.dp ≤ 7 := by have := T.dp_le; omega
def sp_Rule___call__ (K : PySem.W.Frag) (C : Cs) : Sp := fun vs H Q _ => ∃ v T i, vs = [v, .int i] ∧ RuleAt K C H v T ∧ Q (.int (T.give i)) H
def t_Rule___call__ (K : PySem.W.Frag) : TS :=
  (tRet (tCall (sp_given K 7) [] E0 (tCons (tFld K (tVar 0) "_tree") (tCons (tVar 1) tNil))))
theorem ln_Rule___call__ (h : sp_Rule___call__ K C vs H Q E) : vs.length = 2 := by obtain ⟨_, _, _, rfl, _⟩ := h; rfl
theorem rd_Rule___call__ (h : sp_Rule___call__ K C vs H Q E) : t_Rule___call__ K (EndsOf Q) (start ["", ""] vs) H := by
  obtain ⟨v, T, i, rfl, ⟨a, dx, u, rfl, ha, hT, ok, l6, fx⟩, k⟩ := h
  exact ⟨_, rfl, a, _, dx, _, u, rfl, ha, fx.cl, fx.no, rfl, _, rfl, u, T, i, rfl, hT, ok, Tr.dp6 l6, k⟩
def sp_Rule_rest (K : PySem.W.Frag) (C : Cs) : Sp := fun vs H Q _ => ∃ v T i, vs = [v, .int i] ∧ RuleAt K C H v T ∧ Q (.int (i - T.give i)) H
def t_Rule_rest (K : PySem.W.Frag) : TS :=
  (tRet (tOp (rSubI) (tVar 1) (tCall (sp_given K 7) [] E0 (tCons (tFld K (tVar 0) "_tree") (tCons (tVar 1) tNil)))))
theorem ln_Rule_rest (h : sp_Rule_rest K C vs H Q E) : vs.length = 2 := by obtain ⟨_, _, _, rfl, _⟩ := h; rfl
theorem rd_Rule_rest (h : sp_Rule_rest K C vs H Q E) : t_Rule_rest K (EndsOf Q) (start ["", ""] vs) H := by
  obtain ⟨v, T, i, rfl, ⟨a, dx, u, rfl, ha, hT, ok, l6, fx⟩, k⟩ := h
  exact ⟨_, rfl, _, rfl, a, _, dx, _, u, rfl, ha, fx.cl, fx.no, rfl, _, rfl, u, T, i, rfl, hT, ok, Tr.dp6 l6, _, _, rfl, rfl, k⟩
def sp_Rule_tree (K : PySem.W.Frag) (C : Cs) : Sp := fun vs H Q _ => ∃ v T, vs = [v] ∧ RuleAt K C H v T ∧ ∀ u, TrAt K H u T → Q u H
def t_Rule_tree (K : PySem.W.Frag) : TS :=
  (tRet (tFld K (tVar 0) "_tree"))
theorem ln_Rule_tree (h : sp_Rule_tree K C vs H Q E) : vs.length = 1 := by obtain ⟨_, _, rfl, _⟩ := h; rfl
theorem rd_Rule_tree (h : sp_Rule_tree K C vs H Q E) : t_Rule_tree K (EndsOf Q) (start [""] vs) H := by
  obtain ⟨v, T, rfl, ⟨a, dx, u, rfl, ha, hT, ok, l6, fx⟩, k⟩ := h
  exact ⟨_, rfl, a, _, dx, _, u, rfl, ha, fx.cl, fx.no, rfl, k u hT⟩
def Tr.join (w : Str) (A B : Tr) : Tr := if w = "or" then .or A B else .and A B
theorem Tr.join_lv (w : Str) (A B : Tr) : (Tr.join w A B).lv = A.lv + B.lv := by unfold Tr.join; split <;> rfl
theorem Tr.join_ok {w : Str} {A B : Tr} (a : A.ok) (b : B.ok) : (Tr.join w A B).ok := by unfold Tr.join; split <;> exact ⟨a, b⟩
def sp_joined (K : PySem.W.Frag) (C : Cs) : Sp := fun vs H Q _ => ∃ (w : Str) (u v : V) (A B : Tr), vs = [.str w, u, v] ∧ (w = "or" ∨ w = "and") ∧ TrAt K H u A ∧ TrAt K H v B ∧ A.ok ∧ B.ok ∧ A.lv + B.lv ≤ 6 ∧ FxRule K C ∧
  ∀ x H', H x = none → Same H H' → RuleAt K C H' (.ref x) (Tr.join w A B) → Q (.ref x) H'
def t_joined (K : PySem.W.Frag) (C : Cs) : TS :=
  (tSeq (tIfS (tTest (tOp (rGtI) (tOp (rAddU K) (tCB (rLenU K) (tCons (tCall (sp_starts_of K) [] E0 (tCons (tVar 1) tNil)) tNil)) (tCB (rLenU K) (tCons (tCall (sp_starts_of K) [] E0 (tCons (tVar 2) tNil)) tNil))) (tC (.int 6)))) tNever tNext)
    (tRet (tMake C.Rule (sp_Rule___init__ K C) [] E0 (tCons (tTup (tCons (tVar 0) (tCons (tVar 1) (tCons (tVar 2) tNil)))) tNil))))
theorem ln_joined (h : sp_joined K C vs H Q E) : vs.length = 3 := by obtain ⟨_, _, _, _, _, rfl, _⟩ := h; rfl
theorem rd_joined (h : sp_joined K C vs H Q E) : t_joined K C (EndsOf Q) (start ["", "", ""] vs) H := by
  obtain ⟨w, u, v, A, B, rfl, hw, hA, hB, oA, oB, l6, fx, k⟩ := h
  refine ⟨_, rfl, u, A, rfl, hA, Tr.dp6 (by omega), by omega, fun p H1 hp s1 h1 => ?_⟩
  refine .inl ⟨_, _, rfl, .inl ⟨_, SqL.of h1, rfl⟩, ?_⟩
  refine ⟨_, rfl, v, B, rfl, hB.mono (Tups.same s1), Tr.dp6 (by omega), by omega, fun p2 H2 hp2 s2 h2 => ?_⟩
  refine .inl ⟨_, _, rfl, .inl ⟨_, SqL.of h2, rfl⟩, .inl ⟨_, _, rfl, rfl, _, _, rfl, rfl, _, rfl, ?_⟩⟩
  rw [List.length_map, List.length_map, A.starts_len, B.starts_len]
  refine iteF' (decide_eq_false (by omega)) ?_
  have s := s1.trans s2
  refine ⟨_, rfl, _, rfl, _, rfl, two_fit.2.2.1, fun q hq => ?_⟩
  have s3 := same_new (o := .tup [.str w, u, v]) hq
  have hT : TrAt K (upd H2 q (.tup [.str w, u, v])) (.ref q) (Tr.join w A B) := by
    unfold Tr.join
    rcases hw with rfl | rfl
    · rw [if_pos rfl]
      exact ⟨q, u, v, rfl, SqT.of upd_same, hA.mono (Tups.same (s.trans s3)), hB.mono (Tups.same (s.trans s3))⟩
    · rw [if_neg and_or]
      exact ⟨q, u, v, rfl, SqT.of upd_same, hA.mono (Tups.same (s.trans s3)), hB.mono (Tups.same (s.trans s3))⟩
  exact make_rule (t := tNil) (σ := []) fx (Tr.join_ok oA oB) (by rw [Tr.join_lv]; exact l6) hT fun x H' hx s4 r => k x H' ((s.trans s3).free hx) ((s.trans s3).trans s4) r
def sp_Rule___or__ (K : PySem.W.Frag) (C : Cs) : Sp := fun vs H Q _ => ∃ u v A B, vs = [u, v] ∧ RuleAt K C H u A ∧ RuleAt K C H v B ∧ A.lv + B.lv ≤ 6 ∧ ∀ x H', H x = none → Same H H' → RuleAt K C H' (.ref x) (.or A B) → Q (.ref x) H'
def sp_Rule___and__ (K : PySem.W.Frag) (C : Cs) : Sp := fun vs H Q _ => ∃ u v A B, vs = [u, v] ∧ RuleAt K C H u A ∧ RuleAt K C H v B ∧ A.lv + B.lv ≤ 6 ∧ ∀ x H', H x = none → Same H H' → RuleAt K C H' (.ref x) (.and A B) → Q (.ref x) H'
def t_Rule___or__ (K : PySem.W.Frag) (C : Cs) : TS :=
  (tRet (tCall (sp_joined K C) [] E0 (tCons (tC (.str "or")) (tCons (tFld K (tVar 0) "_tree") (tCons (tFld K (tVar 1) "_tree") tNil)))))
def t_Rule___and__ (K : PySem.W.Frag) (C : Cs) : TS :=
  (tRet (tCall (sp_joined K C) [] E0 (tCons (tC (.str "and")) (tCons (tFld K (tVar 0) "_tree") (tCons (tFld K (tVar 1) "_tree") tNil)))))
theorem ln_Rule___or__ (h : sp_Rule___or__ K C vs H Q E) : vs.length = 2 := by obtain ⟨_, _, _, _, rfl, _⟩ := h; rfl
theorem ln_Rule___and__ (h : sp_Rule___and__ K C vs H Q E) : vs.length = 2 := by obtain ⟨_, _, _, _, rfl, _⟩ := h; rfl
theorem rd_Rule___or__ (h : sp_Rule___or__ K C vs H Q E) : t_Rule___or__ K C (EndsOf Q) (start ["", ""] vs) H := by
  obtain ⟨u, v, A, B, rfl, ⟨a, dx, x, rfl, ha, hA, oA, _, fx⟩, ⟨b, dy, y, rfl, hb, hB, oB, _, _⟩, l6, k⟩ := h
  refine ⟨_, rfl, a, _, dx, _, x, rfl, ha, fx.cl, fx.no, rfl, _, rfl, b, _, dy, _, y, rfl, hb, fx.cl, fx.no, rfl, ?_⟩
  exact ⟨"or", x, y, A, B, rfl, .inl rfl, hA, hB, oA, oB, l6, fx, fun r H' hr s q => k r H' hr s (by unfold Tr.join at q; rw [if_pos rfl] at q; exact q)⟩
theorem rd_Rule___and__ (h : sp_Rule___and__ K C vs H Q E) : t_Rule___and__ K C (EndsOf Q) (start ["", ""] vs) H := by
  obtain ⟨u, v, A, B, rfl, ⟨a, dx, x, rfl, ha, hA, oA, _, fx⟩, ⟨b, dy, y, rfl, hb, hB, oB, _, _⟩, l6, k⟩ := h
  refine ⟨_, rfl, a, _, dx, _, x, rfl, ha, fx.cl, fx.no, rfl, _, rfl, b, _, dy, _, y, rfl, hb, fx.cl, fx.no, rfl, ?_⟩
  exact ⟨"and", x, y, A, B, rfl, .inr rfl, hA, hB, oA, oB, l6, fx, fun r H' hr s q => k r H' hr s (by unfold Tr.join at q; rw [if_neg and_or] at q; exact q)⟩
def sp_at_least (K : PySem.W.Frag) (C : Cs) : Sp := fun vs H Q _ => ∃ t q, vs = [.int t, .int q] ∧ (Tr.at t q).ok ∧ FxRule K C ∧ ∀ x H', H x = none → Same H H' → RuleAt K C H' (.ref x) (.at t q) → Q (.ref x) H'
def t_at_least (K : PySem.W.Frag) (C : Cs) : TS :=
  (tSeq (tIfS (tNot (tB (tCall (sp_is_number K) [] E0 (tCons (tC (.int 1)) (tCons (tVar 0) tNil))))) tNever tNext)
    (tSeq (tIfS (tNot (tB (tCall (sp_is_by K) [] E0 (tCons (tVar 1) tNil)))) tNever tNext)
    (tRet (tMake C.Rule (sp_Rule___init__ K C) [] E0 (tCons (tTup (tCons (tC (.str "at")) (tCons (tVar 0) (tCons (tVar 1) tNil)))) tNil)))))
theorem ln_at_least (h : sp_at_least K C vs H Q E) : vs.length = 2 := by obtain ⟨_, _, rfl, _⟩ := h; rfl
theorem rd_at_least (h : sp_at_least K C vs H Q E) : t_at_least K C (EndsOf Q) (start ["", ""] vs) H := by
  obtain ⟨t, q, rfl, ok, fx, k⟩ := h
  obtain ⟨o1, o2, o3, o4⟩ := id ok
  refine ⟨_, rfl, 1, t, rfl, _, rfl, ?_⟩
  rw [decide_eq_true o1]
  refine ⟨_, rfl, q, rfl, _, rfl, ?_⟩
  rw [decide_eq_true o3, decide_eq_true o4]
  refine ⟨_, rfl, _, rfl, two_fit.2.2.1, fun p hp => ?_⟩
  have s := same_new (o := .tup [.str "at", .int t, .int q]) hp
  exact make_rule (t := tNil) (σ := []) fx ok (by show 1 ≤ 6; decide) ⟨p, rfl, SqT.of upd_same⟩ fun x H' hx s2 r => k x H' (s.free hx) (s.trans s2) r
end
end Pk
set_option Elab.async false
set_option linter.all false
set_option maxRecDepth 100000
set_option maxHeartbeats 2000000
namespace Pk
open PySem PySem.Spec L2 PyProof.Rows
section
variable {K : PySem.W.Frag} {C : Cs} {vs : List V} {H H' : Hp} {Q : VK} {E : XK} {n : Nat}
def sp_law_alike (K : PySem.W.Frag) : Sp := fun vs H Q _ => ∃ x y d, vs = [x, y] ∧ Dp K H x d ∧ Dp K H y d ∧ Good d ∧ Q (.bl true) H
def t_law_alike (K : PySem.W.Frag) : TS :=
  (tRet (tAndV (tOp (rEqU K) (tVar 0) (tVar 1)) (tOp (rEqU K) (tCB (rRepr K) (tCons (tVar 0) tNil)) (tCB (rRepr K) (tCons (tVar 1) tNil)))))
theorem ln_law_alike (h : sp_law_alike K vs H Q E) : vs.length = 2 := by obtain ⟨_, _, _, rfl, _⟩ := h; rfl
theorem rd_law_alike (h : sp_law_alike K vs H Q E) : t_law_alike K (EndsOf Q) (start ["", ""] vs) H := by
  obtain ⟨x, y, d, rfl, hx, hy, g, k⟩ := h
  refine ⟨_, rfl, _, rfl, .inr ⟨d, d, hx, hy, g.sh, g.sh, _, rfl, ?_⟩⟩
  rw [g.same]
  refine ⟨_, rfl, x, d, rfl, hx, g, _, rfl, y, d, rfl, hy, g, .inl ⟨rfl, ?_⟩⟩
  rw [decide_eq_true rfl]
  exact k
theorem pick2 {x y : V} {v : Int} (h0 : 0 ≤ v) (h1 : v < 2) : ∃ z, atI [x, y] v = some z ∧ ((v = 0 ∧ z = x) ∨ (v = 1 ∧ z = y)) := by
  rcases (by omega : v = 0 ∨ v = 1) with rfl | rfl
  · exact ⟨x, rfl, .inl ⟨rfl, rfl⟩⟩
  · exact ⟨y, rfl, .inr ⟨rfl, rfl⟩⟩
def sp_law_draw_size (K : PySem.W.Frag) : Sp := fun vs H Q _ => ∃ b l top sc, vs = [.ref b, .int top, .int sc] ∧ Bag H b l ∧ 1 ≤ top ∧ top ≤ 1000 ∧ 1 ≤ sc ∧ ∀ v H', 1 ≤ v → v ≤ top * sc → Bag H' b l → Kp b H H' → Q (.int v) H'
def t_law_draw_size (K : PySem.W.Frag) : TS :=
  (tRet (tOp (rMulU K) (tOp (rAddU K) (tC (.int 1)) (tCall (sp_law_take K) [] E0 (tCons (tVar 0) (tCons (tVar 1) tNil)))) (tOp (rIx K) (tLst (tCons (tC (.int 1)) (tCons (tVar 2) tNil))) (tCall (sp_law_take K) [] E0 (tCons (tVar 0) (tCons (tC (.int 2)) tNil))))))
theorem ln_law_draw_size (h : sp_law_draw_size K vs H Q E) : vs.length = 3 := by obtain ⟨_, _, _, _, rfl, _⟩ := h; rfl
theorem rd_law_draw_size (h : sp_law_draw_size K vs H Q E) : t_law_draw_size K (EndsOf Q) (start ["", "", ""] vs) H := by
  obtain ⟨b, l, top, sc, rfl, B, t1, t2, s1, k⟩ := h
  refine ⟨_, rfl, _, rfl, b, l, top, rfl, B, by omega, by omega, fun r H1 r0 r1 B1 k1 => ?_⟩
  refine .inl ⟨_, _, rfl, rfl, _, rfl, two_fit.2.1, fun p hp => ?_⟩
  have k2 := k1.laid (o := .lst [.int 1, .int sc]) hp
  refine ⟨_, rfl, b, l, 2, rfl, B1.same (same_new hp), by decide, by decide, fun j H2 j0 j1 B2 k3 => ?_⟩
  have hp2 : H2 p = some (.lst [.int 1, .int sc]) := by
    refine k3 p _ upd_same ?_
    obtain ⟨ys, hb⟩ := B1.at
    exact (ne_of_none hb hp).symm
  obtain ⟨z, hz, cz⟩ := pick2 (x := .int 1) (y := .int sc) j0 j1
  refine .inl ⟨p, _, j, z, rfl, rfl, SqL.of hp2, hz, ?_⟩
  rcases cz with ⟨_, rfl⟩ | ⟨_, rfl⟩
  · refine .inl ⟨_, _, rfl, rfl, .inl (.inl (by omega)), ?_⟩
    refine k _ _ (by omega) ?_ B2 (k2.trans k3)
    have : top * 1 ≤ top * sc := Int.mul_le_mul_of_nonneg_left s1 (by omega)
    omega
  · refine .inl ⟨_, _, rfl, rfl, .inl (.inl (by omega)), ?_⟩
    have h1 : (1 + r) * sc ≤ top * sc := Int.mul_le_mul_of_nonneg_right (by omega) (by omega)
    have h2 : 1 * 1 ≤ (1 + r) * sc := Int.mul_le_mul (by omega) s1 (by omega) (by omega)
    exact k _ _ (by omega) h1 B2 (k2.trans k3)
theorem Tr.give_or (a b : Tr) (i : Int) : (Tr.or a b).give i = if b.give i > a.give i then b.give i else a.give i := rfl
theorem Tr.give_and (a b : Tr) (i : Int) : (Tr.and a b).give i = if b.give i < a.give i then b.give i else a.give i := rfl
def sp_law_give (K : PySem.W.Frag) (n : Nat) : Sp := fun vs H Q _ => ∃ v T i, vs = [v, .int i] ∧ TrAt K H v T ∧ T.ok ∧ T.dp ≤ n ∧ ∀ H', Same H H' → Q (.int (T.give i)) H'
def t_law_give (K : PySem.W.Frag) (n : Nat) : TS :=
  (tSeq (tAsg (tVar 0) (gTup K 3 (gCons (gName 2) (gCons (gName 3) (gCons (gName 4) gNil)))))
    (tSeq (tIfS (tTest (tOp (rEqU K) (tVar 2) (tC (.str "at")))) (tRet (tIf (tTest (tOp (rGeI) (tVar 1) (tVar 3))) (tOp (rSubI) (tVar 1) (tOp (rModI) (tCB (rIntU) (tCons (tVar 1) tNil)) (tVar 4))) (tC (.int 0)))) tNext)
    (tSeq (tAsg (tLst (tCons (tCall (sp_law_give K n) [] E0 (tCons (tVar 3) (tCons (tVar 1) tNil))) (tCons (tCall (sp_law_give K n) [] E0 (tCons (tVar 4) (tCons (tVar 1) tNil))) tNil))) (gName 5))
    (tRet (tIf (tTest (tOp (rEqU K) (tVar 2) (tC (.str "or")))) (tCB (rMax K) (tCons (tVar 5) tNil)) (tCB (rMin K) (tCons (tVar 5) tNil)))))))
theorem no_law_give (h : sp_law_give K 0 vs H Q E) : False := by
  obtain ⟨_, T, _, _, _, _, h, _⟩ := h
  have := T.dp_pos
  omega
theorem ln_law_give (h : sp_law_give K n vs H Q E) : vs.length = 2 := by obtain ⟨_, _, _, rfl, _⟩ := h; rfl
theorem rd_law_give (h : sp_law_give K (n + 1) vs H Q E) : t_law_give K n (EndsOf Q) (start ["", "", "", "", "", ""] vs) H := by
  obtain ⟨v, T, i, rfl, hT, ok, hd, k⟩ := h
  obtain ⟨a, w, x, y, rfl, s, cw⟩ := hT.tuple
  refine ⟨_, rfl, g3 s ?_⟩
  refine ⟨_, rfl, .inl ⟨rfl, _, rfl, ?_⟩⟩
  rcases cw with ⟨rfl, t, q, rfl, rfl, rfl⟩ | ⟨rfl, A, B, rfl, hA, hB⟩ | ⟨rfl, A, B, rfl, hA, hB⟩
  · refine ifS (fun _ => ?_) (fun z => absurd rfl z)
    obtain ⟨o1, o2, o3, o4⟩ := ok
    have k := k H (Same.refl H)
    have e : (Tr.at t q).give i = if t ≤ i then i - i % q else 0 := rfl
    rw [e] at k
    refine ⟨_, rfl, _, rfl, _, _, rfl, rfl, _, rfl, ?_⟩
    refine ifD (fun c => ?_) (fun c => ?_)
    · rw [if_pos c] at k
      exact ⟨_, rfl, _, rfl, .inl (.inl ⟨_, rfl, _, rfl, _, _, rfl, rfl, (by show (0 : Int) < q; omega), _, _, rfl, rfl, k⟩)⟩
    · rw [if_neg c] at k
      exact k
  · refine ifS (fun z => absurd z or_at) (fun _ => ?_)
    have hd' : max A.dp B.dp + 1 ≤ n + 1 := hd
    refine ⟨_, rfl, _, rfl, x, A, i, rfl, hA, ok.1, by omega, fun H1 s1 => ?_⟩
    refine ⟨_, rfl, _, rfl, y, B, i, rfl, hB.mono (Tups.same s1), ok.2, by omega, fun H2 s2 => ⟨two_fit.2.1, fun p hp => ?_⟩⟩
    refine ⟨_, rfl, .inl ⟨rfl, _, rfl, ?_⟩⟩
    refine ifS (fun _ => ?_) (fun z => absurd rfl z)
    refine ⟨_, rfl, p, [A.give i, B.give i], rfl, SqL.of upd_same, Nat.succ_pos _, fun m hm hy => ?_⟩
    have e : m = (Tr.or A B).give i := by
      rw [Tr.give_or]
      have h1 := hy (A.give i) (List.mem_cons_self ..)
      have h2 := hy (B.give i) (List.mem_cons_of_mem _ (List.mem_cons_self ..))
      rcases List.mem_cons.mp hm with rfl | hm
      · split <;> omega
      · have := List.mem_singleton.mp hm
        split <;> omega
    rw [e]
    exact k _ ((s1.trans s2).trans (same_new hp))
  · refine ifS (fun z => absurd z and_at) (fun _ => ?_)
    have hd' : max A.dp B.dp + 1 ≤ n + 1 := hd
    refine ⟨_, rfl, _, rfl, x, A, i, rfl, hA, ok.1, by omega, fun H1 s1 => ?_⟩
    refine ⟨_, rfl, _, rfl, y, B, i, rfl, hB.mono (Tups.same s1), ok.2, by omega, fun H2 s2 => ⟨two_fit.2.1, fun p hp => ?_⟩⟩
    refine ⟨_, rfl, .inl ⟨rfl, _, rfl, ?_⟩⟩
    refine ifS (fun z => absurd z and_or) (fun _ => ?_)
    refine ⟨_, rfl, p, [A.give i, B.give i], rfl, SqL.of upd_same, Nat.succ_pos _, fun m hm hy => ?_⟩
    have e : m = (Tr.and A B).give i := by
      rw [Tr.give_and]
      have h1 := hy (A.give i) (List.mem_cons_self ..)
      have h2 := hy (B.give i) (List.mem_cons_of_mem _ (List.mem_cons_self ..))
      rcases List.mem_cons.mp hm with rfl | hm
      · split <;> omega
      · have := List.mem_singleton.mp hm
        split <;> omega
    rw [e]
    exact k _ ((s1.trans s2).trans (same_new hp))
/-! ### a drawn rule -/
def Tr.le (m : Int) : Tr → Prop
  | .at t _ => t ≤ m
  | .or a b => le m a ∧ le m b
  | .and a b => le m a ∧ le m b
theorem Bag.nb {b l D : Addr} (B : Bag H b l) (h : H D = none) : D ≠ b := by
  obtain ⟨ys, hb⟩ := B.at
  exact (ne_of_none hb h).symm
theorem Bag.nl {b l D : Addr} (B : Bag H b l) (h : H D = none) : D ≠ l := by
  obtain ⟨ys, hb⟩ := B.at2
  exact (ne_of_none hb h).symm
theorem Bag.tups {b l : Addr} (B : Bag H b l) (k : Kp b H H') : Tups K H H' := by
  obtain ⟨ys, hb⟩ := B.at
  exact Tups.kp k hb
def Ps.Ok (K : PySem.W.Frag) (H : Hp) (m : Int) (zs : Ps) : Prop := ∀ z ∈ zs, TrAt K H z.1 z.2 ∧ z.2.ok ∧ z.2.le m
theorem Ps.Ok.mono {zs : Ps} {m : Int} (h : Ps.Ok K H m zs) (s : Tups K H H') : Ps.Ok K H' m zs := fun z hz => ⟨(h z hz).1.mono s, (h z hz).2⟩
theorem Tups.add {p : Addr} {o u : HO} (h : H p = some u) (nt : ∀ xs, u ≠ .tup xs) (nf : ∀ ob xs, u ≠ .frz ob (.tup xs)) : Tups K H (upd H p o) := Tups.put h nt nf
theorem lst_tups {p : Addr} {o : HO} {xs : List V} (h : H p = some (.lst xs)) : Tups K H (upd H p o) := Tups.put h (fun _ z => nomatch z) fun _ _ z => nomatch z
def sp_law_draw_rule (K : PySem.W.Frag) : Sp := fun vs H Q _ => ∃ b l top sc many, vs = [.ref b, .int top, .int sc, .int many] ∧ Bag H b l ∧ 1 ≤ top ∧ top ≤ 1000 ∧ 1 ≤ sc ∧ top * sc ≤ 10 ^ 50 ∧ 1 ≤ many ∧ many ≤ 100 ∧
  ∀ v T H', TrAt K H' v T → T.ok → T.le (top * sc) → (T.lv : Int) = many → Bag H' b l → Kp b H H' → Q v H'
def t_law_draw_rule (K : PySem.W.Frag) : TS :=
  (tSeq (tAsg (tLc (iRng1 (tCons (tVar 3) tNil)) (gName 6) tYes (tTup (tCons (tC (.str "at")) (tCons (tCall (sp_law_draw_size K) [] E0 (tCons (tVar 0) (tCons (tVar 1) (tCons (tVar 2) tNil)))) (tCons (tOp (rAddU K) (tC (.int 1)) (tCall (sp_law_take K) [] E0 (tCons (tVar 0) (tCons (tC (.int 6)) tNil)))) tNil)))) [6]) (gName 4))
    (tSeq (tWhile (tTest (tOp (rGtI) (tCB (rLenU K) (tCons (tVar 4) tNil)) (tC (.int 1)))) (tSeq (tAsg (tCall (sp_law_take K) [] E0 (tCons (tVar 0) (tCons (tOp (rSubI) (tCB (rLenU K) (tCons (tVar 4) tNil)) (tC (.int 1))) tNil))) (gName 5))
    (tAsg (tOp (rAddU K) (tOp (rAddU K) (tSl (rSlU K) (tVar 4) tNoPart (tPart (tVar 5))) (tLst (tCons (tTup (tCons (tOp (rIx K) (tLst (tCons (tC (.str "or")) (tCons (tC (.str "and")) tNil))) (tCall (sp_law_take K) [] E0 (tCons (tVar 0) (tCons (tC (.int 2)) tNil)))) (tCons (tOp (rIx K) (tVar 4) (tVar 5)) (tCons (tOp (rIx K) (tVar 4) (tOp (rAddU K) (tVar 5) (tC (.int 1)))) tNil)))) tNil))) (tSl (rSlU K) (tVar 4) (tPart (tOp (rAddU K) (tVar 5) (tC (.int 2)))) tNoPart)) (gName 4))))
    (tRet (tOp (rIx K) (tVar 4) (tC (.int 0))))))
theorem ln_law_draw_rule (h : sp_law_draw_rule K vs H Q E) : vs.length = 4 := by obtain ⟨_, _, _, _, _, rfl, _⟩ := h; rfl
theorem split2 {α : Type} {l : List α} {j : Nat} (h : j + 1 < l.length) : l = l.take j ++ (l[j] :: l[j + 1] :: l.drop (j + 2)) := by
  rw [← List.drop_eq_getElem_cons (by omega), ← List.drop_eq_getElem_cons (by omega), List.take_append_drop]
theorem rd_law_draw_rule (h : sp_law_draw_rule K vs H Q E) : t_law_draw_rule K (EndsOf Q) (start ["", "", "", "", "", "", ""] vs) H := by
  obtain ⟨b, l, top, sc, many, rfl, B, t1, t2, s1, ts, m1, m2, k⟩ := h
  have nb : ∀ {D : Addr}, H D = none → D ≠ b := fun h => B.nb h
  refine ⟨_, rfl, many, rfl, by omega, by omega, fun D hD => ?_⟩
  refine lc_range (lo := 0) (n := many.toNat) (fun i H' => Bag H' b l ∧ Kp b H H' ∧ ∃ zs : Ps, zs.length = i ∧ zs.lvs = i ∧ H' D = some (.lst (zs.map (·.1))) ∧ Ps.Ok K H' (top * sc) zs) ⟨B.same (same_new hD), kp_new hD, [], rfl, rfl, upd_same, fun z hz => nomatch hz⟩ ?_ ?_
  · rintro i G hi ⟨B1, k1, zs, hl, hv, hz, ok⟩
    refine ⟨rfl, ?_⟩
    refine ⟨_, rfl, _, rfl, _, rfl, b, l, top, sc, rfl, B1, t1, t2, s1, fun t G1 a0 a1 B2 k2 => ?_⟩
    refine ⟨_, rfl, b, l, 6, rfl, B2, by decide, by decide, fun q G2 q0 q1 B3 k3 => .inl ⟨_, _, rfl, rfl, two_fit.2.2.1, fun p hp => ?_⟩⟩
    have k23 := k2.trans k3
    have hz2 := k23 D _ hz (nb hD)
    have s4 := same_new (o := .tup [.str "at", .int t, .int (1 + q)]) hp
    have tp : Tups K G (upd G2 p (.tup [.str "at", .int t, .int (1 + q)])) := (B1.tups k23).trans (Tups.same s4)
    refine ⟨_, s4 _ _ hz2, small1000 (by rw [List.length_map]; omega), ?_, (k1.trans (k23.trans (Kp.of s4))).other hD, zs ++ [(.ref p, .at t (1 + q))], ?_, ?_, ?_, ?_⟩
    · exact (B3.same s4).put (nb hD).symm (B.nl hD).symm
    · rw [List.length_append, hl]; rfl
    · rw [Ps.lvs_app, hv]; rfl
    · rw [upd_same, List.map_append]; rfl
    · intro z q
      have tD := lst_tups (K := K) (o := .lst (zs.map (·.1) ++ [V.ref p])) (s4 _ _ hz2)
      rcases List.mem_append.mp q with q | q
      · exact ⟨((ok z q).1.mono tp).mono tD, (ok z q).2⟩
      · rw [List.mem_singleton.mp q]
        exact ⟨⟨p, rfl, tD _ _ (SqT.of upd_same)⟩, ⟨a0, by omega, by omega, by omega⟩, a1⟩
  rintro G ⟨B1, k1, zs, hl, hv, hz, ok⟩
  refine ⟨fun m σ' H' => ∃ (zs : Ps) (D : Addr) (at' : Option V), σ' = [some (.ref b), some (.int top), some (.int sc), some (.int many), some (.ref D), at', none] ∧ H D = none ∧ H' D = some (.lst (zs.map (·.1))) ∧ Ps.Ok K H' (top * sc) zs ∧
    zs.lvs = many.toNat ∧ 1 ≤ zs.length ∧ zs.length ≤ 100 ∧ Bag H' b l ∧ Kp b H H' ∧ m = zs.length, ⟨_, zs, D, none, rfl, hD, hz, ok, hv, by omega, by omega, B1, k1, rfl⟩, ?_⟩
  clear hl hv hz ok zs B1 k1 hD
  rintro m σ' G ⟨zs, D, at', rfl, hD, hz, ok, hv, l1, l2, B1, k1, rfl⟩
  refine ⟨_, rfl, .inl ⟨_, _, rfl, .inl ⟨_, SqL.of hz, rfl⟩, _, _, rfl, rfl, _, rfl, ?_⟩⟩
  rw [List.length_map]
  refine ifD (fun c => ?_) (fun c => ?_)
  · -- two neighbours become one
    refine ⟨fun σ2 H2 => ∃ (zs2 : Ps) (D2 : Addr) (at' : Option V), σ2 = [some (.ref b), some (.int top), some (.int sc), some (.int many), some (.ref D2), at', none] ∧ H D2 = none ∧ H2 D2 = some (.lst (zs2.map (·.1))) ∧ Ps.Ok K H2 (top * sc) zs2 ∧
      zs2.lvs = many.toNat ∧ 1 ≤ zs2.length ∧ zs2.length ≤ 100 ∧ Bag H2 b l ∧ Kp b H H2 ∧ zs2.length < zs.length, fun σ2 H2 ⟨zs2, D2, at', a1, a2, a3, a4, a5, a6, a7, a8, a9, a10⟩ => ⟨_, a10, zs2, D2, at', a1, a2, a3, a4, a5, a6, a7, a8, a9, rfl⟩, ?_⟩
    refine ⟨_, rfl, _, rfl, .inl ⟨_, _, rfl, .inl ⟨_, SqL.of hz, rfl⟩, _, _, rfl, rfl, ?_⟩⟩
    rw [List.length_map]
    refine ⟨b, l, _, rfl, B1, by omega, by omega, fun at' G1 a0 a1 B2 k2 => ?_⟩
    have hz1 := k2 D _ hz (nb hD)
    obtain ⟨j, rfl⟩ : ∃ j : Nat, at' = (j : Int) := ⟨at'.toNat, by omega⟩
    have hj : j + 1 < zs.length := by omega
    have t1 := B1.tups (K := K) k2
    have kp1 := k1.trans k2
    have ok1 := ok.mono t1
    clear hz ok B1 k1 t1
    -- some[:at]
    refine ⟨_, rfl, _, rfl, _, rfl, .inl ⟨D, _, rfl, SqL.of hz1, fun p1 hp1 => ?_⟩⟩
    rw [cutV_to]
    have e1 := same_new (o := .lst ((zs.map (·.1)).take j)) hp1
    -- ['or', 'and'][..]
    refine ⟨two_fit.2.1, fun p2 hp2 => ?_⟩
    have e2 := same_new (o := .lst [.str "or", .str "and"]) hp2
    have e12 := e1.trans e2
    refine ⟨_, rfl, b, l, 2, rfl, B2.same e12, by decide, by decide, fun w G2 w0 w1 B3 k3 => ?_⟩
    have np2 : p2 ≠ b := (B2.same e1).nb hp2
    have np1 : p1 ≠ b := B2.nb hp1
    obtain ⟨wd, hw, cw⟩ := pick2 (x := .str "or") (y := .str "and") w0 w1
    have h2 := k3 p2 _ upd_same np2
    have h1 := k3 p1 _ (e2 _ _ upd_same) np1
    have hz2 := k3 D _ (e12 _ _ hz1) (nb hD)
    have tt : Tups K G1 G2 := (Tups.same e12).trans ((B2.same e12).tups k3)
    have ok2 := ok1.mono tt
    have kp2 := kp1.trans ((Kp.of e12).trans k3)
    refine .inl ⟨p2, _, w, wd, rfl, rfl, SqL.of h2, hw, ?_⟩
    -- some[at], some[at + 1]
    have g1 : (zs.map (·.1))[j]? = some (zs[j].1) := by rw [List.getElem?_map, List.getElem?_eq_getElem (by omega)]; rfl
    have g2 : (zs.map (·.1))[j + 1]? = some (zs[j + 1].1) := by rw [List.getElem?_map, List.getElem?_eq_getElem hj]; rfl
    refine ⟨_, rfl, _, rfl, .inl ⟨D, _, _, _, rfl, rfl, SqL.of hz2, at_of rfl g1, ?_⟩⟩
    refine ⟨_, rfl, _, rfl, .inl ⟨_, _, rfl, rfl, .inl ⟨D, _, _, _, rfl, rfl, SqL.of hz2, at_of (by omega) g2, ?_⟩⟩⟩
    refine ⟨two_fit.2.2.1, fun p3 hp3 => ?_⟩
    have e3 := same_new (o := .tup [wd, zs[j].1, zs[j + 1].1]) hp3
    refine ⟨two_fit.1, fun p4 hp4 => ?_⟩
    have e4 := same_new (o := .lst [.ref p3]) hp4
    have e34 := e3.trans e4
    refine .inr (.inr (.inl ⟨p1, p4, _, _, rfl, rfl, e34 _ _ h1, upd_same, ?_, fun p5 hp5 => ?_⟩))
    · rw [List.length_take, List.length_map, List.length_singleton]
      exact Nat.le_of_lt (small1000 (by omega))
    have e5 := same_new (o := .lst ((zs.map (·.1)).take j ++ [.ref p3])) hp5
    have e35 := e34.trans e5
    refine ⟨_, rfl, _, rfl, .inl ⟨_, _, rfl, rfl, _, rfl, .inl ⟨D, _, rfl, SqL.of (e35 _ _ hz2), fun p6 hp6 => ?_⟩⟩⟩
    rw [show ((j : Int) + 2) = ((j + 2 : Nat) : Int) from rfl, cutV_from]
    have e6 := same_new (o := .lst ((zs.map (·.1)).drop (j + 2))) hp6
    refine .inr (.inr (.inl ⟨p5, p6, _, _, rfl, rfl, e6 _ _ upd_same, upd_same, ?_, fun p7 hp7 => ?_⟩))
    · rw [List.length_append, List.length_take, List.length_drop, List.length_map, List.length_singleton]
      exact Nat.le_of_lt (small1000 (by omega))
    have e7 := same_new (o := .lst ((zs.map (·.1)).take j ++ [.ref p3] ++ (zs.map (·.1)).drop (j + 2))) hp7
    have all : Same G2 _ := e35.trans (e6.trans e7)
    obtain ⟨A, hA⟩ : ∃ A, A = (zs[j]).2 := ⟨_, rfl⟩
    obtain ⟨Z, hZ⟩ : ∃ Z, Z = (zs[j + 1]).2 := ⟨_, rfl⟩
    obtain ⟨q1, q2, q3⟩ := ok2 _ (List.getElem_mem (show j < zs.length by omega))
    obtain ⟨r1, r2, r3⟩ := ok2 _ (List.getElem_mem hj)
    rw [← hA] at q1 q2 q3
    rw [← hZ] at r1 r2 r3
    -- the tree of both
    obtain ⟨W, hW, oW, lW, vW⟩ : ∃ W : Tr, (∀ G', Same G2 G' → G' p3 = some (.tup [wd, zs[j].1, zs[j + 1].1]) → TrAt K G' (.ref p3) W) ∧ W.ok ∧ W.le (top * sc) ∧ W.lv = A.lv + Z.lv := by
      rcases cw with ⟨_, rfl⟩ | ⟨_, rfl⟩
      · exact ⟨.or A Z, fun G' s h => ⟨p3, _, _, rfl, SqT.of h, q1.mono (Tups.same s), r1.mono (Tups.same s)⟩, ⟨q2, r2⟩, ⟨q3, r3⟩, rfl⟩
      · exact ⟨.and A Z, fun G' s h => ⟨p3, _, _, rfl, SqT.of h, q1.mono (Tups.same s), r1.mono (Tups.same s)⟩, ⟨q2, r2⟩, ⟨q3, r3⟩, rfl⟩
    have hp3' := (e4.trans (e5.trans (e6.trans e7))) p3 _ upd_same
    refine ⟨zs.take j ++ [(.ref p3, W)] ++ zs.drop (j + 2), p7, _, rfl, ?_, ?_, ?_, ?_, ?_, ?_, B3.same all, kp2.trans (Kp.of all), ?_⟩
    · cases e : H p7 with
      | none => rfl
      | some o =>
        have z1 := (kp2.trans (Kp.of (e35.trans e6))) p7 o e
        by_cases hb : p7 = b
        · obtain ⟨ys, hb'⟩ := (B3.same (e35.trans e6)).at
          rw [hb, hb'] at hp7
          cases hp7
        · rw [z1 hb] at hp7
          cases hp7
    · rw [upd_same, List.map_append, List.map_append, List.map_take, List.map_drop]
      rfl
    · intro z hz
      rcases List.mem_append.mp hz with hz | hz
      · rcases List.mem_append.mp hz with hz | hz
        · exact (ok2.mono (Tups.same all)) z (List.mem_of_mem_take hz)
        · rw [List.mem_singleton.mp hz]
          exact ⟨hW _ all hp3', oW, lW⟩
      · exact (ok2.mono (Tups.same all)) z (List.mem_of_mem_drop hz)
    · have e0 : Ps.lvs zs = Ps.lvs (zs.take j) + (A.lv + (Z.lv + Ps.lvs (zs.drop (j + 2)))) := by
        conv => lhs; rw [split2 hj, Ps.lvs_app]
        rw [hA, hZ]
        rfl
      have e1 : Ps.lvs [((.ref p3 : V), W)] = W.lv := by show W.lv + 0 = W.lv; omega
      rw [Ps.lvs_app, Ps.lvs_app, e1, vW]
      omega
    all_goals
      rw [List.length_append, List.length_append, List.length_take, List.length_drop, List.length_singleton]
      omega
  · -- one is left
    obtain ⟨⟨v, T⟩, rfl⟩ : ∃ z, zs = [z] := by
      cases zs with
      | nil => exact absurd l1 (by decide)
      | cons z r =>
        cases r with
        | nil => exact ⟨z, rfl⟩
        | cons y r => exact absurd (by rw [List.length_cons, List.length_cons]; omega) c
    obtain ⟨a1, a2, a3⟩ := ok (v, T) (List.mem_singleton.mpr rfl)
    have e : T.lv = many.toNat := hv
    exact ⟨_, rfl, .inl ⟨D, _, 0, v, rfl, rfl, SqL.of hz, rfl, k v T G a1 a2 a3 (by omega) B1 k1⟩⟩
end
end Pk
set_option Elab.async false
set_option linter.all false
set_option maxRecDepth 100000
set_option maxHeartbeats 2000000
namespace Pk
open PySem PySem.Spec L2 PyProof.Rows
section
variable {K : PySem.W.Frag} {C : Cs} {vs : List V} {H H' : Hp} {Q : VK} {E : XK} {n : Nat}
theorem RuleAt.kpB {v : V} {T : Tr} {b l : Addr} (h : RuleAt K C H v T) (B : Bag H b l) (k : Kp b H H') : RuleAt K C H' v T := by
  obtain ⟨ys, hb⟩ := B.at
  exact h.kp k hb
def sp_law_made (K : PySem.W.Frag) (C : Cs) (n : Nat) : Sp := fun vs H Q _ => ∃ b l v T, vs = [.ref b, v] ∧ Bag H b l ∧ TrAt K H v T ∧ T.ok ∧ T.lv ≤ 6 ∧ T.dp ≤ n ∧ FxRule K C ∧ ∀ x H', RuleAt K C H' x T → Bag H' b l → Kp b H H' → Q x H'
def t_law_made (K : PySem.W.Frag) (C : Cs) (n : Nat) : TS :=
  (tSeq (tAsg (tVar 1) (gTup K 3 (gCons (gName 2) (gCons (gName 3) (gCons (gName 4) gNil)))))
    (tSeq (tIfS (tTest (tOp (rEqU K) (tCall (sp_law_take K) [] E0 (tCons (tVar 0) (tCons (tC (.int 2)) tNil))) (tC (.int 0)))) (tRet (tMake C.Rule (sp_Rule___init__ K C) [] E0 (tCons (tVar 1) tNil))) tNext)
    (tSeq (tIfS (tTest (tOp (rEqU K) (tVar 2) (tC (.str "at")))) (tRet (tIf (tTest (tOp (rEqU K) (tVar 4) (tC (.int 1)))) (tCall (sp_at_least K C) [.int 1] E0 (tCons (tVar 3) tNil)) (tCall (sp_at_least K C) [] E0 (tCons (tVar 3) (tCons (tVar 4) tNil))))) tNext)
    (tSeq (tPar 5 6 (tCons (tCall (sp_law_made K C n) [] E0 (tCons (tVar 0) (tCons (tVar 3) tNil))) (tCons (tCall (sp_law_made K C n) [] E0 (tCons (tVar 0) (tCons (tVar 4) tNil))) tNil)))
    (tRet (tIf (tTest (tOp (rEqU K) (tVar 2) (tC (.str "or")))) (tOp (rOwnB C.Rule (sp_Rule___or__ K C) E0) (tVar 5) (tVar 6)) (tOp (rOwnB C.Rule (sp_Rule___and__ K C) E0) (tVar 5) (tVar 6))))))))
theorem no_law_made (h : sp_law_made K C 0 vs H Q E) : False := by
  obtain ⟨_, _, _, T, _, _, _, _, _, h, _⟩ := h
  have := T.dp_pos
  omega
theorem ln_law_made (h : sp_law_made K C n vs H Q E) : vs.length = 2 := by obtain ⟨_, _, _, _, rfl, _⟩ := h; rfl
theorem rd_law_made (h : sp_law_made K C (n + 1) vs H Q E) : t_law_made K C n (EndsOf Q) (start ["", "", "", "", "", "", ""] vs) H := by
  obtain ⟨b, l, v, T, rfl, B, hT, ok, l6, hd, fx, k⟩ := h
  obtain ⟨a, w, x, y, rfl, s, cw⟩ := hT.tuple
  refine ⟨_, rfl, g3 s ?_⟩
  refine ⟨_, rfl, b, l, 2, rfl, B, by decide, by decide, fun r G r0 r1 B1 k1 => .inl ⟨rfl, _, rfl, ?_⟩⟩
  have tt := B.tups (K := K) k1
  refine ifI (fun _ => ?_) (fun _ => ?_)
  · refine ⟨_, rfl, make_rule (t := tNil) (σ := []) fx ok l6 (hT.mono tt) fun x H' hx s2 r => k (.ref x) H' r (B1.same s2) (k1.trans (Kp.of s2))⟩
  refine ⟨_, rfl, .inl ⟨rfl, _, rfl, ?_⟩⟩
  have two : ∀ {A Z : Tr} {w : Str}, T.ok → max A.dp Z.dp + 1 ≤ n + 1 → A.lv + Z.lv ≤ 6 → A.ok → Z.ok → TrAt K H x A → TrAt K H y Z → ((w = "or" ∧ T = .or A Z) ∨ (w = "and" ∧ T = .and A Z)) →
      tSeq (tPar 5 6 (tCons (tCall (sp_law_made K C n) [] E0 (tCons (tVar 0) (tCons (tVar 3) tNil))) (tCons (tCall (sp_law_made K C n) [] E0 (tCons (tVar 0) (tCons (tVar 4) tNil))) tNil)))
        (tRet (tIf (tTest (tOp (rEqU K) (tVar 2) (tC (.str "or")))) (tOp (rOwnB C.Rule (sp_Rule___or__ K C) E0) (tVar 5) (tVar 6)) (tOp (rOwnB C.Rule (sp_Rule___and__ K C) E0) (tVar 5) (tVar 6)))) (EndsOf Q)
        [some (.ref b), some (.ref a), some (.str w), some x, some y, none, none] G := by
    intro A Z w _ hd' l6 oA oZ hA hZ c
    refine ⟨_, rfl, _, rfl, b, l, x, A, rfl, B1, hA.mono tt, oA, by omega, by omega, fx, fun u G1 R1 B2 k2 => ?_⟩
    refine ⟨_, rfl, _, rfl, b, l, y, Z, rfl, B2, (hZ.mono tt).mono (B1.tups k2), oZ, by omega, by omega, fx, fun z G2 R2 B3 k3 => ⟨_, _, rfl, ?_⟩⟩
    have R1' := R1.kpB B2 k3
    have kk := k1.trans (k2.trans k3)
    obtain ⟨ru, du, xu, rfl, hu, ru'⟩ := id R1'
    obtain ⟨rz, dz, xz, rfl, hz, rz'⟩ := id R2
    refine ⟨_, rfl, .inl ⟨rfl, _, rfl, ?_⟩⟩
    rcases c with ⟨rfl, rfl⟩ | ⟨rfl, rfl⟩
    · refine ifS (fun _ => ?_) (fun z => absurd rfl z)
      exact ⟨_, rfl, _, rfl, ru, rz, du, _, dz, _, rfl, rfl, hu, hz, _, _, A, Z, rfl, R1', R2, l6, fun q G3 hq s3 R3 => k _ G3 R3 (B3.same s3) (kk.trans (Kp.of s3))⟩
    · refine ifS (fun z => absurd z and_or) (fun _ => ?_)
      exact ⟨_, rfl, _, rfl, ru, rz, du, _, dz, _, rfl, rfl, hu, hz, _, _, A, Z, rfl, R1', R2, l6, fun q G3 hq s3 R3 => k _ G3 R3 (B3.same s3) (kk.trans (Kp.of s3))⟩
  rcases cw with ⟨rfl, t, q, rfl, rfl, rfl⟩ | ⟨rfl, A, Z, rfl, hA, hZ⟩ | ⟨rfl, A, Z, rfl, hA, hZ⟩
  · refine ifS (fun _ => ?_) (fun z => absurd rfl z)
    refine ⟨_, rfl, .inl ⟨rfl, _, rfl, ?_⟩⟩
    refine ifI (fun e => ?_) (fun _ => ?_)
    · subst e
      exact ⟨_, rfl, t, 1, rfl, ok, fx, fun x G1 hx s2 r => k _ G1 r (B1.same s2) (k1.trans (Kp.of s2))⟩
    · exact ⟨_, rfl, _, rfl, t, q, rfl, ok, fx, fun x G1 hx s2 r => k _ G1 r (B1.same s2) (k1.trans (Kp.of s2))⟩
  · refine ifS (fun z => absurd z or_at) (fun _ => ?_)
    exact two ok hd l6 ok.1 ok.2 hA hZ (.inl ⟨rfl, rfl⟩)
  · refine ifS (fun z => absurd z and_at) (fun _ => ?_)
    exact two ok hd l6 ok.1 ok.2 hA hZ (.inr ⟨rfl, rfl⟩)
/-! ### amounts near the thresholds -/
def imax (i j : Int) : Int := if j > i then j else i
def Tr.tops : Tr → List Int
  | .at t q => [imax t q]
  | .or a b => tops a ++ tops b
  | .and a b => tops a ++ tops b
theorem Tr.tops_len : ∀ T : Tr, T.tops.length = T.lv
  | .at _ _ => rfl
  | .or a b => by show (tops a ++ tops b).length = _; rw [List.length_append, tops_len a, tops_len b]; rfl
  | .and a b => by show (tops a ++ tops b).length = _; rw [List.length_append, tops_len a, tops_len b]; rfl
theorem Tr.tops_ok : ∀ {T : Tr}, T.ok → ∀ i ∈ T.tops, 1 ≤ i ∧ i ≤ 10 ^ 50
  | .at t q, h, i, hi => by
    obtain ⟨h1, h2, h3, h4⟩ := h
    rw [List.mem_singleton.mp hi]
    unfold imax
    split <;> omega
  | .or a b, h, i, hi => (List.mem_append.mp hi).elim (tops_ok h.1 i) (tops_ok h.2 i)
  | .and a b, h, i, hi => (List.mem_append.mp hi).elim (tops_ok h.1 i) (tops_ok h.2 i)
def sp_law_bounds (K : PySem.W.Frag) (n : Nat) : Sp := fun vs H Q _ => ∃ v T, vs = [v] ∧ TrAt K H v T ∧ T.dp ≤ n ∧ T.lv ≤ 100 ∧ ∀ p H', H p = none → Same H H' → H' p = some (.lst (T.tops.map V.int)) → Q (.ref p) H'
def t_law_bounds (K : PySem.W.Frag) (n : Nat) : TS :=
  (tSeq (tAsg (tVar 0) (gTup K 3 (gCons (gName 1) (gCons (gName 2) (gCons (gName 3) gNil)))))
    (tRet (tIf (tTest (tOp (rEqU K) (tVar 1) (tC (.str "at")))) (tLst (tCons (tCB (rMax2) (tCons (tVar 2) (tCons (tVar 3) tNil))) tNil)) (tOp (rAddU K) (tCall (sp_law_bounds K n) [] E0 (tCons (tVar 2) tNil)) (tCall (sp_law_bounds K n) [] E0 (tCons (tVar 3) tNil))))))
theorem no_law_bounds (h : sp_law_bounds K 0 vs H Q E) : False := by
  obtain ⟨_, T, _, _, h, _⟩ := h
  have := T.dp_pos
  omega
theorem ln_law_bounds (h : sp_law_bounds K n vs H Q E) : vs.length = 1 := by obtain ⟨_, _, rfl, _⟩ := h; rfl
theorem rd_law_bounds (h : sp_law_bounds K (n + 1) vs H Q E) : t_law_bounds K n (EndsOf Q) (start ["", "", "", ""] vs) H := by
  obtain ⟨v, T, rfl, hT, hd, hl, k⟩ := h
  obtain ⟨a, w, x, y, rfl, s, cw⟩ := hT.tuple
  refine ⟨_, rfl, g3 s ?_⟩
  refine ⟨_, rfl, .inl ⟨rfl, _, rfl, ?_⟩⟩
  have two : ∀ {A B : Tr}, T.tops = A.tops ++ B.tops → T.lv = A.lv + B.lv → max A.dp B.dp + 1 ≤ n + 1 → TrAt K H x A → TrAt K H y B →
      tOp (rAddU K) (tCall (sp_law_bounds K n) [] E0 (tCons (tVar 2) tNil)) (tCall (sp_law_bounds K n) [] E0 (tCons (tVar 3) tNil)) [some (.ref a), some (.str w), some x, some y] H Q := by
    intro A B e1 e2 hd' hA hB
    refine ⟨_, rfl, x, A, rfl, hA, by omega, by omega, fun p H1 hp s1 h1 => ?_⟩
    refine ⟨_, rfl, y, B, rfl, hB.mono (Tups.same s1), by omega, by omega, fun p2 H2 hp2 s2 h2 => ?_⟩
    refine .inr (.inr (.inl ⟨p, p2, _, _, rfl, rfl, s2 _ _ h1, h2, ?_, fun r hr => ?_⟩))
    · rw [List.length_map, List.length_map, A.tops_len, B.tops_len]
      exact Nat.le_of_lt (small1000 (by omega))
    · refine k r _ ((s1.trans s2).free hr) ((s1.trans s2).trans (same_new hr)) ?_
      rw [upd_same, e1, List.map_append]
  rcases cw with ⟨rfl, t, q, rfl, rfl, rfl⟩ | ⟨rfl, A, B, rfl, hA, hB⟩ | ⟨rfl, A, B, rfl, hA, hB⟩
  · refine ifS (fun _ => ?_) (fun z => absurd rfl z)
    exact ⟨_, rfl, _, rfl, _, _, rfl, two_fit.1, fun p hp => k p _ hp (same_new hp) upd_same⟩
  · refine ifS (fun z => absurd z or_at) (fun _ => ?_)
    exact two rfl rfl hd hA hB
  · refine ifS (fun z => absurd z and_at) (fun _ => ?_)
    exact two rfl rfl hd hA hB
theorem pick3 {x y z : V} {v : Int} (h0 : 0 ≤ v) (h1 : v < 3) : ∃ u, atI [x, y, z] v = some u ∧ (u = x ∨ u = y ∨ u = z) := by
  rcases (by omega : v = 0 ∨ v = 1 ∨ v = 2) with rfl | rfl | rfl
  · exact ⟨x, rfl, .inl rfl⟩
  · exact ⟨y, rfl, .inr (.inl rfl)⟩
  · exact ⟨z, rfl, .inr (.inr rfl)⟩
theorem kp_keep {b p : Addr} {xs : List V} (k : Kp b H H') (h : H p = some (.lst xs)) (n : p ≠ b) : H' p = some (.lst xs) := k p _ h n
/-- a number of amounts, none below nought -/
def sp_law_amounts (K : PySem.W.Frag) : Sp := fun vs H Q _ => ∃ b l v T many, vs = [.ref b, v, .int many] ∧ Bag H b l ∧ TrAt K H v T ∧ T.ok ∧ T.lv ≤ 6 ∧ 0 ≤ many ∧ many ≤ 100 ∧
  ∀ (p : Addr) (ns : List Int) (H' : Hp), H p = none → H' p = some (.lst (ns.map V.int)) → ns.length = many.toNat + 2 → (∀ i ∈ ns, 0 ≤ i ∧ i ≤ 10 ^ 60) → Bag H' b l → Kp b H H' → Q (.ref p) H'
def t_law_amounts (K : PySem.W.Frag) : TS :=
  (tSeq (tPar 3 4 (tCons (tCall (sp_law_bounds K 7) [] E0 (tCons (tVar 1) tNil)) (tCons (tLst (tCons (tC (.int 0)) (tCons (tC (.int 1)) tNil))) tNil)))
    (tSeq (tFor (iRng1 (tCons (tVar 2) tNil)) (gName 5) (tSeq (tAsg (tOp (rSubI) (tOp (rAddU K) (tOp (rIx K) (tVar 3) (tCall (sp_law_take K) [] E0 (tCons (tVar 0) (tCons (tCB (rLenU K) (tCons (tVar 3) tNil)) tNil)))) (tCall (sp_law_take K) [] E0 (tCons (tVar 0) (tCons (tC (.int 70)) tNil)))) (tC (.int 9))) (gName 6))
    (tDrop (tBM K "list" rAppend (tVar 4) (tCons (tOp (rIx K) (tLst (tCons (tCB (rMax2) (tCons (tC (.int 0)) (tCons (tVar 6) tNil))) (tCons (tCall (sp_law_take K) [] E0 (tCons (tVar 0) (tCons (tOp (rPowI) (tC (.int 10)) (tC (.int 30))) tNil))) (tCons (tCall (sp_law_take K) [] E0 (tCons (tVar 0) (tCons (tC (.int 80)) tNil))) tNil)))) (tCall (sp_law_take K) [] E0 (tCons (tVar 0) (tCons (tC (.int 3)) tNil)))) tNil)))))
    (tRet (tVar 4))))
theorem ln_law_amounts (h : sp_law_amounts K vs H Q E) : vs.length = 3 := by obtain ⟨_, _, _, _, _, rfl, _⟩ := h; rfl
theorem rd_law_amounts (h : sp_law_amounts K vs H Q E) : t_law_amounts K (EndsOf Q) (start ["", "", "", "", "", "", ""] vs) H := by
  obtain ⟨b, l, v, T, many, rfl, B, hT, ok, l6, m0, m1, k⟩ := h
  refine ⟨_, rfl, v, T, rfl, hT, Tr.dp6 l6, by omega, fun p H1 hp s1 h1 => ?_⟩
  refine ⟨two_fit.2.1, fun f hf => ⟨_, _, rfl, ?_⟩⟩
  have s2 := same_new (o := .lst [.int 0, .int 1]) hf
  have s12 := s1.trans s2
  have nb : ∀ {D : Addr}, H D = none → D ≠ b := fun h => B.nb h
  have hf0 : H f = none := s1.free hf
  have hp2 := s2 _ _ h1
  have hf2 : (upd H1 f (.lst [.int 0, .int 1])) f = some (.lst [.int 0, .int 1]) := upd_same
  have npf : p ≠ f := ne_of_none h1 hf
  generalize upd H1 f (.lst [.int 0, .int 1]) = G at s12 hp2 hf2 ⊢
  refine ⟨_, rfl, many, rfl, by omega, by omega, ?_⟩
  refine for_range (lo := 0) (n := many.toNat) (fun i σ' G' => ∃ (c1 c2 : Option V) (ns : List Int), σ' = [some (.ref b), some v, some (.int many), some (.ref p), some (.ref f), c1, c2] ∧ Bag G' b l ∧ Kp b H G' ∧ G' p = some (.lst (T.tops.map V.int)) ∧
    G' f = some (.lst (ns.map V.int)) ∧ ns.length = i + 2 ∧ ∀ z ∈ ns, 0 ≤ z ∧ z ≤ 10 ^ 60) ⟨none, none, [0, 1], rfl, B.same s12, Kp.of s12, hp2, hf2, rfl, ?_⟩ ?_ ?_
  · intro z hz
    rcases List.mem_cons.mp hz with rfl | hz
    · decide
    · rw [List.mem_singleton.mp hz]; decide
  · rintro i σ' G' hi ⟨c1, c2, ns, rfl, B1, k1, hp1, hf1, hl, hn⟩
    refine ⟨_, rfl, _, rfl, _, rfl, .inl ⟨_, _, rfl, .inl ⟨_, SqL.of hp1, rfl⟩, ?_⟩⟩
    have tl := T.tops_len
    have lp := T.lv_pos
    rw [List.length_map, tl]
    refine ⟨b, l, _, rfl, B1, by omega, by omega, fun j G1 j0 j1 B2 k2 => ?_⟩
    have hp2 := k2 p _ hp1 (nb hp)
    have hj : j.toNat < T.tops.length := by omega
    have g : (T.tops.map V.int)[j.toNat]? = some (.int (T.tops[j.toNat])) := by rw [List.getElem?_map, List.getElem?_eq_getElem hj]; rfl
    obtain ⟨t1, t2⟩ := Tr.tops_ok ok _ (List.getElem_mem hj)
    generalize T.tops[j.toNat] = tj at g t1 t2
    refine .inl ⟨p, _, j, .int tj, rfl, rfl, SqL.of hp2, at_of (by omega) g, ?_⟩
    refine ⟨_, rfl, b, l, 70, rfl, B2, by decide, by decide, fun r G2 r0 r1 B3 k3 => .inl ⟨_, _, rfl, rfl, _, _, rfl, rfl, ?_⟩⟩
    have k13 := k1.trans (k2.trans k3)
    have hf3 := k3 f _ (k2 f _ hf1 (nb hf0)) (nb hf0)
    have hp3 := k3 p _ hp2 (nb hp)
    -- found.append(..)
    refine ⟨_, rfl, .inl ⟨rfl, _, SqL.of hf3⟩, _, rfl, _, _, rfl, _, rfl, _, _, rfl, rfl, ⟨by decide, by decide, by decide⟩, ?_⟩
    refine ⟨b, l, _, rfl, B3, by decide, by decide, fun y1 G3 y0 y2 B4 k4 => ?_⟩
    refine ⟨_, rfl, b, l, 80, rfl, B4, by decide, by decide, fun y3 G4 y4 y5 B5 k5 => ⟨two_fit.2.2.1, fun q hq => ?_⟩⟩
    refine ⟨_, rfl, b, l, 3, rfl, B5.same (same_new hq), by decide, by decide, fun y6 G5 y7 y8 B6 k6 => ?_⟩
    have nq : q ≠ b := B5.nb hq
    have hq5 := k6 q _ upd_same nq
    obtain ⟨u, hu, cu⟩ := pick3 (x := .int (if tj + r - 9 > 0 then tj + r - 9 else 0)) (y := .int y1) (z := .int y3) y7 y8
    refine .inl ⟨q, _, y6, u, rfl, rfl, SqL.of hq5, hu, ?_⟩
    have k46 := k4.trans (k5.trans ((kp_new hq).trans k6))
    have hf6 := k46 f _ hf3 (nb hf0)
    have hp6 := k46 p _ hp3 (nb hp)
    refine ⟨f, _, u, rfl, rfl, hf6, small1000 (by rw [List.length_map]; omega), ?_⟩
    have e10 : (10 : Int) ^ (30 : Int).toNat = 10 ^ 30 := rfl
    have lim : (10 : Int) ^ 30 ≤ 10 ^ 60 := by decide
    have lim2 : (10 : Int) ^ 50 + 100 ≤ 10 ^ 60 := by decide
    obtain ⟨z, rfl, hz⟩ : ∃ z, u = .int z ∧ 0 ≤ z ∧ z ≤ 10 ^ 60 := by
      rcases cu with rfl | rfl | rfl
      · refine ⟨_, rfl, ?_⟩
        split <;> omega
      · exact ⟨_, rfl, y0, by rw [e10] at y2; omega⟩
      · exact ⟨_, rfl, y4, by omega⟩
    refine ⟨_, _, ns ++ [z], rfl, (B6).put (nb hf0).symm (B.nl hf0).symm, (k13.trans k46).other hf0, by rw [upd_ne npf]; exact hp6, ?_, ?_, ?_⟩
    · rw [upd_same, List.map_append]; rfl
    · rw [List.length_append, hl]; rfl
    · intro y hy
      rcases List.mem_append.mp hy with hy | hy
      · exact hn y hy
      · rw [List.mem_singleton.mp hy]; exact hz
  · rintro σ' G' ⟨c1, c2, ns, rfl, B1, k1, hp1, hf1, hl, hn⟩
    exact ⟨_, rfl, k f ns G' hf0 hf1 hl hn B1 k1⟩
end
end Pk
set_option Elab.async false
set_option linter.all false
set_option maxRecDepth 100000
set_option maxHeartbeats 2000000
namespace Pk
open PySem PySem.Spec L2 PyProof.Rows
/-- the law: of a list of at most 63 ints it gives True -/
def sp_law (K : PySem.W.Frag) : Sp := fun vs H Q _ => ∃ (a : Addr) (ns : List Int), vs = [.ref a] ∧ SqL K H a (ns.map V.int) ∧ ns.length ≤ 63 ∧ ∀ H', Q (.bl true) H'
theorem ln_law {K : PySem.W.Frag} {vs : List V} {H : Hp} {Q : VK} {E : XK} (h : sp_law K vs H Q E) : vs.length = 1 := by obtain ⟨_, _, rfl, _⟩ := h; rfl
/-! ### data that is shown -/
theorem small_log {n : Int} (h : n.natAbs ≤ 10 ^ 100) : decide (n.natAbs.log2 < 1920) = true := by
  refine decide_eq_true ?_
  have h2 : n.natAbs < 2 ^ 1920 := by
    have z2 : (10 : Nat) ^ 100 < 2 ^ 1920 := by decide +kernel
    omega
  by_cases e : n.natAbs = 0
  · rw [e]; decide
  · exact (Nat.log2_lt e).mpr h2
theorem good_int {n : Int} (h : n.natAbs ≤ 10 ^ 100) : Good (.int n) := ⟨rfl, small_log h, by simp [siz]⟩
theorem good_bool (b : Bool) : Good (.bool b) := ⟨rfl, rfl, by cases b <;> decide⟩
theorem good_none : Good .none := ⟨rfl, rfl, by decide⟩
theorem shaped_iff {d : PyData} : SeqAt.shaped d = true ↔ d.canLay0 = true ∧ d.depth ≤ 64 := by
  constructor
  · intro h; exact ⟨SeqAt.canLay_of_shaped h, SeqAt.depth_of_shaped h⟩
  · rintro ⟨h1, h2⟩
    show (d.canLay0 && decide (d.depth ≤ 64)) = true
    rw [h1, decide_eq_true h2]; rfl
/-- items of a list or tuple: each one good to a depth and a size -/
structure GoodTo (n m : Nat) (d : PyData) : Prop where
  lay : d.canLay0 = true
  dep : d.depth ≤ n
  wr : d.showable = true
  sz : siz d ≤ m
theorem GoodTo.good {n m : Nat} {d : PyData} (g : GoodTo n m d) (h1 : n ≤ 64 := by decide) (h2 : m ≤ 16000000 := by decide) : Good d :=
  ⟨shaped_iff.mpr ⟨g.lay, Nat.le_trans g.dep h1⟩, g.wr, Nat.le_trans g.sz h2⟩
theorem GoodTo.mono {n m n' m' : Nat} {d : PyData} (g : GoodTo n m d) (h1 : n ≤ n' := by omega) (h2 : m ≤ m' := by omega) : GoodTo n' m' d := ⟨g.lay, Nat.le_trans g.dep h1, g.wr, Nat.le_trans g.sz h2⟩
theorem gt_int {n : Int} (h : n.natAbs ≤ 10 ^ 100) : GoodTo 0 2000 (.int n) := ⟨rfl, by simp [PyData.depth], small_log h, by simp [siz]⟩
theorem gt_bool (b : Bool) : GoodTo 0 8 (.bool b) := ⟨rfl, by simp [PyData.depth], rfl, by simp [siz]⟩
theorem gt_none : GoodTo 0 8 .none := ⟨rfl, by simp [PyData.depth], rfl, by simp [siz]⟩
theorem gt_tree {T : Tr} (h : T.ok) : GoodTo T.lv (5000 * T.lv) T.pd := ⟨T.pd_lay, Nat.le_trans T.pd_depth T.dp_le, T.pd_show h, by have := T.pd_siz; omega⟩
/-- all items of a list good -/
structure AllTo (n m : Nat) (ds : List PyData) : Prop where
  lay : PyData.canLayAll0 ds = true
  dep : PyData.depthAll ds ≤ n
  wr : PyData.showableAll ds = true
  sz : sizL ds ≤ m
theorem at_nil : AllTo 0 0 [] := ⟨rfl, by simp [PyData.depthAll], rfl, by simp [sizL]⟩
theorem at_cons {n m k j : Nat} {d : PyData} {ds : List PyData} (g : GoodTo n m d) (a : AllTo k j ds) : AllTo (max n k) (m + 4 + j) (d :: ds) := by
  refine ⟨?_, ?_, ?_, ?_⟩
  · simp only [PyData.canLayAll0, g.lay, a.lay, Bool.and_self]
  · have h1 := g.dep
    have h2 := a.dep
    simp only [PyData.depthAll]
    omega
  · simp only [PyData.showableAll, g.wr, a.wr, Bool.and_self]
  · have h1 := g.sz
    have h2 := a.sz
    simp only [sizL]
    omega
theorem gt_list {n m : Nat} {ds : List PyData} (a : AllTo n m ds) : GoodTo (n + 1) (8 + m) (.list ds) := by
  refine ⟨?_, ?_, ?_, ?_⟩
  · simp only [PyData.canLay0]; exact a.lay
  · have := a.dep
    simp only [PyData.depth]; omega
  · simp only [PyData.showable]; exact a.wr
  · have := a.sz
    simp only [siz]; omega
theorem gt_tuple {n m : Nat} {ds : List PyData} (a : AllTo n m ds) : GoodTo (n + 1) (8 + m) (.tuple ds) := by
  refine ⟨?_, ?_, ?_, ?_⟩
  · simp only [PyData.canLay0]; exact a.lay
  · have := a.dep
    simp only [PyData.depth]; omega
  · simp only [PyData.showable]; exact a.wr
  · have := a.sz
    simp only [siz]; omega
theorem Tr.give_le : ∀ {T : Tr} {i : Int}, T.ok → 0 ≤ i → 0 ≤ T.give i ∧ T.give i ≤ i
  | .at t q, i, h, h0 => by
    obtain ⟨h1, h2, h3, h4⟩ := h
    show 0 ≤ (if t ≤ i then i - i % q else 0) ∧ (if t ≤ i then i - i % q else 0) ≤ i
    have e1 := Int.emod_nonneg i (show q ≠ 0 by omega)
    have e2 : 0 ≤ q * (i / q) := Int.mul_nonneg (by omega) (Int.ediv_nonneg h0 (by omega))
    have e3 := Int.emod_def i q
    split <;> omega
  | .or a b, i, h, h0 => by
    have q1 := give_le h.1 h0
    have q2 := give_le h.2 h0
    rw [Tr.give_or]
    split <;> omega
  | .and a b, i, h, h0 => by
    have q1 := give_le h.1 h0
    have q2 := give_le h.2 h0
    rw [Tr.give_and]
    split <;> omega
/-! ### the drawn scale -/
theorem scale_text : ∀ n : Nat, n < 31 → PySem.intText? ("1" ++ Txt.mul "0" (n : Int)) = some (10 ^ n) ∧ (("1" : Str) ++ Txt.mul "0" (n : Int)).length ≤ 640 ∧ (Txt.mul "0" (n : Int)).length ≤ 100 := by decide +kernel
end Pk
set_option Elab.async false
set_option linter.all false
set_option maxRecDepth 100000
set_option maxHeartbeats 2000000
namespace Pk
open PySem PySem.Spec L2 PyProof.Rows
section
variable {K : PySem.W.Frag} {C : Cs} {vs : List V} {H H' G G' : Hp} {Q : VK} {E : XK} {n : Nat}
theorem Kp.free {b D : Addr} {ys : List V} (k : Kp b H G) (hb : G b = some (.lst ys)) (h : G D = none) : H D = none := by
  cases e : H D with
  | none => rfl
  | some o =>
    by_cases q : D = b
    · rw [q, hb] at h; cases h
    · rw [k D o e q] at h; cases h
theorem Kp.freeB {b l D : Addr} (k : Kp b H G) (B : Bag G b l) (h : G D = none) : H D = none := by
  obtain ⟨ys, hb⟩ := B.at
  exact k.free hb h
/-- scale = int('1' + '0' * take(bag, 31)) -/
theorem scale_asg {i j : Nat} {D : Ends} {σ : L2.St} {b l : Addr} (hv : σ[i]? = some (some (.ref b))) (B : Bag H b l) (k : ∀ sc H', 1 ≤ sc → sc ≤ 10 ^ 30 → Bag H' b l → Kp b H H' → D.nx (σ.set j (some (.int sc))) H') :
    tAsg (tCB (rIntU) (tCons (tOp (rAddU K) (tC (.str "1")) (tOp (rMulU K) (tC (.str "0")) (tCall (sp_law_take K) [] E0 (tCons (tVar i) (tCons (tC (.int 31)) tNil))))) tNil)) (gName j) D σ H := by
  refine ⟨_, hv, b, l, 31, rfl, B, by decide, by decide, fun e H2 e0 e1 B1 k1 => ?_⟩
  obtain ⟨m, rfl⟩ : ∃ m : Nat, e = (m : Int) := ⟨e.toNat, by omega⟩
  obtain ⟨q1, q2, q3⟩ := scale_text m (by omega)
  refine .inr (.inl ⟨_, _, rfl, rfl, by decide, by omega, by omega, .inr (.inl ⟨_, _, rfl, rfl, ?_, .inr ⟨_, _, rfl, q1, q2, ?_⟩⟩)⟩)
  · have e : ((Str.ofString "1").length) = 1 := rfl
    exact Nat.le_of_lt (small1000 (by omega))
  have sc1 : (1 : Int) ≤ 10 ^ m := Int.pow_pos (by decide)
  have sc2 : (10 : Int) ^ m ≤ 10 ^ 30 := by
    have h := Nat.pow_le_pow_right (n := 10) (by decide) (show m ≤ 30 by omega)
    exact_mod_cast h
  exact k _ _ sc1 sc2 B1 k1
/-! ### thresholds -/
def imin (i j : Int) : Int := if j < i then j else i
def Tr.top : Tr → Int
  | .at t q => imax t q
  | .or a b => imin (top a) (top b)
  | .and a b => imax (top a) (top b)
def Tr.by_ : Tr → List Int
  | .at _ q => [q]
  | .or a b => by_ a ++ by_ b
  | .and a b => by_ a ++ by_ b
theorem Tr.by_len : ∀ T : Tr, T.by_.length = T.lv
  | .at _ _ => rfl
  | .or a b => by show (by_ a ++ by_ b).length = _; rw [List.length_append, by_len a, by_len b]; rfl
  | .and a b => by show (by_ a ++ by_ b).length = _; rw [List.length_append, by_len a, by_len b]; rfl
theorem Tr.by_ok : ∀ {T : Tr}, T.ok → ∀ q ∈ T.by_, 1 ≤ q ∧ q ≤ 6
  | .at t q, h, i, hi => by
    obtain ⟨h1, h2, h3, h4⟩ := h
    rw [List.mem_singleton.mp hi]
    exact ⟨h3, h4⟩
  | .or a b, h, i, hi => (List.mem_append.mp hi).elim (by_ok h.1 i) (by_ok h.2 i)
  | .and a b, h, i, hi => (List.mem_append.mp hi).elim (by_ok h.1 i) (by_ok h.2 i)
theorem Tr.top_ok : ∀ {T : Tr}, T.ok → 1 ≤ T.top ∧ T.top ≤ 10 ^ 50
  | .at t q, h => by
    obtain ⟨h1, h2, h3, h4⟩ := h
    show 1 ≤ imax t q ∧ imax t q ≤ 10 ^ 50
    unfold imax
    split <;> omega
  | .or a b, h => by
    have h1 := top_ok h.1
    have h2 := top_ok h.2
    show 1 ≤ imin a.top b.top ∧ imin a.top b.top ≤ 10 ^ 50
    unfold imin
    split <;> omega
  | .and a b, h => by
    have h1 := top_ok h.1
    have h2 := top_ok h.2
    show 1 ≤ imax a.top b.top ∧ imax a.top b.top ≤ 10 ^ 50
    unfold imax
    split <;> omega
/-- [5]: what rests is below the threshold; nothing is given just below it -/
theorem Tr.rest_lt : ∀ {T : Tr} {i : Int}, T.ok → 0 ≤ i → i - T.give i < T.top ∧ (T.give i = 0 ↔ i < T.top)
  | .at t q, i, h, h0 => by
    obtain ⟨h1, h2, h3, h4⟩ := h
    have e1 := Int.emod_nonneg i (show q ≠ 0 by omega)
    have e2 := Int.emod_lt_of_pos i (show 0 < q by omega)
    have eg : (Tr.at t q).give i = if t ≤ i then i - i % q else 0 := rfl
    have et : (Tr.at t q).top = imax t q := rfl
    rw [eg, et]
    unfold imax
    by_cases c : t ≤ i
    · rw [if_pos c]
      have e3 : i < q → i % q = i := fun z => Int.emod_eq_of_lt h0 z
      constructor
      · split <;> omega
      · constructor
        · intro z
          split <;> omega
        · intro z
          split at z
          · have := e3 z; omega
          · omega
    · rw [if_neg c]
      constructor
      · split <;> omega
      · constructor
        · intro _
          split <;> omega
        · intro _; rfl
  | .or a b, i, h, h0 => by
    have q1 := rest_lt h.1 h0
    have q2 := rest_lt h.2 h0
    have g1 := Tr.give_le h.1 h0
    have g2 := Tr.give_le h.2 h0
    have et : (Tr.or a b).top = imin a.top b.top := rfl
    rw [Tr.give_or, et]
    unfold imin
    obtain ⟨r1, s1⟩ := q1
    obtain ⟨r2, s2⟩ := q2
    constructor
    · split <;> split <;> omega
    · constructor
      · intro z
        split at z <;> split <;> omega
      · intro z
        split at z <;> split <;> omega
  | .and a b, i, h, h0 => by
    have q1 := rest_lt h.1 h0
    have q2 := rest_lt h.2 h0
    have g1 := Tr.give_le h.1 h0
    have g2 := Tr.give_le h.2 h0
    have et : (Tr.and a b).top = imax a.top b.top := rfl
    rw [Tr.give_and, et]
    unfold imax
    obtain ⟨r1, s1⟩ := q1
    obtain ⟨r2, s2⟩ := q2
    constructor
    · split <;> split <;> omega
    · constructor
      · intro z
        split at z <;> split <;> omega
      · intro z
        split at z <;> split <;> omega
/-- from the threshold on a remainder by one of the multiples rests -/
theorem Tr.rest_by : ∀ {T : Tr} {i : Int}, T.ok → 0 ≤ i → T.top ≤ i → ∃ q ∈ T.by_, i - T.give i = i % q
  | .at t q, i, h, h0, hi => by
    obtain ⟨h1, h2, h3, h4⟩ := h
    have et : (Tr.at t q).top = imax t q := rfl
    have eg : (Tr.at t q).give i = if t ≤ i then i - i % q else 0 := rfl
    rw [et] at hi
    unfold imax at hi
    refine ⟨q, List.mem_singleton.mpr rfl, ?_⟩
    rw [eg, if_pos (by split at hi <;> omega)]
    omega
  | .or a b, i, h, h0, hi => by
    have q1 := rest_lt h.1 h0
    have q2 := rest_lt h.2 h0
    have g1 := Tr.give_le h.1 h0
    have g2 := Tr.give_le h.2 h0
    have et : (Tr.or a b).top = imin a.top b.top := rfl
    rw [et] at hi
    unfold imin at hi
    rw [Tr.give_or]
    have left : a.top ≤ i → ∃ q ∈ (Tr.or a b).by_, i - a.give i = i % q := fun z => by
      obtain ⟨q, m, e⟩ := rest_by h.1 h0 z
      exact ⟨q, List.mem_append_left _ m, e⟩
    have right : b.top ≤ i → ∃ q ∈ (Tr.or a b).by_, i - b.give i = i % q := fun z => by
      obtain ⟨q, m, e⟩ := rest_by h.2 h0 z
      exact ⟨q, List.mem_append_right _ m, e⟩
    obtain ⟨r1, s1⟩ := q1
    obtain ⟨r2, s2⟩ := q2
    by_cases c : b.give i > a.give i
    · rw [if_pos c]
      exact right (by omega)
    · rw [if_neg c]
      refine left ?_
      split at hi <;> omega
  | .and a b, i, h, h0, hi => by
    have g1 := Tr.give_le h.1 h0
    have g2 := Tr.give_le h.2 h0
    have et : (Tr.and a b).top = imax a.top b.top := rfl
    rw [et] at hi
    unfold imax at hi
    rw [Tr.give_and]
    by_cases c : b.give i < a.give i
    · rw [if_pos c]
      obtain ⟨q, m, e⟩ := rest_by h.2 h0 (show b.top ≤ i by split at hi <;> omega)
      exact ⟨q, List.mem_append_right _ m, e⟩
    · rw [if_neg c]
      obtain ⟨q, m, e⟩ := rest_by h.1 h0 (show a.top ≤ i by split at hi <;> omega)
      exact ⟨q, List.mem_append_left _ m, e⟩
def sp_threshold_of (K : PySem.W.Frag) (n : Nat) : Sp := fun vs H Q _ => ∃ v T, vs = [v] ∧ TrAt K H v T ∧ T.dp ≤ n ∧ Q (.int T.top) H
def t_threshold_of (K : PySem.W.Frag) (n : Nat) : TS :=
  (tSeq (tAsg (tVar 0) (gTup K 3 (gCons (gName 1) (gCons (gName 2) (gCons (gName 3) gNil)))))
    (tSeq (tIfS (tTest (tOp (rEqU K) (tVar 1) (tC (.str "at")))) (tRet (tCB (rMax2) (tCons (tVar 2) (tCons (tVar 3) tNil)))) tNext)
    (tSeq (tIfS (tTest (tOp (rEqU K) (tVar 1) (tC (.str "or")))) (tRet (tCB (rMin2) (tCons (tCall (sp_threshold_of K n) [] E0 (tCons (tVar 2) tNil)) (tCons (tCall (sp_threshold_of K n) [] E0 (tCons (tVar 3) tNil)) tNil)))) tNext)
    (tRet (tCB (rMax2) (tCons (tCall (sp_threshold_of K n) [] E0 (tCons (tVar 2) tNil)) (tCons (tCall (sp_threshold_of K n) [] E0 (tCons (tVar 3) tNil)) tNil)))))))
theorem no_threshold_of (h : sp_threshold_of K 0 vs H Q E) : False := by
  obtain ⟨_, T, _, _, h, _⟩ := h
  have := T.dp_pos
  omega
theorem ln_threshold_of (h : sp_threshold_of K n vs H Q E) : vs.length = 1 := by obtain ⟨_, _, rfl, _⟩ := h; rfl
theorem rd_threshold_of (h : sp_threshold_of K (n + 1) vs H Q E) : t_threshold_of K n (EndsOf Q) (start ["", "", "", ""] vs) H := by
  obtain ⟨v, T, rfl, hT, hd, k⟩ := h
  obtain ⟨a, w, x, y, rfl, s, cw⟩ := hT.tuple
  refine ⟨_, rfl, g3 s ?_⟩
  refine ⟨_, rfl, .inl ⟨rfl, _, rfl, ?_⟩⟩
  rcases cw with ⟨rfl, t, q, rfl, rfl, rfl⟩ | ⟨rfl, A, B, rfl, hA, hB⟩ | ⟨rfl, A, B, rfl, hA, hB⟩
  · refine ifS (fun _ => ?_) (fun z => absurd rfl z)
    exact ⟨_, rfl, _, rfl, _, _, rfl, k⟩
  · refine ifS (fun z => absurd z or_at) (fun _ => ?_)
    refine ⟨_, rfl, .inl ⟨rfl, _, rfl, ?_⟩⟩
    refine ifS (fun _ => ?_) (fun z => absurd rfl z)
    have hd' : max A.dp B.dp + 1 ≤ n + 1 := hd
    exact ⟨_, rfl, x, A, rfl, hA, by omega, _, rfl, y, B, rfl, hB, by omega, _, _, rfl, k⟩
  · refine ifS (fun z => absurd z and_at) (fun _ => ?_)
    refine ⟨_, rfl, .inl ⟨rfl, _, rfl, ?_⟩⟩
    refine ifS (fun z => absurd z and_or) (fun _ => ?_)
    have hd' : max A.dp B.dp + 1 ≤ n + 1 := hd
    exact ⟨_, rfl, x, A, rfl, hA, by omega, _, rfl, y, B, rfl, hB, by omega, _, _, rfl, k⟩
def sp_Rule_threshold (K : PySem.W.Frag) (C : Cs) : Sp := fun vs H Q _ => ∃ v T, vs = [v] ∧ RuleAt K C H v T ∧ Q (.int T.top) H
def t_Rule_threshold (K : PySem.W.Frag) : TS :=
  (tRet (tCall (sp_threshold_of K 7) [] E0 (tCons (tFld K (tVar 0) "_tree") tNil)))
theorem ln_Rule_threshold (h : sp_Rule_threshold K C vs H Q E) : vs.length = 1 := by obtain ⟨_, _, rfl, _⟩ := h; rfl
theorem rd_Rule_threshold (h : sp_Rule_threshold K C vs H Q E) : t_Rule_threshold K (EndsOf Q) (start [""] vs) H := by
  obtain ⟨v, T, rfl, ⟨a, dx, u, rfl, ha, hT, ok, l6, fx⟩, k⟩ := h
  exact ⟨_, rfl, a, _, dx, _, u, rfl, ha, fx.cl, fx.no, rfl, u, T, rfl, hT, Tr.dp6 l6, k⟩
def sp_law_threshold (K : PySem.W.Frag) (n : Nat) : Sp := fun vs H Q _ => ∃ v T, vs = [v] ∧ TrAt K H v T ∧ T.dp ≤ n ∧ ∀ H', Same H H' → Q (.int T.top) H'
def t_law_threshold (K : PySem.W.Frag) (n : Nat) : TS :=
  (tSeq (tAsg (tVar 0) (gTup K 3 (gCons (gName 1) (gCons (gName 2) (gCons (gName 3) gNil)))))
    (tSeq (tIfS (tTest (tOp (rEqU K) (tVar 1) (tC (.str "at")))) (tRet (tCB (rMax2) (tCons (tVar 2) (tCons (tVar 3) tNil)))) tNext)
    (tSeq (tAsg (tLst (tCons (tCall (sp_law_threshold K n) [] E0 (tCons (tVar 2) tNil)) (tCons (tCall (sp_law_threshold K n) [] E0 (tCons (tVar 3) tNil)) tNil))) (gName 4))
    (tRet (tIf (tTest (tOp (rEqU K) (tVar 1) (tC (.str "or")))) (tCB (rMin K) (tCons (tVar 4) tNil)) (tCB (rMax K) (tCons (tVar 4) tNil)))))))
theorem no_law_threshold (h : sp_law_threshold K 0 vs H Q E) : False := by
  obtain ⟨_, T, _, _, h, _⟩ := h
  have := T.dp_pos
  omega
theorem ln_law_threshold (h : sp_law_threshold K n vs H Q E) : vs.length = 1 := by obtain ⟨_, _, rfl, _⟩ := h; rfl
theorem two_max {x y m : Int} (hm : m ∈ [x, y]) (hy : ∀ z, z ∈ [x, y] → z ≤ m) : m = imax x y := by
  have h1 := hy x (List.mem_cons_self ..)
  have h2 := hy y (List.mem_cons_of_mem _ (List.mem_cons_self ..))
  unfold imax
  rcases List.mem_cons.mp hm with rfl | hm
  · split <;> omega
  · have := List.mem_singleton.mp hm
    split <;> omega
theorem two_min {x y m : Int} (hm : m ∈ [x, y]) (hy : ∀ z, z ∈ [x, y] → m ≤ z) : m = imin x y := by
  have h1 := hy x (List.mem_cons_self ..)
  have h2 := hy y (List.mem_cons_of_mem _ (List.mem_cons_self ..))
  unfold imin
  rcases List.mem_cons.mp hm with rfl | hm
  · split <;> omega
  · have := List.mem_singleton.mp hm
    split <;> omega
theorem rd_law_threshold (h : sp_law_threshold K (n + 1) vs H Q E) : t_law_threshold K n (EndsOf Q) (start ["", "", "", "", ""] vs) H := by
  obtain ⟨v, T, rfl, hT, hd, k⟩ := h
  obtain ⟨a, w, x, y, rfl, s, cw⟩ := hT.tuple
  refine ⟨_, rfl, g3 s ?_⟩
  refine ⟨_, rfl, .inl ⟨rfl, _, rfl, ?_⟩⟩
  rcases cw with ⟨rfl, t, q, rfl, rfl, rfl⟩ | ⟨rfl, A, B, rfl, hA, hB⟩ | ⟨rfl, A, B, rfl, hA, hB⟩
  · refine ifS (fun _ => ?_) (fun z => absurd rfl z)
    exact ⟨_, rfl, _, rfl, _, _, rfl, k H (Same.refl H)⟩
  · refine ifS (fun z => absurd z or_at) (fun _ => ?_)
    have hd' : max A.dp B.dp + 1 ≤ n + 1 := hd
    refine ⟨_, rfl, x, A, rfl, hA, by omega, fun H1 s1 => ⟨_, rfl, y, B, rfl, hB.mono (Tups.same s1), by omega, fun H2 s2 => ⟨two_fit.2.1, fun p hp => ?_⟩⟩⟩
    refine ⟨_, rfl, .inl ⟨rfl, _, rfl, ?_⟩⟩
    refine ifS (fun _ => ?_) (fun z => absurd rfl z)
    refine ⟨_, rfl, p, [A.top, B.top], rfl, SqL.of upd_same, Nat.succ_pos _, fun m hm hy => ?_⟩
    rw [two_min hm hy]
    exact k _ ((s1.trans s2).trans (same_new hp))
  · refine ifS (fun z => absurd z and_at) (fun _ => ?_)
    have hd' : max A.dp B.dp + 1 ≤ n + 1 := hd
    refine ⟨_, rfl, x, A, rfl, hA, by omega, fun H1 s1 => ⟨_, rfl, y, B, rfl, hB.mono (Tups.same s1), by omega, fun H2 s2 => ⟨two_fit.2.1, fun p hp => ?_⟩⟩⟩
    refine ⟨_, rfl, .inl ⟨rfl, _, rfl, ?_⟩⟩
    refine ifS (fun z => absurd z and_or) (fun _ => ?_)
    refine ⟨_, rfl, p, [A.top, B.top], rfl, SqL.of upd_same, Nat.succ_pos _, fun m hm hy => ?_⟩
    rw [two_max hm hy]
    exact k _ ((s1.trans s2).trans (same_new hp))
def sp_law_parts_of (K : PySem.W.Frag) (n : Nat) : Sp := fun vs H Q _ => ∃ v T, vs = [v] ∧ TrAt K H v T ∧ T.dp ≤ n ∧ T.lv ≤ 100 ∧ ∀ p H', H p = none → Same H H' → H' p = some (.lst (T.by_.map V.int)) → Q (.ref p) H'
def t_law_parts_of (K : PySem.W.Frag) (n : Nat) : TS :=
  (tSeq (tAsg (tVar 0) (gTup K 3 (gCons (gName 1) (gCons (gName 2) (gCons (gName 3) gNil)))))
    (tRet (tIf (tTest (tOp (rEqU K) (tVar 1) (tC (.str "at")))) (tLst (tCons (tVar 3) tNil)) (tOp (rAddU K) (tCall (sp_law_parts_of K n) [] E0 (tCons (tVar 2) tNil)) (tCall (sp_law_parts_of K n) [] E0 (tCons (tVar 3) tNil))))))
theorem no_law_parts_of (h : sp_law_parts_of K 0 vs H Q E) : False := by
  obtain ⟨_, T, _, _, h, _⟩ := h
  have := T.dp_pos
  omega
theorem ln_law_parts_of (h : sp_law_parts_of K n vs H Q E) : vs.length = 1 := by obtain ⟨_, _, rfl, _⟩ := h; rfl
theorem rd_law_parts_of (h : sp_law_parts_of K (n + 1) vs H Q E) : t_law_parts_of K n (EndsOf Q) (start ["", "", "", ""] vs) H := by
  obtain ⟨v, T, rfl, hT, hd, hl, k⟩ := h
  obtain ⟨a, w, x, y, rfl, s, cw⟩ := hT.tuple
  refine ⟨_, rfl, g3 s ?_⟩
  refine ⟨_, rfl, .inl ⟨rfl, _, rfl, ?_⟩⟩
  have two : ∀ {A B : Tr}, T.by_ = A.by_ ++ B.by_ → T.lv = A.lv + B.lv → max A.dp B.dp + 1 ≤ n + 1 → TrAt K H x A → TrAt K H y B →
      tOp (rAddU K) (tCall (sp_law_parts_of K n) [] E0 (tCons (tVar 2) tNil)) (tCall (sp_law_parts_of K n) [] E0 (tCons (tVar 3) tNil)) [some (.ref a), some (.str w), some x, some y] H Q := by
    intro A B e1 e2 hd' hA hB
    refine ⟨_, rfl, x, A, rfl, hA, by omega, by omega, fun p H1 hp s1 h1 => ?_⟩
    refine ⟨_, rfl, y, B, rfl, hB.mono (Tups.same s1), by omega, by omega, fun p2 H2 hp2 s2 h2 => ?_⟩
    refine .inr (.inr (.inl ⟨p, p2, _, _, rfl, rfl, s2 _ _ h1, h2, ?_, fun r hr => ?_⟩))
    · rw [List.length_map, List.length_map, A.by_len, B.by_len]
      exact Nat.le_of_lt (small1000 (by omega))
    · refine k r _ ((s1.trans s2).free hr) ((s1.trans s2).trans (same_new hr)) ?_
      rw [upd_same, e1, List.map_append]
  rcases cw with ⟨rfl, t, q, rfl, rfl, rfl⟩ | ⟨rfl, A, B, rfl, hA, hB⟩ | ⟨rfl, A, B, rfl, hA, hB⟩
  · refine ifS (fun _ => ?_) (fun z => absurd rfl z)
    exact ⟨_, rfl, two_fit.1, fun p hp => k p _ hp (same_new hp) upd_same⟩
  · refine ifS (fun z => absurd z or_at) (fun _ => ?_)
    exact two rfl rfl hd hA hB
  · refine ifS (fun z => absurd z and_at) (fun _ => ?_)
    exact two rfl rfl hd hA hB
theorem inV_int {r : Int} {ns : List Int} (h : r ∈ ns) : inV (.int r) (ns.map V.int) = true := by
  unfold inV
  rw [List.any_map]
  exact List.any_eq_true.mpr ⟨r, h, by show (r == r) = true; exact beq_self_eq_true r⟩
theorem flat_ints (ns : List Int) : (ns.map V.int).all flatV = true := by
  induction ns with
  | nil => rfl
  | cons x r ih => exact ih
end
end Pk
set_option Elab.async false
set_option linter.all false
set_option maxRecDepth 100000
set_option maxHeartbeats 2000000
namespace Pk
open PySem PySem.Spec L2 PyProof.Rows
/-! ### amounts of one size, one after another -/
/-- what is withheld behind so many amounts of size z -/
def Tr.kp (T : Tr) (z w : Int) : Nat → Int
  | 0 => w
  | n + 1 => (kp T z w n + z) - T.give (kp T z w n + z)
/-- the greatest that is withheld ahead of one of them -/
def Tr.pk (T : Tr) (z w : Int) : Nat → Int
  | 0 => 0
  | n + 1 => max (pk T z w n) (kp T z w n)
section
variable {T : Tr} {z w : Int}
theorem Tr.kp_s (n : Nat) : T.kp z w (n + 1) = (T.kp z w n + z) - T.give (T.kp z w n + z) := rfl
theorem Tr.pk_s (n : Nat) : T.pk z w (n + 1) = max (T.pk z w n) (T.kp z w n) := rfl
theorem Tr.kp_add (n : Nat) : ∀ m : Nat, T.kp z w (n + m) = T.kp z (T.kp z w n) m
  | 0 => rfl
  | m + 1 => by
    show (T.kp z w (n + m) + z) - T.give (T.kp z w (n + m) + z) = _
    rw [kp_add n m]
    rfl
theorem Tr.pk_nn : ∀ n : Nat, 0 ≤ T.pk z w n
  | 0 => Int.le_refl _
  | n + 1 => by
    have := pk_nn n
    show 0 ≤ max (T.pk z w n) (T.kp z w n)
    omega
theorem Tr.pk_add (n : Nat) : ∀ m : Nat, T.pk z w (n + m) = max (T.pk z w n) (T.pk z (T.kp z w n) m)
  | 0 => by
    have := Tr.pk_nn (T := T) (z := z) (w := w) n
    show T.pk z w n = max (T.pk z w n) 0
    omega
  | m + 1 => by
    show max (T.pk z w (n + m)) (T.kp z w (n + m)) = max (T.pk z w n) (max (T.pk z (T.kp z w n) m) (T.kp z (T.kp z w n) m))
    rw [pk_add n m, Tr.kp_add]
    omega
theorem Tr.kp_ok (ok : T.ok) (z1 : 1 ≤ z) (w0 : 0 ≤ w) (w1 : w < T.top) : ∀ n : Nat, 0 ≤ T.kp z w n ∧ T.kp z w n < T.top
  | 0 => ⟨w0, w1⟩
  | n + 1 => by
    obtain ⟨h1, h2⟩ := kp_ok ok z1 w0 w1 n
    have g := Tr.give_le ok (show 0 ≤ T.kp z w n + z by omega)
    have r := Tr.rest_lt ok (show 0 ≤ T.kp z w n + z by omega)
    rw [Tr.kp_s]
    omega
theorem Tr.pk_lt (ok : T.ok) (z1 : 1 ≤ z) (w0 : 0 ≤ w) (w1 : w < T.top) : ∀ n : Nat, T.pk z w n < T.top
  | 0 => by
    show 0 < T.top
    omega
  | n + 1 => by
    have h := pk_lt ok z1 w0 w1 n
    have h2 := Tr.kp_ok ok z1 w0 w1 n
    rw [Tr.pk_s]
    omega
theorem Tr.kp_le (ok : T.ok) (z1 : 1 ≤ z) (w0 : 0 ≤ w) : ∀ n : Nat, 0 ≤ T.kp z w n ∧ T.kp z w n ≤ w + n * z
  | 0 => by
    show 0 ≤ w ∧ w ≤ w + 0 * z
    omega
  | n + 1 => by
    obtain ⟨h1, h2⟩ := kp_le ok z1 w0 n
    have g := Tr.give_le ok (show 0 ≤ T.kp z w n + z by omega)
    rw [Tr.kp_s, Int.natCast_add, Int.add_mul]
    omega
theorem Tr.kp_few (ok : T.ok) (z1 : 1 ≤ z) (w0 : 0 ≤ w) : ∀ n : Nat, w + (n : Int) * z < T.top → T.kp z w n = w + n * z ∧ T.pk z w (n + 1) = w + n * z
  | 0, h => by
    show w = w + 0 * z ∧ max 0 w = w + 0 * z
    omega
  | n + 1, h => by
    have e : ((n + 1 : Nat) : Int) * z = n * z + z := by rw [Int.natCast_add, Int.add_mul]; omega
    have nz : 0 ≤ (n : Int) * z := Int.mul_nonneg (by omega) (by omega)
    rw [e] at h ⊢
    obtain ⟨h1, h2⟩ := kp_few ok z1 w0 n (by omega)
    have r := (Tr.rest_lt ok (show 0 ≤ w + n * z + z by omega)).2.mpr (by omega)
    have e1 : T.kp z w (n + 1) = w + (n * z + z) := by
      rw [Tr.kp_s, h1, r]
      omega
    refine ⟨e1, ?_⟩
    rw [Tr.pk_s, h2, e1]
    omega
theorem Tr.kp_loop {d : Nat} (h : T.kp z w d = w) : ∀ t : Nat, T.kp z w (t * d) = w ∧ T.pk z w (t * d) ≤ T.pk z w d
  | 0 => by
    have := Tr.pk_nn (T := T) (z := z) (w := w) d
    rw [Nat.zero_mul]
    exact ⟨rfl, this⟩
  | t + 1 => by
    obtain ⟨h1, h2⟩ := kp_loop h t
    rw [Nat.succ_mul, Tr.kp_add, Tr.pk_add, h1, h]
    omega
end
/-- how many amounts, until the rule gives -/
theorem steps_ok {a z : Int} (h : 1 ≤ a) (z1 : 1 ≤ z) : 1 ≤ (a + z - 1) / z ∧ a ≤ (a + z - 1) / z * z ∧ ((a + z - 1) / z - 1) * z < a ∧ (a + z - 1) / z ≤ a + z - 1 := by
  have e := Int.emod_def (a + z - 1) z
  have r0 := Int.emod_nonneg (a + z - 1) (show z ≠ 0 by omega)
  have r1 := Int.emod_lt_of_pos (a + z - 1) (show 0 < z by omega)
  have s := Int.ediv_le_self z (show 0 ≤ a + z - 1 by omega)
  generalize (a + z - 1) / z = q at *
  have e2 : z * q = q * z := Int.mul_comm _ _
  have e3 : (q - 1) * z = q * z - z := by rw [Int.sub_mul]; omega
  refine ⟨?_, by omega, by omega, s⟩
  by_cases c : 1 ≤ q
  · exact c
  · have : q * z ≤ 0 := Int.mul_nonpos_of_nonpos_of_nonneg (by omega) (by omega)
    omega
theorem mul_ok {i j : Int} (h1 : i.natAbs ≤ 10 ^ 100) (h2 : j.natAbs ≤ 10 ^ 100) : CMul i j ∨ CMulW i j := by
  have z2 : (10 : Nat) ^ 100 < 2 ^ 1000 := by decide +kernel
  exact .inr (wide_mul (a := 1000) (b := 1000) (by omega) (by omega) (by decide) (by decide) (by decide))
/-- where the loop stands, by numbers alone -/
structure Rp (T : Tr) (z w : Int) (M L : Nat) (c t p : Int) : Prop where
  c0 : 0 ≤ c
  c1 : c < T.top
  p0 : 0 ≤ p
  le : L ≤ M
  kp : T.kp z w M = T.kp z c L
  tot : w + M * z = t + c + L * z
  pk : max w (T.pk z w M) = max p (T.pk z c L)
section
variable {T : Tr} {z w : Int} {M L : Nat} {c t p : Int}
theorem Rp.give (R : Rp T z w M L c t p) (ok : T.ok) (z1 : 1 ≤ z) {n : Nat} (h1 : c + n * z < T.top) (hL : n + 1 ≤ L) {c' : Int} (hc : c' = c + ((n + 1 : Nat) : Int) * z - T.give (c + ((n + 1 : Nat) : Int) * z)) :
    c' = T.kp z c (n + 1) ∧ T.pk z c (n + 1) = c + n * z ∧ Rp T z w M (L - (n + 1)) c' (t + (c + ((n + 1 : Nat) : Int) * z) - c') (max p (c + n * z)) := by
  obtain ⟨q1, q2⟩ := Tr.kp_few ok z1 R.c0 n h1
  have e : ((n + 1 : Nat) : Int) * z = n * z + z := by rw [Int.natCast_add, Int.add_mul]; omega
  have ec : c' = T.kp z c (n + 1) := by
    rw [Tr.kp_s, q1, hc, e, ← Int.add_assoc]
  obtain ⟨b0, b1⟩ := Tr.kp_ok ok z1 R.c0 R.c1 (n + 1)
  have el : ((L - (n + 1) : Nat) : Int) * z = L * z - ((n + 1 : Nat) : Int) * z := by
    rw [Int.ofNat_sub hL, Int.sub_mul]
  have sp : L = (n + 1) + (L - (n + 1)) := by omega
  refine ⟨ec, q2, ⟨by omega, by omega, ?_, by have := R.le; omega, ?_, ?_, ?_⟩⟩
  · have := R.p0; omega
  · rw [R.kp, ec, ← Tr.kp_add, ← sp]
  · have := R.tot
    rw [el]
    omega
  · rw [R.pk, ec]
    have h : T.pk z c L = max (T.pk z c (n + 1)) (T.pk z (T.kp z c (n + 1)) (L - (n + 1))) := by
      rw [← Tr.pk_add, ← sp]
    rw [h, q2]
    omega
theorem Rp.skip (R : Rp T z w M L c t p) {d : Nat} (hk : T.kp z c d = c) (hp : T.pk z c d ≤ p) (d1 : 1 ≤ d) : Rp T z w M (L - L / d * d) c (t + (((L / d * d : Nat) : Int)) * z) p := by
  have le : L / d * d ≤ L := Nat.div_mul_le_self L d
  obtain ⟨h1, h2⟩ := Tr.kp_loop hk (L / d)
  have sp : L = L / d * d + (L - L / d * d) := by omega
  refine ⟨R.c0, R.c1, R.p0, by have := R.le; omega, ?_, ?_, ?_⟩
  · have h : T.kp z c L = T.kp z (T.kp z c (L / d * d)) (L - L / d * d) := by rw [← Tr.kp_add, ← sp]
    rw [R.kp, h, h1]
  · have := R.tot
    rw [Int.ofNat_sub le, Int.sub_mul]
    omega
  · have h : T.pk z c L = max (T.pk z c (L / d * d)) (T.pk z (T.kp z c (L / d * d)) (L - L / d * d)) := by rw [← Tr.pk_add, ← sp]
    have := Tr.pk_nn (T := T) (z := z) (w := c) (L - L / d * d)
    rw [R.pk, h, h1]
    omega
end
/-! ### what was seen -/
def Seen (lo : Nat) (K : PySem.W.Frag) (T : Tr) (z : Int) (G : Hp) (kvs : List (Key × V)) (L : Nat) (c t p : Int) : Prop :=
  ∀ i v, valV kvs (.inl i) = some v → ∃ (a : Addr) (l' t' : Int) (e : Nat), v = .ref a ∧ SqT K G a [.int l', .int t'] ∧ l' = (L : Int) + e ∧ T.kp z i e = c ∧ i + e * z = t - t' + c ∧ T.pk z i e ≤ p ∧ lo ≤ e ∧ l' ≤ 10 ^ 40
section
variable {K : PySem.W.Frag} {T : Tr} {z w : Int} {M L : Nat} {c t p : Int} {G G' : Hp} {kvs : List (Key × V)}
theorem Seen.weak {lo : Nat} (S : Seen lo K T z G kvs L c t p) : Seen 0 K T z G kvs L c t p := fun i v h => by
  obtain ⟨a, l', t', e, h1, h2, h3, h4, h5, h6, h7, h8⟩ := S i v h
  exact ⟨a, l', t', e, h1, h2, h3, h4, h5, h6, Nat.zero_le _, h8⟩
theorem Seen.mono {lo : Nat} (S : Seen lo K T z G kvs L c t p) (s : Tups K G G') : Seen lo K T z G' kvs L c t p := fun i v h => by
  obtain ⟨a, l', t', e, h1, h2, r⟩ := S i v h
  exact ⟨a, l', t', e, h1, s _ _ h2, r⟩
/-- from here so many amounts on -/
theorem Seen.go {lo : Nat} (S : Seen lo K T z G kvs L c t p) {n : Nat} {c' t' p' : Int} (hL : n ≤ L) (hc : c' = T.kp z c n) (hp : p ≤ p') (hp2 : T.pk z c n ≤ p') (ht : c + n * z = t' - t + c') : Seen n K T z G kvs (L - n) c' t' p' := fun i v h => by
  obtain ⟨a, l', t0, e, h1, h2, h3, h4, h5, h6, h7, h8⟩ := S i v h
  refine ⟨a, l', t0, e + n, h1, h2, by omega, ?_, ?_, ?_, by omega, h8⟩
  · rw [Tr.kp_add, h4, hc]
  · rw [Int.natCast_add, Int.add_mul]
    omega
  · rw [Tr.pk_add, h4]
    omega
theorem Seen.put (S : Seen 0 K T z G kvs L c t p) (hp : 0 ≤ p) (hL : (L : Int) ≤ 10 ^ 40) {a : Addr} (ha : SqT K G a [.int L, .int t]) : Seen 0 K T z G (putK kvs (.inl c) (.ref a)) L c t p := fun i v h => by
  rw [valV_put] at h
  by_cases e : i = c
  · subst e
    rw [if_pos rfl] at h
    cases h
    exact ⟨a, L, t, 0, rfl, ha, by omega, rfl, by omega, hp, Nat.le_refl _, hL⟩
  · rw [if_neg (fun z => e (Sum.inl.inj z))] at h
    exact S i v h
def bit (o : Option V) : Nat := if o.isSome = true then 1 else 0
def cnt (kvs : List (Key × V)) : Nat := bit (valV kvs (.inl 0)) + bit (valV kvs (.inl 1)) + bit (valV kvs (.inl 2)) + bit (valV kvs (.inl 3)) + bit (valV kvs (.inl 4)) + bit (valV kvs (.inl 5))
theorem bit_le (o : Option V) : bit o ≤ 1 := by unfold bit; split <;> omega
theorem cnt_le (kvs : List (Key × V)) : cnt kvs ≤ 6 := by
  unfold cnt
  have h0 := bit_le (valV kvs (.inl 0))
  have h1 := bit_le (valV kvs (.inl 1))
  have h2 := bit_le (valV kvs (.inl 2))
  have h3 := bit_le (valV kvs (.inl 3))
  have h4 := bit_le (valV kvs (.inl 4))
  have h5 := bit_le (valV kvs (.inl 5))
  omega
theorem cnt_put {v : V} (h : valV kvs (.inl c) = none) (h0 : 0 ≤ c) (h1 : c < 6) (hl : kvs.length ≤ cnt kvs) : (putK kvs (.inl c) v).length ≤ cnt (putK kvs (.inl c) v) := by
  have e : (putK kvs (.inl c) v).length = kvs.length + 1 := by rw [putK_new v h, List.length_append]; rfl
  have b : ∀ j : Int, bit (valV (putK kvs (.inl c) v) (.inl j)) = if j = c then 1 else bit (valV kvs (.inl j)) := fun j => by
    rw [valV_put]
    by_cases q : j = c
    · rw [if_pos q, if_pos (congrArg Sum.inl q)]; rfl
    · rw [if_neg q, if_neg (fun z => q (Sum.inl.inj z))]
  have n : bit (valV kvs (.inl c)) = 0 := by rw [h]; rfl
  rw [e]
  unfold cnt at hl ⊢
  rw [b, b, b, b, b, b]
  rcases (by omega : c = 0 ∨ c = 1 ∨ c = 2 ∨ c = 3 ∨ c = 4 ∨ c = 5) with rfl | rfl | rfl | rfl | rfl | rfl <;> (simp only [if_true, reduceIte, Int.reduceEq] ; omega)
end
section
variable {K : PySem.W.Frag} {C : Cs} {vs : List V} {H H' G G' : Hp} {Q : VK} {E : XK} {n : Nat}
theorem g2 {i j : Nat} {a : Addr} {σ : L2.St} {R : L2.St → Hp → Prop} {x y : V} (s : SqT K H a [x, y]) (h : R ((σ.set i (some x)).set j (some y)) H) :
    gTup K 2 (gCons (gName i) (gCons (gName j) gNil)) (.ref a) σ H R := ⟨a, _, rfl, s, rfl, _, _, rfl, _, _, rfl, rfl, h⟩
def sp_steps_to_give (K : PySem.W.Frag) (C : Cs) : Sp := fun vs H Q _ => ∃ u T w z, vs = [u, .int w, .int z] ∧ RuleAt K C H u T ∧ 1 ≤ z ∧ z ≤ 10 ^ 40 ∧ Q (.int ((T.top - w + z - 1) / z)) H
def t_steps_to_give (K : PySem.W.Frag) (C : Cs) : TS :=
  (tRet (tOp (rDivI) (tOp (rSubI) (tOp (rAddU K) (tOp (rSubI) (tProp C.Rule (sp_Rule_threshold K C) [] E0 (tVar 0)) (tVar 1)) (tVar 2)) (tC (.int 1))) (tVar 2)))
theorem ln_steps_to_give (h : sp_steps_to_give K C vs H Q E) : vs.length = 3 := by obtain ⟨_, _, _, _, rfl, _⟩ := h; rfl
theorem rd_steps_to_give (h : sp_steps_to_give K C vs H Q E) : t_steps_to_give K C (EndsOf Q) (start ["", "", ""] vs) H := by
  obtain ⟨u, T, w, z, rfl, R, z1, z2, k⟩ := h
  obtain ⟨ua, ud, uu, rfl, hu1, _⟩ := id R
  refine ⟨_, rfl, ua, ud, _, rfl, hu1, _, T, rfl, R, _, rfl, _, _, rfl, rfl, _, rfl, .inl ⟨_, _, rfl, rfl, _, _, rfl, rfl, _, rfl, _, _, rfl, rfl, div_ok (by omega) (by omega), k⟩⟩
def sp_repeated (K : PySem.W.Frag) (C : Cs) : Sp := fun vs H Q _ => ∃ u T w z m, vs = [u, .int w, .int z, .int m] ∧ RuleAt K C H u T ∧ 0 ≤ w ∧ w < T.top ∧ 1 ≤ z ∧ z ≤ 10 ^ 40 ∧ 0 ≤ m ∧ m ≤ 10 ^ 40 ∧
  ∀ p H', H p = none → Same H H' → SqT K H' p [.int (T.kp z w m.toNat), .int (w + m * z - T.kp z w m.toNat), .int (max w (T.pk z w m.toNat))] → Q (.ref p) H'
def t_repeated (K : PySem.W.Frag) (C : Cs) : TS :=
  (tSeq (tAsg tDNewK (gName 4))
    (tSeq (tPar3 5 6 7 (tCons (tVar 3) (tCons (tC (.int 0)) (tCons (tVar 1) tNil))))
    (tSeq (tAsg (tCall (sp_steps_to_give K C) [] E0 (tCons (tVar 0) (tCons (tVar 1) (tCons (tVar 2) tNil)))) (gName 8))
    (tSeq (tWhile (tTest (tOp (rGeI) (tVar 5) (tVar 8))) (tSeq (tAsg (tCB (rMax2) (tCons (tVar 7) (tCons (tOp (rAddU K) (tVar 1) (tOp (rMulU K) (tOp (rSubI) (tVar 8) (tC (.int 1))) (tVar 2))) tNil))) (gName 7))
    (tSeq (tAsg (tOp (rAddU K) (tVar 1) (tOp (rMulU K) (tVar 8) (tVar 2))) (gName 9))
    (tSeq (tAsg (tMeth C.Rule "rest" (sp_Rule_rest K C) [] E0 (tVar 0) (tCons (tVar 9) tNil)) (gName 1))
    (tSeq (tPar 5 6 (tCons (tOp (rSubI) (tVar 5) (tVar 8)) (tCons (tOp (rSubI) (tOp (rAddU K) (tVar 6) (tVar 9)) (tVar 1)) tNil)))
    (Evl.tCut (tIfS (tB (tDIn (tVar 1) (tVar 4))) (tSeq (tAsg (tDGet (tVar 4) (tVar 1)) (gTup K 2 (gCons (gName 10) (gCons (gName 11) gNil))))
    (tSeq (tAsg (tOp (rDivI) (tVar 5) (tOp (rSubI) (tVar 10) (tVar 5))) (gName 12))
    (tPar 5 6 (tCons (tOp (rSubI) (tVar 5) (tOp (rMulU K) (tVar 12) (tOp (rSubI) (tVar 10) (tVar 5)))) (tCons (tOp (rAddU K) (tVar 6) (tOp (rMulU K) (tVar 12) (tOp (rSubI) (tVar 6) (tVar 11)))) tNil))))) (tAsg (tTup (tCons (tVar 5) (tCons (tVar 6) tNil))) (gSub (tVar 4) (tVar 1) rSetD)))
    (tAsg (tCall (sp_steps_to_give K C) [] E0 (tCons (tVar 0) (tCons (tVar 1) (tCons (tVar 2) tNil)))) (gName 8))))))))
    (Evl.tCut (tIfS (tTest (tOp (rGtI) (tVar 5) (tC (.int 0)))) (tAsg (tCB (rMax2) (tCons (tVar 7) (tCons (tOp (rAddU K) (tVar 1) (tOp (rMulU K) (tOp (rSubI) (tVar 5) (tC (.int 1))) (tVar 2))) tNil))) (gName 7)) tNext)
    (tRet (tTup (tCons (tOp (rAddU K) (tVar 1) (tOp (rMulU K) (tVar 5) (tVar 2))) (tCons (tVar 6) (tCons (tVar 7) tNil))))))))))
theorem ln_repeated (h : sp_repeated K C vs H Q E) : vs.length = 4 := by obtain ⟨_, _, _, _, _, rfl, _⟩ := h; rfl
theorem other_same {D : Addr} {o : HO} (s : Same H G) (h : H D = none) : Same H (upd G D o) := fun b u q => by
  rw [upd_ne (ne_of_none q h)]
  exact s b u q
theorem dk_tups {D : Addr} {o : HO} {kvs : List (Key × V)} (h : G D = some (.dK kvs)) : Tups K G (upd G D o) := Tups.put h (fun _ z => nomatch z) fun _ _ z => nomatch z
theorem imax_eq (i j : Int) : (if j > i then j else i) = max i j := by
  split <;> omega
theorem rd_repeated (h : sp_repeated K C vs H Q E) : t_repeated K C (EndsOf Q) (start ["", "", "", "", "", "", "", "", "", "", "", "", ""] vs) H := by
  obtain ⟨u, T, w, z, m, rfl, R, w0, w1, z1, z2, m0, m2, k⟩ := h
  obtain ⟨M, rfl⟩ : ∃ M : Nat, m = M := ⟨m.toNat, by omega⟩
  obtain ⟨ua, ud, uu, rfl, hu1, hT, ok, l6, fx⟩ := id R
  obtain ⟨t1, t2⟩ := Tr.top_ok ok
  refine fun D hD => ⟨_, rfl, _, rfl, _, _, _, rfl, ?_⟩
  have s1 := same_new (o := .dK []) hD
  refine ⟨_, rfl, _, rfl, _, rfl, .ref ua, T, w, z, rfl, R.same s1, z1, z2, ?_⟩
  refine ⟨fun mm σ' G => ∃ (L : Nat) (c t p : Int) (kvs : List (Key × V)) (s9 s10 s11 s12 : Option V), σ' = [some (.ref ua), some (.int c), some (.int z), some (.int M), some (.ref D), some (.int L), some (.int t), some (.int p), some (.int ((T.top - c + z - 1) / z)), s9, s10, s11, s12] ∧
    L = mm ∧ Same H G ∧ G D = some (.dK kvs) ∧ kvs.length ≤ cnt kvs ∧ Rp T z w M L c t p ∧ Seen 0 K T z G kvs L c t p,
    ⟨_, M, w, 0, w, [], none, none, none, none, rfl, rfl, s1, upd_same, Nat.zero_le _, ⟨w0, w1, w0, Nat.le_refl _, rfl, by omega, rfl⟩, fun i v h => nomatch h⟩, ?_⟩
  clear s1
  rintro mm σ' G ⟨L, c, t, p, kvs, s9, s10, s11, s12, rfl, rfl, s, hG, hl, P, S⟩
  obtain ⟨q1, q2, q3, q4⟩ := steps_ok (a := T.top - c) (z := z) (by have := P.c1; omega) z1
  have c0 := P.c0
  have c1 := P.c1
  have lM := P.le
  have hM : (M : Int) ≤ 10 ^ 40 := m2
  have lims : (10 : Int) ^ 50 + 10 ^ 40 ≤ 10 ^ 100 := by decide
  refine ⟨_, rfl, _, rfl, _, _, rfl, rfl, _, rfl, ?_⟩
  generalize hS : (T.top - c + z - 1) / z = S0 at q1 q2 q3 q4 ⊢
  refine ifD (fun cc => ?_) (fun cc => ?_)
  · -- it gives, once
    obtain ⟨n, rfl⟩ : ∃ n : Nat, S0 = ((n + 1 : Nat) : Int) := ⟨S0.toNat - 1, by omega⟩
    have en : ((n + 1 : Nat) : Int) - 1 = (n : Int) := by omega
    rw [en] at q3
    have am0 : 0 ≤ c + ((n + 1 : Nat) : Int) * z := by
      have : 0 ≤ ((n + 1 : Nat) : Int) * z := Int.mul_nonneg (by omega) (by omega)
      omega
    obtain ⟨r1, r2⟩ := Tr.rest_lt ok am0
    obtain ⟨g1, g2'⟩ := Tr.give_le ok am0
    obtain ⟨e1, e2, P1⟩ := P.give ok z1 (n := n) (by omega) (by omega) rfl
    have S1 := S.go (n := n + 1) (c' := c + ((n + 1 : Nat) : Int) * z - T.give (c + ((n + 1 : Nat) : Int) * z)) (t' := t + (c + ((n + 1 : Nat) : Int) * z) - (c + ((n + 1 : Nat) : Int) * z - T.give (c + ((n + 1 : Nat) : Int) * z))) (p' := max p (c + n * z)) (by omega) e1 (by omega) (by omega) (by omega)
    obtain ⟨by1, by2, by3⟩ := Tr.rest_by ok am0 (by omega)
    obtain ⟨by4, by5⟩ := Tr.by_ok ok _ by2
    have small : c + ((n + 1 : Nat) : Int) * z - T.give (c + ((n + 1 : Nat) : Int) * z) < 6 := by
      rw [by3]
      have := Int.emod_lt_of_pos (c + ((n + 1 : Nat) : Int) * z) (show 0 < by1 by omega)
      omega
    have eL : ((L - (n + 1) : Nat) : Int) = (L : Int) - ((n + 1 : Nat) : Int) := by omega
    have R1 := R.same s
    obtain ⟨va, vd, vu, eq, hv1, _⟩ := id R1
    cases eq
    refine ⟨fun σ2 H2 => ∃ (L2 : Nat) (c t p : Int) (kvs : List (Key × V)) (s9 s10 s11 s12 : Option V), σ2 = [some (.ref ua), some (.int c), some (.int z), some (.int M), some (.ref D), some (.int L2), some (.int t), some (.int p), some (.int ((T.top - c + z - 1) / z)), s9, s10, s11, s12] ∧
      L2 < L ∧ Same H H2 ∧ H2 D = some (.dK kvs) ∧ kvs.length ≤ cnt kvs ∧ Rp T z w M L2 c t p ∧ Seen 0 K T z H2 kvs L2 c t p,
      fun σ2 H2 ⟨L2, c, t, p, kvs, s9, s10, s11, s12, a1, a2, a3, a4, a5, a6, a7⟩ => ⟨_, a2, L2, c, t, p, kvs, s9, s10, s11, s12, a1, rfl, a3, a4, a5, a6, a7⟩, ?_⟩
    refine ⟨_, rfl, _, rfl, _, rfl, _, _, rfl, rfl, _, rfl, .inl ⟨_, _, rfl, rfl, mul_ok (by omega) (by omega), .inl ⟨_, _, rfl, rfl, _, _, rfl, ?_⟩⟩⟩
    refine ⟨_, rfl, _, rfl, _, rfl, .inl ⟨_, _, rfl, rfl, mul_ok (by omega) (by omega), .inl ⟨_, _, rfl, rfl, ?_⟩⟩⟩
    refine ⟨_, rfl, ua, vd, _, rfl, hv1, lk_tree (by decide +kernel), _, rfl, _, T, _, rfl, R1, ?_⟩
    refine ⟨_, rfl, _, rfl, _, _, rfl, rfl, _, rfl, _, rfl, .inl ⟨_, _, rfl, rfl, _, rfl, _, _, rfl, rfl, _, _, rfl, ?_⟩⟩
    dsimp only
    rw [imax_eq, en, ← eL]
    have hLL : L - (n + 1) < L := by omega
    clear e1 e2 r1 r2 g1 g2' by1 by2 by3 by4 by5 S P cc q2 q3 q4 am0 c0 c1 hS en eL q1
    have c0' := P1.c0
    generalize c + ((n + 1 : Nat) : Int) * z - T.give (c + ((n + 1 : Nat) : Int) * z) = c' at *
    generalize t + (c + ((n + 1 : Nat) : Int) * z) - c' = t' at *
    generalize max p (c + n * z) = p' at *
    generalize L - (n + 1) = L1 at *
    refine ⟨fun σ2 H2 => ∃ (L2 : Nat) (t p : Int) (kvs : List (Key × V)) (s8 s9 s10 s11 s12 : Option V), σ2 = [some (.ref ua), some (.int c'), some (.int z), some (.int M), some (.ref D), some (.int L2), some (.int t), some (.int p), s8, s9, s10, s11, s12] ∧
      L2 < L ∧ Same H H2 ∧ H2 D = some (.dK kvs) ∧ kvs.length ≤ cnt kvs ∧ Rp T z w M L2 c' t p ∧ Seen 0 K T z H2 kvs L2 c' t p, ?_, ?_⟩
    · refine ⟨_, rfl, _, rfl, D, valV kvs (.inl c'), rfl, DGet.k (k := .inl c') hG, _, rfl, ?_⟩
      cases ev : valV kvs (.inl c') with
      | some v =>
        -- it was here before: turns are skipped
        refine iteT' rfl ?_
        obtain ⟨a, l', t0, d, rfl, ha, h3, h4, h5, h6, h7, h8⟩ := S1 c' v ev
        have d1 : 1 ≤ d := by omega
        have et : (L1 : Int) / (l' - L1) = ((L1 / d : Nat) : Int) := by
          rw [show l' - (L1 : Int) = (d : Int) by omega]
          exact (Int.natCast_ediv _ _).symm
        have le : L1 / d * d ≤ L1 := Nat.div_mul_le_self L1 d
        have le2 : L1 / d ≤ L1 := Nat.div_le_self L1 d
        have e1 : (L1 : Int) - (L1 : Int) / (l' - L1) * (l' - L1) = ((L1 - L1 / d * d : Nat) : Int) := by
          rw [et, show l' - (L1 : Int) = (d : Int) by omega, Int.ofNat_sub le, Int.natCast_mul]
        have ed : t' - t0 = d * z := by omega
        have e2 : t' + (L1 : Int) / (l' - L1) * (t' - t0) = t' + ((L1 / d * d : Nat) : Int) * z := by
          rw [et, ed, Int.natCast_mul, Int.mul_assoc]
        have dz : (d : Int) * z ≤ 10 ^ 40 * 10 ^ 40 := Int.mul_le_mul (by omega) z2 (by omega) (by decide)
        have dz0 : 0 ≤ (d : Int) * z := Int.mul_nonneg (by omega) (by omega)
        have lim2 : (10 : Int) ^ 40 * 10 ^ 40 ≤ 10 ^ 100 := by decide
        have b1 : ((L1 : Int) / (l' - L1)).natAbs ≤ 10 ^ 100 := by
          rw [et]
          clear e1 e2 et
          generalize L1 / d = tt at le2
          omega
        have b2 : (l' - (L1 : Int)).natAbs ≤ 10 ^ 100 := by clear e1 e2 et b1; omega
        have b3 : (t' - t0).natAbs ≤ 10 ^ 100 := by rw [ed]; clear e1 e2 et b1; omega
        refine ⟨_, rfl, _, rfl, D, .ref a, rfl, (by rw [← ev]; exact DGet.k (k := .inl c') hG), g2 ha ?_⟩
        refine ⟨_, rfl, _, rfl, _, rfl, _, _, rfl, rfl, _, _, rfl, rfl, div_ok (by omega) (by omega), ?_⟩
        refine ⟨_, rfl, _, rfl, _, rfl, _, rfl, _, _, rfl, rfl, .inl ⟨_, _, rfl, rfl, mul_ok b1 b2, _, _, rfl, rfl, _, rfl, _, rfl, _, rfl, _, rfl, _, _, rfl, rfl, .inl ⟨_, _, rfl, rfl, mul_ok b1 b3, .inl ⟨_, _, rfl, rfl, _, _, rfl, ?_⟩⟩⟩⟩
        obtain ⟨k1, k2⟩ := Tr.kp_loop h4 (L1 / d)
        refine ⟨L1 - L1 / d * d, t' + ((L1 / d * d : Nat) : Int) * z, p', kvs, some (.int ((n + 1 : Nat) : Int)), some (.int (c + ((n + 1 : Nat) : Int) * z)), some (.int l'), some (.int t0), some (.int ((L1 : Int) / (l' - L1))), ?_, by omega, s, hG, hl, P1.skip h4 h6 d1, (S1.go le k1.symm (Int.le_refl _) (by omega) (by omega)).weak⟩
        rw [← e1, ← e2]
        rfl
      | none =>
        refine iteF' rfl ?_
        refine ⟨_, rfl, _, rfl, two_fit.2.1, fun q hq => ?_⟩
        have s2 := same_new (o := .tup [.int L1, .int t']) hq
        refine ⟨_, rfl, _, rfl, D, _, rfl, DPut.k (k := .inl c') (s2 _ _ hG) (by have := cnt_le kvs; exact small1000 (by omega)), ?_⟩
        exact ⟨L1, t', p', _, _, _, _, _, _, rfl, hLL, other_same (s.trans s2) hD, upd_same, cnt_put ev c0' small hl, P1, ((S1.weak.mono (Tups.same s2)).put P1.p0 (by omega) (SqT.of upd_same)).mono (dk_tups (s2 _ _ hG))⟩
    · rintro σ2 H2 ⟨L2, t2, p2, kvs2, b8, b9, b10, b11, b12, rfl, a2, a3, a4, a5, a6, a7⟩
      refine ⟨_, rfl, _, rfl, _, rfl, .ref ua, T, c', z, rfl, R.same a3, z1, z2, ?_⟩
      exact ⟨L2, c', t2, p2, kvs2, _, _, _, _, rfl, a2, a3, a4, a5, a6, a7⟩
  · -- the rest, without giving
    have few : c + (L : Int) * z < T.top := by
      have h : (L : Int) * z ≤ (S0 - 1) * z := Int.mul_le_mul_of_nonneg_right (by omega) (by omega)
      omega
    obtain ⟨f1, f2⟩ := Tr.kp_few ok z1 c0 L few
    have Lz0 : 0 ≤ (L : Int) * z := Int.mul_nonneg (by omega) (by omega)
    have eM : ((M : Int)).toNat = M := by omega
    rw [eM] at k
    have tot := P.tot
    have pk := P.pk
    refine ⟨fun σ2 H2 => H2 = G ∧ σ2 = [some (.ref ua), some (.int c), some (.int z), some (.int M), some (.ref D), some (.int L), some (.int t), some (.int (max w (T.pk z w M))), some (.int S0), s9, s10, s11, s12], ?_, ?_⟩
    · refine ⟨_, rfl, _, _, rfl, rfl, _, rfl, ?_⟩
      refine ifD (fun c2 => ?_) (fun c2 => ?_)
      · obtain ⟨n, rfl⟩ : ∃ n : Nat, L = n + 1 := ⟨L - 1, by omega⟩
        have en : ((n + 1 : Nat) : Int) - 1 = (n : Int) := by omega
        have e : ((n + 1 : Nat) : Int) * z = n * z + z := by rw [Int.natCast_add, Int.add_mul]; omega
        have nz : 0 ≤ (n : Int) * z := Int.mul_nonneg (by omega) (by omega)
        obtain ⟨f3, f4⟩ := Tr.kp_few ok z1 c0 n (by omega)
        refine ⟨_, rfl, _, rfl, _, rfl, _, _, rfl, rfl, _, rfl, .inl ⟨_, _, rfl, rfl, mul_ok (by omega) (by omega), .inl ⟨_, _, rfl, rfl, _, _, rfl, rfl, ?_⟩⟩⟩
        rw [pk, f4, ← imax_eq, ← en]
        rfl
      · obtain rfl : L = 0 := by omega
        refine ⟨rfl, ?_⟩
        have p0 := P.p0
        have : max p (T.pk z c 0) = p := by
          show max p 0 = p
          omega
        rw [pk, this]
    · rintro σ2 H2 ⟨rfl, rfl⟩
      refine ⟨_, rfl, _, rfl, _, rfl, .inl ⟨_, _, rfl, rfl, mul_ok (by omega) (by omega), .inl ⟨_, _, rfl, rfl, _, rfl, _, rfl, two_fit.2.2.1, fun q hq => ?_⟩⟩⟩
      have s2 := same_new (o := .tup [.int (c + L * z), .int t, .int (max w (T.pk z w M))]) hq
      refine k q _ (s.free hq) (s.trans s2) ?_
      rw [P.kp, f1, show w + (M : Int) * z - (c + L * z) = t by omega]
      exact SqT.of upd_same
/-- a tree and a Rule of it -/
structure St13 (K : PySem.W.Frag) (C : Cs) (G : Hp) (b l : Addr) (v u : V) (T : Tr) : Prop where
  bag : Bag G b l
  tr : TrAt K G v T
  ru : RuleAt K C G u T
theorem St13.step {b l : Addr} {v u : V} {T : Tr} (S : St13 K C G b l v u T) (k : Kp b G G') (B : Bag G' b l) : St13 K C G' b l v u T :=
  ⟨B, S.tr.mono (S.bag.tups k), S.ru.kpB S.bag k⟩
theorem St13.same {b l : Addr} {v u : V} {T : Tr} (S : St13 K C G b l v u T) (s : Same G G') : St13 K C G' b l v u T := S.step (Kp.of s) (S.bag.same s)
/-- not alike(rule.threshold, top) -/
theorem top_alike {i j : Nat} {σ : L2.St} {b l : Addr} {v u : V} {T : Tr} {D : Ends} (hi : σ[i]? = some (some u)) (hj : σ[j]? = some (some (.int T.top))) (S : St13 K C G b l v u T) (k : D.nx σ G) :
    tIfS (tNot (tB (tCall (sp_law_alike K) [] E0 (tCons (tProp C.Rule (sp_Rule_threshold K C) [] E0 (tVar i)) (tCons (tVar j) tNil))))) (tRet (tC (.bl false))) tNext D σ G := by
  obtain ⟨ua, ud, uu, rfl, hu1, r⟩ := id S.ru
  refine ⟨_, hi, ua, ud, _, rfl, hu1, _, T, rfl, S.ru, ?_⟩
  obtain ⟨t1, t2⟩ := Tr.top_ok r.2.1
  have g : GoodTo 0 2000 (.int T.top) := gt_int (by
    have : (10 : Int) ^ 50 ≤ 10 ^ 100 := by decide
    omega)
  exact ⟨_, hj, _, _, .int T.top, rfl, .int _, .int _, g.good, true, rfl, k⟩
end
end Pk
set_option Elab.async false
set_option linter.all false
set_option maxRecDepth 100000
set_option maxHeartbeats 2000000
/-! == and != of instances by an own __eq__ -/
namespace Pk
open PySem PySem.Spec PyProof.Rows PySem.SeqAt
section
variable {prog : Program} {w : World} {A : Around} {E : Value → Shared → Prop} {s : Shared} {K : PySem.W.Frag} {x C f : Addr} {ox : Obj} {od : Option Obj} {b : Value}
theorem ifBound_ne {M : Model} {args : List Value} {Q : Option Value → Shared → Prop} (I : PySem.W.InstAt s.heap x ox C od) (X : K.In s.heap) (hn : PySem.W.findIn K (.ref C) "__ne__" = some (some (.builtin "object.__ne__")))
    (h : wpAny M A (call (.builtin "object.__ne__") (.ref x :: args)) (fun v => Q (some v)) E s) : wpAny M A (callSpecialIfBound? (.ref x) "__ne__" args) Q E s := by
  simp only [callSpecialIfBound?, bindSpecialIfBound?]
  have last : wpAny M A (call (.builtin "object.__ne__") ([.ref x] ++ args) >>= fun v => pure (some v)) Q E s := wpAny_bind (wpAny_mono h (fun _ _ z => wpAny_pure z) fun _ _ z => z)
  refine wpAny_holding (wpAny_bind (wpAny_bind (wpAny_bind (I.type.here ((PySem.W.looks_findIn X hn).here (wpAny_bind (wpAny_askSetting (wpAny_ite ?_))))))))
  split
  · exact wpAny_bind (wpAny_of_eq (F.cmp_object.ne.bind _) (wpAny_pure (by exact last)))
  · exact wpAny_tryCatch (wpAny_bind (wpAny_of_eq (F.cmp_object.ne.bind _) (wpAny_pure (by exact last))))
theorem obj_ne {Q : Value → Shared → Prop} (hu : A.units + 1 < cLine) (X : K.In s.heap) (I : PySem.W.InstAt s.heap x ox C od) (hm : PySem.W.mroIn K C (.type "object") = some true)
    (hn : PySem.W.findIn K (.ref C) "__ne__" = some (some (.builtin "object.__ne__"))) (hs : PySem.W.findIn K (.ref C) "__eq__" = some (some (.ref f))) (hf : PySem.W.isFn K (.ref f) = true)
    (h : codeAny (model prog w) A.in1 (.call (.ref f) ⟨[.ref x, b], []⟩) (fun r s' => match r with | .ok (.ret v) => ∃ c, v = .bool c ∧ Q (.bool (!c)) s' | .ok _ => False | .error e => E e s') s) :
    wpAny (model prog w) A (tryCompare (.ref x) "__ne__" b) (fun r s' => ∃ v, r = some v ∧ Q v s') E s := by
  unfold tryCompare
  refine wpAny_bind (ifBound_ne I X hn (wpAny_call (codeAny_call_builtin F.cmp_object.ne.plain F.cmpEntry_ne
    (PySem.W.check_slot F.cmpKind_ne F.cmpSplit_ne (I.type.andThen (PySem.W.looks_mroIn X hm)) (F.cmpArgs_ne _ _) ?_))))
  unfold Builtin.«object.__ne__»
  repeat (first | with_reducible refine wpAny_cRoomFor hu ?_ | with_reducible refine wpAny_bind (PySem.W.ifBound_K X I hs hf ?_) | wp_step)
  refine codeAny_mono h fun r s' hr => ?_
  match r, hr with
  | .error e, hr => exact hr
  | .ok (.ret v), hr =>
    obtain ⟨c, rfl, q⟩ := hr
    refine wpAny_bind (wpAny_truthy_bool ?_)
    exact wpAny_pure (wpAny_pure ⟨_, rfl, q⟩)
/-- x != b by what is tried first -/
theorem rich_ne {tb : Value} {Q : Value → Shared → Prop} (hu : A.units < cLine) (X : K.In s.heap) (I : PySem.W.InstAt s.heap x ox C od) (hb : PySem.W.Looks (model prog w) s.heap (typeOf b) tb) (hn : PySem.W.notFirst K C tb = true)
    (one : wpAny (model prog w) A (tryCompare (.ref x) "__ne__" b) (fun r s' => ∃ v, r = some v ∧ Q v s') E s) : wpAny (model prog w) A (richCompare .NotEq (.ref x) b) Q E s := by
  unfold richCompare
  simp only [oneThing_ref]
  refine wpAny_holding (wpAny_bind (wpAny_cRoomFor hu (wpAny_bind (I.type.here (wpAny_bind (hb.here ?_))))))
  split
  · rename_i q
    have e : PySem.W.subIn K tb (.ref C) = some false := by
      rcases Bool.or_eq_true_iff.mp hn with e | e
      · exact absurd (beq_iff_eq.mp e) (by intro z; rw [z] at q; simp at q)
      · exact beq_iff_eq.mp e
    refine wpAny_bind ((PySem.W.looks_subIn X e).here ?_)
    simp only [Bool.false_eq_true, if_false]
    exact wpAny_bind (wpAny_mono one (fun r s1 ⟨v, ev, qv⟩ => by subst ev; exact wpAny_pure qv) fun _ _ y => y)
  · refine wpAny_bind (wpAny_pure ?_)
    simp only [Bool.false_eq_true, if_false]
    exact wpAny_bind (wpAny_mono one (fun r s1 ⟨v, ev, qv⟩ => by subst ev; exact wpAny_pure qv) fun _ _ y => y)
end
end Pk
namespace Pk
open PySem PySem.Spec L2 PyProof.Rows
section
variable {X : Cx} {CX : CXT} {k j : Nat} {C : Addr} {ps : List Str} {sp : Sp} {E : XK} {x : Str}
/-- x == y, x != y, both instances of the class at C -/
def rOwnEq (C : Addr) (sp : Sp) (E : XK) : R2 := fun x y H Q => ∃ a b dx fs dy gs, x = .ref a ∧ y = .ref b ∧ H a = some (.ins C dx fs) ∧ H b = some (.ins C dy gs) ∧ sp [x, y] H (fun v H' => ∃ c, v = .bl c ∧ Q (.bl c) H') E
def rOwnNe (C : Addr) (sp : Sp) (E : XK) : R2 := fun x y H Q => ∃ a b dx fs dy gs, x = .ref a ∧ y = .ref b ∧ H a = some (.ins C dx fs) ∧ H b = some (.ins C dy gs) ∧ sp [x, y] H (fun v H' => ∃ c, v = .bl c ∧ Q (.bl (!c)) H') E
theorem op_eqOwn (c : Kls X.K X.mg x C) (F : Own X.prog X.w X.K X.mg X.base CX k C "__eq__" ps sp) (hr : Room j X.A) (hx : Passes CX X E) (hj : k ≤ j := by first | decide | omega) : OpR X (compareOp .Eq) (rOwnEq C sp E) := by
  obtain ⟨f, fd, G, a1, a2, a3, a4, bb⟩ := F.ex
  intro pins s σ H u v ov iv Q I ru rv h
  obtain ⟨a, b, dx, fs, dy, gs, rfl, rfl, ha, hb, q⟩ := h
  cases (show ov = Value.ref a from ru)
  cases (show iv = Value.ref b from rv)
  obtain ⟨_, O, _⟩ := ins_get I.hok ha
  obtain ⟨od, J, _⟩ := O.look
  obtain ⟨_, O', _⟩ := ins_get I.hok hb
  obtain ⟨od', J', _⟩ := O'.look
  obtain ⟨_, hF⟩ := I.fr
  show wpAny (model X.prog X.w) X.A (richCompare .Eq (.ref a) (.ref b)) (EP X pins σ Q) X.xe s
  refine PySem.W.cmp_K (op := .Eq) (tb := .ref C) (Nat.lt_of_le_of_lt (Nat.le_add_right _ 64) hr.units) hF I.ok.mod.kin J J'.type (by simp [PySem.W.notFirst]) a1 a2 ?_
  refine wpAny_mono (run_fn (us := [.ref a, .ref b]) (vs := [.ref a, .ref b]) G (hr.mono hj) bb .nil hx I (.cons rfl (.cons rfl .nil)) q) ?_ fun _ _ z => z
  rintro w s' ⟨z, H', I', rz, d, rfl, qz⟩
  cases rz
  exact ⟨.bl d, H', I', rfl, qz⟩
theorem op_neOwn (c : Kls X.K X.mg x C) (F : Own X.prog X.w X.K X.mg X.base CX k C "__eq__" ps sp) (hr : Room j X.A) (hx : Passes CX X E) (hj : k + 1 ≤ j := by first | decide | omega) : OpR X (compareOp .NotEq) (rOwnNe C sp E) := by
  obtain ⟨f, fd, G, a1, a2, a3, a4, bb⟩ := F.ex
  intro pins s σ H u v ov iv Q I ru rv h
  obtain ⟨a, b, dx, fs, dy, gs, rfl, rfl, ha, hb, q⟩ := h
  cases (show ov = Value.ref a from ru)
  cases (show iv = Value.ref b from rv)
  obtain ⟨_, O, _⟩ := ins_get I.hok ha
  obtain ⟨od, J, _⟩ := O.look
  obtain ⟨_, O', _⟩ := ins_get I.hok hb
  obtain ⟨od', J', _⟩ := O'.look
  obtain ⟨_, hF⟩ := I.fr
  show wpAny (model X.prog X.w) X.A (richCompare .NotEq (.ref a) (.ref b)) (EP X pins σ Q) X.xe s
  have hu := hr.units
  refine rich_ne (tb := .ref C) (by omega) I.kIn J J'.type (by simp [PySem.W.notFirst]) (obj_ne (by omega) I.kIn J c.ic.hm c.ne a1 a2 ?_)
  have e := I.env0
  have e0 : Env0 X.prog X.w X.K X.mg X.base X.A.in1 X.stack s H := ⟨e.frames, e.mod, e.bs, e.bsz, e.funs, e.frf, e.hok, e.bare⟩
  have hl := G.len _ _ _ _ q
  refine codeAny_mono (G.run X.A.in1 X.stack s H ⟨[.ref a, .ref b], []⟩ [.ref a, .ref b] [.ref a, .ref b] _ E (hr.mono hj).in1 e0 (by
    have := bb s [.ref a, .ref b] I.kIn (by simpa using hl)
    simpa using this) (.cons rfl (.cons rfl .nil)) q) fun r s' z => ?_
  match r, z with
  | .error e, z => exact hx pins σ H s e s' I z
  | .ok (.ret w), z =>
    obtain ⟨y, H', I', rz, d, rfl, qz⟩ := I.after z
    cases rz
    exact ⟨d, rfl, .bl (!d), H', I', rfl, qz⟩
/-- what is never come to -/
def tNone : TE := fun _ _ _ => False
theorem pe_none {e : Expr} : PE X e tNone := ⟨fun _ _ _ _ _ _ h => h.elim⟩
end
end Pk
set_option Elab.async false
set_option linter.all false
set_option maxRecDepth 100000
set_option maxHeartbeats 2000000
namespace Pk
open PySem PySem.Spec L2 PyProof.Rows
/-! ### Accounts -/
structure FxAccount (K : PySem.W.Frag) (C : Cs) : Prop where
  cl : Cls K C.Account
  n1 : NoAttr K C.Account "_credit"
  n2 : NoAttr K C.Account "_rule"
  n3 : NoAttr K C.Account "_unpassed"
  n4 : NoAttr K C.Account "_withheld"
  ic : C8.InsC K C.Account
def accF (cr : Int) (r : V) (u w : Int) : List (Str × V) := [("_credit", .int cr), ("_rule", r), ("_unpassed", .int u), ("_withheld", .int w)]
theorem nm_cr : (("_credit" : Str) == "_rule") = false ∧ (("_credit" : Str) == "_unpassed") = false ∧ (("_credit" : Str) == "_withheld") = false ∧ (("_rule" : Str) == "_unpassed") = false ∧ (("_rule" : Str) == "_withheld") = false ∧ (("_unpassed" : Str) == "_withheld") = false := by decide +kernel
theorem nm_rc : (("_rule" : Str) == "_credit") = false ∧ (("_unpassed" : Str) == "_credit") = false ∧ (("_withheld" : Str) == "_credit") = false ∧ (("_unpassed" : Str) == "_rule") = false ∧ (("_withheld" : Str) == "_rule") = false ∧ (("_withheld" : Str) == "_unpassed") = false := by decide +kernel
theorem nm_ne : ("_credit" : Str) ≠ "_rule" ∧ ("_credit" : Str) ≠ "_unpassed" ∧ ("_credit" : Str) ≠ "_withheld" ∧ ("_rule" : Str) ≠ "_unpassed" ∧ ("_rule" : Str) ≠ "_withheld" ∧ ("_unpassed" : Str) ≠ "_withheld" := by decide +kernel
section
variable {cr u w : Int} {r : V}
theorem lk_cr : List.lookup ("_credit" : Str) (accF cr r u w) = some (.int cr) := by unfold accF; rw [List.lookup, beq_self_eq_true]
theorem lk_ru : List.lookup ("_rule" : Str) (accF cr r u w) = some r := by unfold accF; rw [List.lookup, nm_rc.1, List.lookup, beq_self_eq_true]
theorem lk_un : List.lookup ("_unpassed" : Str) (accF cr r u w) = some (.int u) := by unfold accF; rw [List.lookup, nm_rc.2.1, List.lookup, nm_rc.2.2.2.1, List.lookup, beq_self_eq_true]
theorem lk_wi : List.lookup ("_withheld" : Str) (accF cr r u w) = some (.int w) := by unfold accF; rw [List.lookup, nm_rc.2.2.1, List.lookup, nm_rc.2.2.2.2.1, List.lookup, nm_rc.2.2.2.2.2, List.lookup, beq_self_eq_true]
theorem lk_no {f : Str} (h1 : (f == ("_credit" : Str)) = false) (h2 : (f == ("_rule" : Str)) = false) (h3 : (f == ("_unpassed" : Str)) = false) (h4 : (f == ("_withheld" : Str)) = false) : (accF cr r u w).lookup f = none := by
  unfold accF
  rw [List.lookup, h1, List.lookup, h2, List.lookup, h3, List.lookup, h4, List.lookup]
theorem put_un {x : Int} : putF "_unpassed" (.int x) (accF cr r u w) = accF cr r x w := by
  unfold accF
  rw [putF, if_neg nm_ne.2.1, putF, if_neg nm_ne.2.2.2.1, putF, if_pos rfl]
theorem put_wi {x : Int} : putF "_withheld" (.int x) (accF cr r u w) = accF cr r u x := by
  unfold accF
  rw [putF, if_neg nm_ne.2.2.1, putF, if_neg nm_ne.2.2.2.2.1, putF, if_neg nm_ne.2.2.2.2.2, putF, if_pos rfl]
theorem put_all : putF "_withheld" (.int w) (putF "_unpassed" (.int u) (putF "_rule" r (putF "_credit" (.int cr) []))) = accF cr r u w := by
  unfold accF
  simp only [putF, if_neg nm_ne.1, if_neg nm_ne.2.1, if_neg nm_ne.2.2.1, if_neg nm_ne.2.2.2.1, if_neg nm_ne.2.2.2.2.1, if_neg nm_ne.2.2.2.2.2]
theorem no_tree {C D dx dy : Addr} {x : V} {fs : List (Str × V)} (h : fs.length = 4) (z : HO.ins C dx fs = HO.ins D dy [("_tree", x)]) : False := by
  have e := congrArg List.length (HO.ins.inj z).2.2
  rw [h] at e
  cases e
end
/-- an Account: its credit, the tree of its Rule, what is unpassed, withheld -/
def AccAt (K : PySem.W.Frag) (C : Cs) (H : Hp) (v : V) (cr : Int) (T : Tr) (u w : Int) : Prop := ∃ a dx r, v = .ref a ∧ H a = some (.ins C.Account dx (accF cr r u w)) ∧ RuleAt K C H r T ∧ FxAccount K C
section
variable {K : PySem.W.Frag} {C : Cs} {vs : List V} {H H' G G' : Hp} {Q : VK} {E : XK} {n : Nat} {v : V} {cr u w : Int} {T : Tr} {a b : Addr}
theorem RuleAt.keep {r : V} {o : HO} (h : RuleAt K C H r T) (ha : H b = some o) (n1 : ∀ dx x, o ≠ .ins C.Rule dx [("_tree", x)]) (n2 : ∀ xs, o ≠ .tup xs) (n3 : ∀ ob xs, o ≠ .frz ob (.tup xs)) (k : Kp b H H') : RuleAt K C H' r T := by
  obtain ⟨a, dx, x, e, h1, h2, q⟩ := h
  refine ⟨a, dx, x, e, k _ _ h1 (ne_of h1 ha fun z => n1 dx x z.symm), h2.mono fun c xs q => ?_, q⟩
  rcases q with (q | ⟨ob, q⟩) | q
  · exact .inl (.inl (k _ _ q (ne_of q ha fun z => n2 _ z.symm)))
  · exact .inl (.inr ⟨ob, k _ _ q (ne_of q ha fun z => n3 _ _ z.symm)⟩)
  · exact .inr q
theorem AccAt.same (h : AccAt K C H v cr T u w) (s : Same H H') : AccAt K C H' v cr T u w := by
  obtain ⟨a, dx, r, e, h1, h2, fa⟩ := h
  exact ⟨a, dx, r, e, s _ _ h1, h2.same s, fa⟩
/-- an Account stays when a list is written -/
theorem AccAt.kp {ys : List V} (h : AccAt K C H v cr T u w) (k : Kp b H H') (hb : H b = some (.lst ys)) : AccAt K C H' v cr T u w := by
  obtain ⟨a, dx, r, e, h1, h2, fa⟩ := h
  exact ⟨a, dx, r, e, k _ _ h1 (ne_of h1 hb fun z => nomatch z), h2.kp k hb, fa⟩
/-- an Account stays when another one is written -/
theorem AccAt.kpA {dx : Addr} {fs : List (Str × V)} (h : AccAt K C H (.ref b) cr T u w) (k : Kp a H H') (ha : H a = some (.ins C.Account dx fs)) (hl : fs.length = 4) (ne : b ≠ a) : AccAt K C H' (.ref b) cr T u w := by
  obtain ⟨c, dy, r, e, h1, h2, fa⟩ := h
  cases e
  exact ⟨_, dy, r, rfl, k _ _ h1 ne, h2.keep ha (fun d x z => no_tree hl z) (fun _ z => nomatch z) (fun _ _ z => nomatch z) k, fa⟩
/-- written itself -/
theorem AccAt.put {dx : Addr} {r : V} (h1 : H a = some (.ins C.Account dx (accF cr r u w))) (h2 : RuleAt K C H r T) (fa : FxAccount K C) {u' w' : Int} : AccAt K C (upd H a (.ins C.Account dx (accF cr r u' w'))) (.ref a) cr T u' w' :=
  ⟨a, dx, r, rfl, upd_same, h2.keep h1 (fun d x z => no_tree rfl z) (fun _ z => nomatch z) (fun _ _ z => nomatch z) kp_put, fa⟩
def sp_Account_left (K : PySem.W.Frag) (C : Cs) : Sp := fun vs H Q _ => ∃ v cr T u w, vs = [v] ∧ AccAt K C H v cr T u w ∧ Q (.int (cr - u - w)) H
def sp_Account_unpassed (K : PySem.W.Frag) (C : Cs) : Sp := fun vs H Q _ => ∃ v cr T u w, vs = [v] ∧ AccAt K C H v cr T u w ∧ Q (.int u) H
def sp_Account_withheld (K : PySem.W.Frag) (C : Cs) : Sp := fun vs H Q _ => ∃ v cr T u w, vs = [v] ∧ AccAt K C H v cr T u w ∧ Q (.int w) H
def t_Account_left (K : PySem.W.Frag) : TS :=
  (tRet (tOp (rSubI) (tOp (rSubI) (tFld K (tVar 0) "_credit") (tFld K (tVar 0) "_unpassed")) (tFld K (tVar 0) "_withheld")))
def t_Account_unpassed (K : PySem.W.Frag) : TS :=
  (tRet (tFld K (tVar 0) "_unpassed"))
def t_Account_withheld (K : PySem.W.Frag) : TS :=
  (tRet (tFld K (tVar 0) "_withheld"))
theorem ln_Account_left (h : sp_Account_left K C vs H Q E) : vs.length = 1 := by obtain ⟨_, _, _, _, _, rfl, _⟩ := h; rfl
theorem ln_Account_unpassed (h : sp_Account_unpassed K C vs H Q E) : vs.length = 1 := by obtain ⟨_, _, _, _, _, rfl, _⟩ := h; rfl
theorem ln_Account_withheld (h : sp_Account_withheld K C vs H Q E) : vs.length = 1 := by obtain ⟨_, _, _, _, _, rfl, _⟩ := h; rfl
theorem rd_Account_left (h : sp_Account_left K C vs H Q E) : t_Account_left K (EndsOf Q) (start [""] vs) H := by
  obtain ⟨v, cr, T, u, w, rfl, ⟨a, dx, r, rfl, ha, _, fa⟩, k⟩ := h
  exact ⟨_, rfl, a, _, dx, _, _, rfl, ha, fa.cl, fa.n1, lk_cr, _, rfl, a, _, dx, _, _, rfl, ha, fa.cl, fa.n3, lk_un, _, _, rfl, rfl, _, rfl, a, _, dx, _, _, rfl, ha, fa.cl, fa.n4, lk_wi, _, _, rfl, rfl, k⟩
theorem rd_Account_unpassed (h : sp_Account_unpassed K C vs H Q E) : t_Account_unpassed K (EndsOf Q) (start [""] vs) H := by
  obtain ⟨v, cr, T, u, w, rfl, ⟨a, dx, r, rfl, ha, _, fa⟩, k⟩ := h
  exact ⟨_, rfl, a, _, dx, _, _, rfl, ha, fa.cl, fa.n3, lk_un, k⟩
theorem rd_Account_withheld (h : sp_Account_withheld K C vs H Q E) : t_Account_withheld K (EndsOf Q) (start [""] vs) H := by
  obtain ⟨v, cr, T, u, w, rfl, ⟨a, dx, r, rfl, ha, _, fa⟩, k⟩ := h
  exact ⟨_, rfl, a, _, dx, _, _, rfl, ha, fa.cl, fa.n4, lk_wi, k⟩
theorem rfl4 {r : V} : (accF cr r u w).length < 1000 := by show 4 < 1000; decide
def sp_Account___isub__ (K : PySem.W.Frag) (C : Cs) : Sp := fun vs H Q _ => ∃ a cr T u w m, vs = [.ref a, .int m] ∧ AccAt K C H (.ref a) cr T u w ∧ m ≤ cr - u - w ∧ ∀ H', Kp a H H' → AccAt K C H' (.ref a) cr T (u + m) w → Q (.ref a) H'
def sp_Account___iadd__ (K : PySem.W.Frag) (C : Cs) : Sp := fun vs H Q _ => ∃ a cr T u w m, vs = [.ref a, .int m] ∧ AccAt K C H (.ref a) cr T u w ∧ m ≤ u ∧ ∀ H', Kp a H H' → AccAt K C H' (.ref a) cr T (u - m) (w + m - T.give (w + m)) → Q (.ref a) H'
def t_Account___isub__ (K : PySem.W.Frag) (C : Cs) : TS :=
  (tSeq (tIfS (tTest (tOp (rGtI) (tVar 1) (tProp C.Account (sp_Account_left K C) [] E0 (tVar 0)))) tNever tNext)
    (tSeq (sFld K (tVar 0) (tOp (rAddU K) (tFld K (tVar 0) "_unpassed") (tVar 1)) "_unpassed")
    (tRet (tVar 0))))
def t_Account___iadd__ (K : PySem.W.Frag) (C : Cs) : TS :=
  (tSeq (tIfS (tTest (tOp (rGtI) (tVar 1) (tFld K (tVar 0) "_unpassed"))) tNever tNext)
    (tSeq (sFld K (tVar 0) (tOp (rSubI) (tFld K (tVar 0) "_unpassed") (tVar 1)) "_unpassed")
    (tSeq (sFld K (tVar 0) (tMeth C.Rule "rest" (sp_Rule_rest K C) [] E0 (tFld K (tVar 0) "_rule") (tCons (tOp (rAddU K) (tFld K (tVar 0) "_withheld") (tVar 1)) tNil)) "_withheld")
    (tRet (tVar 0)))))
theorem ln_Account___isub__ (h : sp_Account___isub__ K C vs H Q E) : vs.length = 2 := by obtain ⟨_, _, _, _, _, _, rfl, _⟩ := h; rfl
theorem ln_Account___iadd__ (h : sp_Account___iadd__ K C vs H Q E) : vs.length = 2 := by obtain ⟨_, _, _, _, _, _, rfl, _⟩ := h; rfl
theorem rd_Account___isub__ (h : sp_Account___isub__ K C vs H Q E) : t_Account___isub__ K C (EndsOf Q) (start ["", ""] vs) H := by
  obtain ⟨a, cr, T, u, w, m, rfl, A, hm, k⟩ := h
  obtain ⟨_, dx, r, e, ha, hr, fa⟩ := id A
  cases e
  refine ⟨_, rfl, _, rfl, a, dx, _, rfl, ha, _, cr, T, u, w, rfl, A, _, _, rfl, rfl, _, rfl, ?_⟩
  refine iteF' (decide_eq_false (by omega)) ?_
  refine ⟨_, rfl, a, _, dx, _, _, rfl, ha, fa.cl, fa.n3, lk_un, _, rfl, .inl ⟨_, _, rfl, rfl, _, rfl, a, _, dx, _, rfl, ha, fa.cl, fa.n3, rfl4, ?_⟩⟩
  rw [put_un]
  exact ⟨_, rfl, k _ kp_put (AccAt.put ha hr fa)⟩
theorem rd_Account___iadd__ (h : sp_Account___iadd__ K C vs H Q E) : t_Account___iadd__ K C (EndsOf Q) (start ["", ""] vs) H := by
  obtain ⟨a, cr, T, u, w, m, rfl, A, hm, k⟩ := h
  obtain ⟨_, dx, r, e, ha, hr, fa⟩ := id A
  cases e
  refine ⟨_, rfl, _, rfl, a, _, dx, _, _, rfl, ha, fa.cl, fa.n3, lk_un, _, _, rfl, rfl, _, rfl, ?_⟩
  refine iteF' (decide_eq_false (by omega)) ?_
  refine ⟨_, rfl, a, _, dx, _, _, rfl, ha, fa.cl, fa.n3, lk_un, _, rfl, _, _, rfl, rfl, _, rfl, a, _, dx, _, rfl, ha, fa.cl, fa.n3, rfl4, ?_⟩
  rw [put_un]
  have hr1 := hr.keep (H' := upd H a (.ins C.Account dx (accF cr r (u - m) w))) ha (fun d x z => no_tree rfl z) (fun _ z => nomatch z) (fun _ _ z => nomatch z) kp_put
  have ha1 : (upd H a (.ins C.Account dx (accF cr r (u - m) w))) a = some (.ins C.Account dx (accF cr r (u - m) w)) := upd_same
  have k1 : Kp a H (upd H a (.ins C.Account dx (accF cr r (u - m) w))) := kp_put
  show tSeq _ _ _ _ (upd H a (.ins C.Account dx (accF cr r (u - m) w)))
  generalize upd H a (.ins C.Account dx (accF cr r (u - m) w)) = G at hr1 ha1 k1 ⊢
  obtain ⟨ra, rd, ru, rfl, hra, _⟩ := id hr1
  refine ⟨_, rfl, a, _, dx, _, _, rfl, ha1, fa.cl, fa.n2, lk_ru, ra, rd, _, rfl, hra, lk_tree (by decide +kernel), ?_⟩
  refine ⟨_, rfl, a, _, dx, _, _, rfl, ha1, fa.cl, fa.n4, lk_wi, _, rfl, .inl ⟨_, _, rfl, rfl, ?_⟩⟩
  refine ⟨_, T, _, rfl, hr1, _, rfl, a, _, dx, _, rfl, ha1, fa.cl, fa.n4, rfl4, ?_⟩
  rw [put_wi]
  exact ⟨_, rfl, k _ k1.put (AccAt.put ha1 hr1 fa)⟩
def sp_Account_passes (K : PySem.W.Frag) (C : Cs) : Sp := fun vs H Q _ => ∃ a cr T u w z m, vs = [.ref a, .int z, .int m] ∧ AccAt K C H (.ref a) cr T u w ∧ 0 ≤ w ∧ w < T.top ∧ 1 ≤ z ∧ z ≤ 10 ^ 40 ∧ 0 ≤ m ∧ m ≤ 10 ^ 40 ∧ z * m ≤ u ∧
  ∀ H', Kp a H H' → AccAt K C H' (.ref a) cr T (u - z * m) (T.kp z w m.toNat) → Q (.int (w + m * z - T.kp z w m.toNat)) H'
def sp_Account_flows (K : PySem.W.Frag) (C : Cs) : Sp := fun vs H Q _ => ∃ a cr T u w z m, vs = [.ref a, .int z, .int m] ∧ AccAt K C H (.ref a) cr T u w ∧ 0 ≤ w ∧ w < T.top ∧ 1 ≤ z ∧ z ≤ 10 ^ 40 ∧ 0 ≤ m ∧ m ≤ 10 ^ 40 ∧ z ≤ cr - u - max w (T.pk z w m.toNat) ∧
  ∀ H', Kp a H H' → AccAt K C H' (.ref a) cr T u (T.kp z w m.toNat) → Q (.int (w + m * z - T.kp z w m.toNat)) H'
def t_Account_passes (K : PySem.W.Frag) (C : Cs) : TS :=
  (tSeq (tIfS (tTest (tOp (rGtI) (tOp (rMulU K) (tVar 1) (tVar 2)) (tFld K (tVar 0) "_unpassed"))) tNever tNext)
    (tSeq (tAsg (tCall (sp_repeated K C) [] E0 (tCons (tFld K (tVar 0) "_rule") (tCons (tFld K (tVar 0) "_withheld") (tCons (tVar 1) (tCons (tVar 2) tNil))))) (gTup K 3 (gCons (gName 3) (gCons (gName 4) (gCons (gName 5) gNil)))))
    (tSeq (sFld K (tVar 0) (tOp (rSubI) (tFld K (tVar 0) "_unpassed") (tOp (rMulU K) (tVar 1) (tVar 2))) "_unpassed")
    (tSeq (sFld K (tVar 0) (tVar 3) "_withheld")
    (tRet (tVar 4))))))
def t_Account_flows (K : PySem.W.Frag) (C : Cs) : TS :=
  (tSeq (tAsg (tCall (sp_repeated K C) [] E0 (tCons (tFld K (tVar 0) "_rule") (tCons (tFld K (tVar 0) "_withheld") (tCons (tVar 1) (tCons (tVar 2) tNil))))) (gTup K 3 (gCons (gName 3) (gCons (gName 4) (gCons (gName 5) gNil)))))
    (tSeq (tIfS (tTest (tOp (rLtI) (tOp (rSubI) (tOp (rSubI) (tFld K (tVar 0) "_credit") (tFld K (tVar 0) "_unpassed")) (tVar 5)) (tVar 1))) tNever tNext)
    (tSeq (sFld K (tVar 0) (tVar 3) "_withheld")
    (tRet (tVar 4)))))
theorem ln_Account_passes (h : sp_Account_passes K C vs H Q E) : vs.length = 3 := by obtain ⟨_, _, _, _, _, _, _, rfl, _⟩ := h; rfl
theorem ln_Account_flows (h : sp_Account_flows K C vs H Q E) : vs.length = 3 := by obtain ⟨_, _, _, _, _, _, _, rfl, _⟩ := h; rfl
theorem RuleAt.okk {r : V} (h : RuleAt K C H r T) : T.ok := by obtain ⟨_, _, _, _, _, _, ok, _⟩ := h; exact ok
theorem rd_Account_passes (h : sp_Account_passes K C vs H Q E) : t_Account_passes K C (EndsOf Q) (start ["", "", "", "", "", ""] vs) H := by
  obtain ⟨a, cr, T, u, w, z, m, rfl, A, w0, w1, z1, z2, m0, m2, hm, k⟩ := h
  obtain ⟨_, dx, r, e, ha, hr, fa⟩ := id A
  cases e
  have lim : (10 : Int) ^ 40 ≤ 10 ^ 100 := by decide
  have mk := mul_ok (i := z) (j := m) (by omega) (by omega)
  refine ⟨_, rfl, _, rfl, .inl ⟨_, _, rfl, rfl, mk, _, rfl, a, _, dx, _, _, rfl, ha, fa.cl, fa.n3, lk_un, _, _, rfl, rfl, _, rfl, ?_⟩⟩
  refine iteF' (decide_eq_false (by omega)) ?_
  refine ⟨_, rfl, a, _, dx, _, _, rfl, ha, fa.cl, fa.n2, lk_ru, _, rfl, a, _, dx, _, _, rfl, ha, fa.cl, fa.n4, lk_wi, _, rfl, _, rfl, ?_⟩
  refine ⟨r, T, w, z, m, rfl, hr, w0, w1, z1, z2, m0, m2, fun p G hp s hq => g3 hq ?_⟩
  have ha1 := s _ _ ha
  have hr1 := hr.same s
  refine ⟨_, rfl, a, _, dx, _, _, rfl, ha1, fa.cl, fa.n3, lk_un, _, rfl, _, rfl, .inl ⟨_, _, rfl, rfl, mk, _, _, rfl, rfl, _, rfl, a, _, dx, _, rfl, ha1, fa.cl, fa.n3, rfl4, ?_⟩⟩
  rw [put_un]
  have hr2 := hr1.keep (H' := upd G a (.ins C.Account dx (accF cr r (u - z * m) w))) ha1 (fun d x z => no_tree rfl z) (fun _ z => nomatch z) (fun _ _ z => nomatch z) kp_put
  have ha2 : (upd G a (.ins C.Account dx (accF cr r (u - z * m) w))) a = some (.ins C.Account dx (accF cr r (u - z * m) w)) := upd_same
  have k2 : Kp a H (upd G a (.ins C.Account dx (accF cr r (u - z * m) w))) := (Kp.of s).put
  show tSeq _ _ _ _ (upd G a (.ins C.Account dx (accF cr r (u - z * m) w)))
  generalize upd G a (.ins C.Account dx (accF cr r (u - z * m) w)) = G2 at hr2 ha2 k2 ⊢
  refine ⟨_, rfl, _, rfl, a, _, dx, _, rfl, ha2, fa.cl, fa.n4, rfl4, ?_⟩
  rw [put_wi]
  exact ⟨_, rfl, k _ k2.put (AccAt.put ha2 hr2 fa)⟩
theorem rd_Account_flows (h : sp_Account_flows K C vs H Q E) : t_Account_flows K C (EndsOf Q) (start ["", "", "", "", "", ""] vs) H := by
  obtain ⟨a, cr, T, u, w, z, m, rfl, A, w0, w1, z1, z2, m0, m2, hm, k⟩ := h
  obtain ⟨_, dx, r, e, ha, hr, fa⟩ := id A
  cases e
  refine ⟨_, rfl, a, _, dx, _, _, rfl, ha, fa.cl, fa.n2, lk_ru, _, rfl, a, _, dx, _, _, rfl, ha, fa.cl, fa.n4, lk_wi, _, rfl, _, rfl, ?_⟩
  refine ⟨r, T, w, z, m, rfl, hr, w0, w1, z1, z2, m0, m2, fun p G hp s hq => g3 hq ?_⟩
  have ha1 := s _ _ ha
  have hr1 := hr.same s
  refine ⟨_, rfl, a, _, dx, _, _, rfl, ha1, fa.cl, fa.n1, lk_cr, _, rfl, a, _, dx, _, _, rfl, ha1, fa.cl, fa.n3, lk_un, _, _, rfl, rfl, _, rfl, _, _, rfl, rfl, _, rfl, _, _, rfl, rfl, _, rfl, ?_⟩
  refine iteF' (decide_eq_false (by omega)) ?_
  refine ⟨_, rfl, _, rfl, a, _, dx, _, rfl, ha1, fa.cl, fa.n4, rfl4, ?_⟩
  rw [put_wi]
  exact ⟨_, rfl, k _ (Kp.of s).put (AccAt.put ha1 hr1 fa)⟩
def sp_Account___init__ (K : PySem.W.Frag) (C : Cs) : Sp := fun vs H Q _ => ∃ p dx cr r T, vs = [.ref p, .int cr, r] ∧ H p = some (.ins C.Account dx []) ∧ RuleAt K C H r T ∧ 1 ≤ cr ∧ FxAccount K C ∧ ∀ H', Kp p H H' → AccAt K C H' (.ref p) cr T 0 0 → Q .non H'
def t_Account___init__ (K : PySem.W.Frag) (C : Cs) : TS :=
  (tSeq (tIfS (tNot (tB (tCall (sp_is_number K) [] E0 (tCons (tC (.int 1)) (tCons (tVar 1) tNil))))) tNever tNext)
    (tSeq (tIfS (tNot (tB (tCB (rIsi K) (tCons (tVar 2) (tCons (tC (.ref C.Rule)) tNil))))) tNever tNext)
    (tSeq (sFld K (tVar 0) (tVar 1) "_credit")
    (tSeq (sFld K (tVar 0) (tVar 2) "_rule")
    (tSeq (sFld K (tVar 0) (tC (.int 0)) "_unpassed")
    (sFld K (tVar 0) (tC (.int 0)) "_withheld"))))))
theorem ln_Account___init__ (h : sp_Account___init__ K C vs H Q E) : vs.length = 3 := by obtain ⟨_, _, _, _, _, rfl, _⟩ := h; rfl
theorem rd_Account___init__ (h : sp_Account___init__ K C vs H Q E) : t_Account___init__ K C (EndsOf Q) (start ["", "", ""] vs) H := by
  obtain ⟨p, dx, cr, r, T, rfl, hp, hr, c1, fa, k⟩ := h
  obtain ⟨ra, rd, ru, rfl, hra, hru⟩ := id hr
  refine ⟨_, rfl, 1, cr, rfl, _, rfl, ?_⟩
  rw [decide_eq_true c1]
  have ic := hru.2.2.2.ic
  refine ⟨_, rfl, _, _, _, _, true, rfl, .own _, .base (.ins hra ic.cl ic.ha ic.hn ic.htk ic.hm), ic.me, true, rfl, ?_⟩
  refine ⟨_, rfl, _, rfl, p, _, dx, _, rfl, hp, fa.cl, fa.n1, by show 0 < 1000; decide, ?_⟩
  refine ⟨_, rfl, _, rfl, p, _, dx, _, rfl, upd_same, fa.cl, fa.n2, by show 1 < 1000; decide, ?_⟩
  refine ⟨_, rfl, p, _, dx, _, rfl, upd_same, fa.cl, fa.n3, by show 2 < 1000; decide, ?_⟩
  refine ⟨_, rfl, p, _, dx, _, rfl, upd_same, fa.cl, fa.n4, by show 3 < 1000; decide, ?_⟩
  rw [put_all]
  have kk : Kp p H (upd (upd (upd (upd H p (.ins C.Account dx (putF "_credit" (.int cr) []))) p (.ins C.Account dx (putF "_rule" (.ref ra) (putF "_credit" (.int cr) [])))) p (.ins C.Account dx (putF "_unpassed" (.int 0) (putF "_rule" (.ref ra) (putF "_credit" (.int cr) []))))) p (.ins C.Account dx (accF cr (.ref ra) 0 0))) := kp_put.put.put.put
  refine k _ kk ⟨p, dx, _, rfl, upd_same, hr.keep hp (fun d x z => ?_) (fun _ z => nomatch z) (fun _ _ z => nomatch z) kk, fa⟩
  exact nomatch (HO.ins.inj z).2.2
/-- Account(credit, rule) -/
theorem make_acc {u : V} (fa : FxAccount K C) (c1 : 1 ≤ cr) (hr : RuleAt K C G u T) (k : ∀ x H', G x = none → Same G H' → AccAt K C H' (.ref x) cr T 0 0 → Q (.ref x) H') :
    ∀ x dx, G x = none → G dx = none → dx ≠ x → sp_Account___init__ K C (.ref x :: ([.int cr, u] ++ [])) (upd (upd G dx (.own x)) x (.ins C.Account dx [])) (fun v H2 => v = .non ∧ Q (.ref x) H2) E := by
  intro x dx hx hd ne
  have s : Same G (upd (upd G dx (.own x)) x (.ins C.Account dx [])) := fun b o e => by
    rw [upd_ne (ne_of_none e hx), upd_ne (ne_of_none e hd)]
    exact e
  refine ⟨x, dx, cr, u, T, rfl, upd_same, hr.same s, c1, fa, fun H' k1 A => ⟨rfl, k x H' hx (fun b o e => k1 b o (s b o e) (ne_of_none e hx)) A⟩⟩
def sp_Rule___eq__ (K : PySem.W.Frag) (C : Cs) : Sp := fun vs H Q _ => ∃ x y T, vs = [x, y] ∧ RuleAt K C H x T ∧ RuleAt K C H y T ∧ Q (.bl true) H
def sp_Account___eq__ (K : PySem.W.Frag) (C : Cs) : Sp := fun vs H Q _ => ∃ x y cr T u w, vs = [x, y] ∧ AccAt K C H x cr T u w ∧ AccAt K C H y cr T u w ∧ 0 ≤ cr ∧ cr ≤ 10 ^ 100 ∧ 0 ≤ u ∧ u ≤ 10 ^ 100 ∧ 0 ≤ w ∧ w ≤ 10 ^ 100 ∧ ∀ H', Same H H' → Q (.bl true) H'
def t_Rule___eq__ (K : PySem.W.Frag) (C : Cs) : TS :=
  (tSeq (tIfS (tNot (tB (tCB (rIsi K) (tCons (tVar 1) (tCons (tC (.ref C.Rule)) tNil))))) (tRet (tC (.bl false))) tNext)
    (tRet (tOrV (tOp (rEqU K) (tFld K (tVar 0) "_tree") (tFld K (tVar 1) "_tree")) tNone)))
def t_Account___eq__ (K : PySem.W.Frag) (C : Cs) : TS :=
  (tSeq (tIfS (tNot (tB (tCB (rIsi K) (tCons (tVar 1) (tCons (tC (.ref C.Account)) tNil))))) (tRet (tC (.bl false))) tNext)
    (tSeq (tAsg (tTup (tCons (tFld K (tVar 0) "_credit") (tCons (tFld K (tVar 0) "_unpassed") (tCons (tFld K (tVar 0) "_withheld") tNil)))) (gName 2))
    (tRet (tAndV (tOp (rEqU K) (tVar 2) (tTup (tCons (tFld K (tVar 1) "_credit") (tCons (tFld K (tVar 1) "_unpassed") (tCons (tFld K (tVar 1) "_withheld") tNil))))) (tOp (rOwnEq C.Rule (sp_Rule___eq__ K C) E0) (tFld K (tVar 0) "_rule") (tFld K (tVar 1) "_rule"))))))
theorem ln_Rule___eq__ (h : sp_Rule___eq__ K C vs H Q E) : vs.length = 2 := by obtain ⟨_, _, _, rfl, _⟩ := h; rfl
theorem ln_Account___eq__ (h : sp_Account___eq__ K C vs H Q E) : vs.length = 2 := by obtain ⟨_, _, _, _, _, _, rfl, _⟩ := h; rfl
theorem rd_Rule___eq__ (h : sp_Rule___eq__ K C vs H Q E) : t_Rule___eq__ K C (EndsOf Q) (start ["", ""] vs) H := by
  obtain ⟨x, y, T, rfl, ⟨a, dx, u, rfl, ha, hT, ok, l6, fx⟩, ⟨b, dy, z, rfl, hb, hZ, _, _, _⟩, k⟩ := h
  refine ⟨_, rfl, _, _, _, _, true, rfl, .own _, .base (.ins hb fx.ic.cl fx.ic.ha fx.ic.hn fx.ic.htk fx.ic.hm), fx.ic.me, true, rfl, ?_⟩
  have g := (gt_tree ok).good (by omega) (by omega)
  refine ⟨_, rfl, a, _, dx, _, u, rfl, ha, fx.cl, fx.no, rfl, _, rfl, b, _, dy, _, z, rfl, hb, fx.cl, fx.no, rfl, .inr ⟨T.pd, T.pd, hT.dp, hZ.dp, g.sh, g.sh, ?_⟩⟩
  rw [g.same]
  exact ⟨true, rfl, k⟩
theorem dp3' {p : Addr} {x y z : Int} (h : SqT K H p [.int x, .int y, .int z]) : Dp K H (.ref p) (.tuple [.int x, .int y, .int z]) := .tup h (.cons (.int _) (.cons (.int _) (.cons (.int _) .nil)))
theorem rd_Account___eq__ (h : sp_Account___eq__ K C vs H Q E) : t_Account___eq__ K C (EndsOf Q) (start ["", "", ""] vs) H := by
  obtain ⟨x, y, cr, T, u, w, rfl, ⟨a, dx, r, rfl, ha, hr, fa⟩, ⟨b, dy, r2, rfl, hb, hr2, _⟩, c0, c1, u0, u1, w0, w1, k⟩ := h
  refine ⟨_, rfl, _, _, _, _, true, rfl, .own _, .base (.ins hb fa.ic.cl fa.ic.ha fa.ic.hn fa.ic.htk fa.ic.hm), fa.ic.me, true, rfl, ?_⟩
  refine ⟨_, rfl, a, _, dx, _, _, rfl, ha, fa.cl, fa.n1, lk_cr, _, rfl, a, _, dx, _, _, rfl, ha, fa.cl, fa.n3, lk_un, _, rfl, a, _, dx, _, _, rfl, ha, fa.cl, fa.n4, lk_wi, two_fit.2.2.1, fun p hp => ?_⟩
  have s1 := same_new (o := .tup [.int cr, .int u, .int w]) hp
  have hb1 := s1 _ _ hb
  refine ⟨_, rfl, _, rfl, b, _, dy, _, _, rfl, hb1, fa.cl, fa.n1, lk_cr, _, rfl, b, _, dy, _, _, rfl, hb1, fa.cl, fa.n3, lk_un, _, rfl, b, _, dy, _, _, rfl, hb1, fa.cl, fa.n4, lk_wi, two_fit.2.2.1, fun q hq => ?_⟩
  have s2 := same_new (o := .tup [.int cr, .int u, .int w]) hq
  have s := s1.trans s2
  have g : Good (.tuple [.int cr, .int u, .int w]) := (gt_tuple (at_cons (gt_int (by omega)) (at_cons (gt_int (by omega)) (at_cons (gt_int (by omega)) at_nil)))).good
  refine .inr ⟨_, _, dp3' (SqT.of (s2 _ _ upd_same)), dp3' (SqT.of upd_same), g.sh, g.sh, ?_⟩
  rw [g.same]
  obtain ⟨ra, rd, ru, rfl, hra, _⟩ := id (hr.same s)
  obtain ⟨rb, re, rv, rfl, hrb, _⟩ := id (hr2.same s)
  refine ⟨true, rfl, ?_⟩
  refine ⟨_, rfl, a, _, dx, _, _, rfl, s _ _ ha, fa.cl, fa.n2, lk_ru, _, rfl, b, _, dy, _, _, rfl, s _ _ hb, fa.cl, fa.n2, lk_ru, ?_⟩
  exact ⟨ra, rb, rd, _, re, _, rfl, rfl, hra, hrb, _, _, T, rfl, hr.same s, hr2.same s, true, rfl, k _ s⟩
end
end Pk
set_option Elab.async false
set_option linter.all false
set_option maxRecDepth 100000
set_option maxHeartbeats 2000000
namespace Pk
open PySem PySem.Spec L2 PyProof.Rows
/-! ### what laws over Accounts share -/
section
variable {K : PySem.W.Frag} {C : Cs} {vs : List V} {H H' G G' : Hp} {Q : VK} {E : XK} {n : Nat} {v : V} {cr u w : Int} {T : Tr} {a b l : Addr}
theorem Tups.kpi {D dx : Addr} {fs : List (Str × V)} (k : Kp a G G') (ha : G a = some (.ins D dx fs)) : Tups K G G' := fun c xs q => by
  rcases q with (q | ⟨ob, q⟩) | q
  · exact .inl (.inl (k _ _ q (ne_of q ha fun z => nomatch z)))
  · exact .inl (.inr ⟨ob, k _ _ q (ne_of q ha fun z => nomatch z)⟩)
  · exact .inr q
theorem Bag.kpi {D dx : Addr} {fs : List (Str × V)} (B : Bag G b l) (k : Kp a G G') (ha : G a = some (.ins D dx fs)) : Bag G' b l := by
  obtain ⟨x, m, p, xs, h1, h2, r⟩ := B.ex
  exact ⟨x, m, p, xs, k _ _ h1 (ne_of h1 ha fun z => nomatch z), k _ _ h2 (ne_of h2 ha fun z => nomatch z), r⟩
theorem AccAt.ins (h : AccAt K C H (.ref a) cr T u w) : ∃ dx r, H a = some (.ins C.Account dx (accF cr r u w)) := by
  obtain ⟨_, dx, r, e, h1, _⟩ := h
  cases e
  exact ⟨dx, r, h1⟩
theorem AccAt.kpB {c : Addr} (h : AccAt K C H (.ref a) cr T u w) (B : Bag H b c) (k : Kp b H H') : AccAt K C H' (.ref a) cr T u w := by
  obtain ⟨ys, hb⟩ := B.at
  exact h.kp k hb
def sp_law_one_by_one (K : PySem.W.Frag) (C : Cs) : Sp := fun vs H Q _ => ∃ a cr T u w z, ∃ (m : Nat) (f : Bool), vs = [.ref a, .int z, .int m, .bl f] ∧ AccAt K C H (.ref a) cr T u w ∧ 0 ≤ w ∧ w < T.top ∧ 1 ≤ z ∧ m ≤ 100 ∧ 0 ≤ u ∧
  ((f = true ∧ z ≤ cr - u - max w (T.pk z w m)) ∨ (f = false ∧ m * z ≤ u)) ∧ ∀ H', Kp a H H' → AccAt K C H' (.ref a) cr T (if f then u else u - m * z) (T.kp z w m) → Q .non H'
def t_law_one_by_one (K : PySem.W.Frag) (C : Cs) : TS :=
  (tFor (iRng1 (tCons (tVar 2) tNil)) (gName 4) (Evl.tCut (tIfS (tB (tVar 3)) (tAug 0 (tVar 1) (ipOwn C.Account (sp_Account___isub__ K C) E0)) tNext)
    (tAug 0 (tVar 1) (ipOwn C.Account (sp_Account___iadd__ K C) E0))))
theorem ln_law_one_by_one (h : sp_law_one_by_one K C vs H Q E) : vs.length = 4 := by obtain ⟨_, _, _, _, _, _, _, _, rfl, _⟩ := h; rfl
theorem Tr.kp_pk {z : Int} : ∀ {i m : Nat}, i < m → T.kp z w i ≤ T.pk z w m
  | i, m + 1, h => by
    rw [Tr.pk_s]
    by_cases e : i = m
    · subst e; omega
    · have := Tr.kp_pk (z := z) (show i < m by omega)
      omega
theorem rd_law_one_by_one (h : sp_law_one_by_one K C vs H Q E) : t_law_one_by_one K C (EndsOf Q) (start ["", "", "", "", ""] vs) H := by
  obtain ⟨a, cr, T, u, w, z, m, f, rfl, A, w0, w1, z1, m1, u0, hf, k⟩ := h
  refine ⟨_, rfl, m, rfl, by omega, by omega, ?_⟩
  have eM : (m : Int).toNat = m := by omega
  rw [eM]
  have ok : T.ok := by
    obtain ⟨_, _, _, _, _, hr, _⟩ := id A
    exact hr.okk
  refine for_range (lo := 0) (n := m) (fun i σ' G => ∃ s4, σ' = [some (.ref a), some (.int z), some (.int m), some (.bl f), s4] ∧ Kp a H G ∧ AccAt K C G (.ref a) cr T (if f then u else u - i * z) (T.kp z w i))
    ⟨none, rfl, Kp.refl, ?_⟩ ?_ (fun σ' G ⟨_, _, kk, A'⟩ => k G kk A')
  · have : (if f = true then u else u - ((0 : Nat) : Int) * z) = u := by split <;> simp
    rw [this]
    exact A
  rintro i σ' G hi ⟨s4, rfl, kk, A1⟩
  obtain ⟨q0, q1⟩ := Tr.kp_ok ok z1 w0 w1 i
  have hk : T.kp z w i ≤ T.pk z w m := Tr.kp_pk hi
  have e : ((i + 1 : Nat) : Int) * z = i * z + z := by rw [Int.natCast_add, Int.add_mul]; omega
  have mz : ((i + 1 : Nat) : Int) * z ≤ m * z := Int.mul_le_mul_of_nonneg_right (by omega) (by omega)
  refine ⟨fun σ2 G2 => σ2 = [some (.ref a), some (.int z), some (.int m), some (.bl f), some (.int (0 + i))] ∧ Kp a H G2 ∧ AccAt K C G2 (.ref a) cr T ((if f then u else u - ((i + 1 : Nat) : Int) * z) + z) (T.kp z w i), ?_, ?_⟩
  · refine ⟨_, rfl, _, rfl, ?_⟩
    rcases hf with ⟨rfl, hf⟩ | ⟨rfl, hf⟩
    · refine iteT' rfl ?_
      obtain ⟨dx, r, ha⟩ := A1.ins
      refine ⟨_, rfl, _, rfl, a, dx, _, rfl, ha, a, cr, T, _, _, z, rfl, A1, ?_, fun G2 k2 A2 => ⟨rfl, kk.trans k2, A2⟩⟩
      show z ≤ cr - u - T.kp z w i
      omega
    · refine iteF' rfl ⟨rfl, kk, ?_⟩
      have : (if false = true then u else u - ((i + 1 : Nat) : Int) * z) + z = (if false = true then u else u - (i : Int) * z) := by
        rw [if_neg (by decide), if_neg (by decide), e]
        omega
      rw [this]
      exact A1
  · rintro σ2 G2 ⟨rfl, k2, A2⟩
    obtain ⟨dx, r, ha⟩ := A2.ins
    refine ⟨_, rfl, _, rfl, a, dx, _, rfl, ha, a, cr, T, _, _, z, rfl, A2, ?_, fun G3 k3 A3 => ⟨_, rfl, k2.trans k3, ?_⟩⟩
    · have un : 0 ≤ (if f = true then u else u - ((i + 1 : Nat) : Int) * z) := by
        rcases hf with ⟨rfl, hf⟩ | ⟨rfl, hf⟩
        · rw [if_pos rfl]
          exact u0
        · rw [if_neg (by decide)]
          omega
      omega
    · have e2 : (if f = true then u else u - ((i + 1 : Nat) : Int) * z) + z - z = (if f = true then u else u - ((i + 1 : Nat) : Int) * z) := by omega
      rw [e2] at A3
      exact A3
/-! ### a tree drawn by its depth -/
def sp_law_draw_tree (K : PySem.W.Frag) (n : Nat) : Sp := fun vs H Q _ => ∃ b l top sc, ∃ d : Nat, vs = [.ref b, .int top, .int sc, .int d] ∧ Bag H b l ∧ 1 ≤ top ∧ top ≤ 1000 ∧ 1 ≤ sc ∧ top * sc ≤ 10 ^ 50 ∧ d + 1 ≤ n ∧
  ∀ v T H', TrAt K H' v T → T.ok → T.le (top * sc) → T.lv ≤ 2 ^ d → Bag H' b l → Kp b H H' → Q v H'
def t_law_draw_tree (K : PySem.W.Frag) (n : Nat) : TS :=
  (tSeq (tAsg (tCall (sp_law_take K) [] E0 (tCons (tVar 0) (tCons (tC (.int 4)) tNil))) (gName 4))
    (tSeq (tIfS (tOr (tTest (tOp (rEqU K) (tVar 3) (tC (.int 0)))) (tTest (tOp (rLtI) (tVar 4) (tC (.int 2))))) (tRet (tTup (tCons (tC (.str "at")) (tCons (tCall (sp_law_draw_size K) [] E0 (tCons (tVar 0) (tCons (tVar 1) (tCons (tVar 2) tNil)))) (tCons (tOp (rAddU K) (tC (.int 1)) (tCall (sp_law_take K) [] E0 (tCons (tVar 0) (tCons (tC (.int 6)) tNil)))) tNil))))) tNext)
    (tSeq (tAsg (tLc (iRng1 (tCons (tC (.int 2)) tNil)) (gName 7) tYes (tCall (sp_law_draw_tree K n) [] E0 (tCons (tVar 0) (tCons (tVar 1) (tCons (tVar 2) (tCons (tOp (rSubI) (tVar 3) (tC (.int 1))) tNil))))) [7]) (gLst K 2 (gCons (gName 5) (gCons (gName 6) gNil))))
    (tRet (tTup (tCons (tOp (rIx K) (tLst (tCons (tC (.str "or")) (tCons (tC (.str "and")) tNil))) (tOp (rSubI) (tVar 4) (tC (.int 2)))) (tCons (tVar 5) (tCons (tVar 6) tNil))))))))
theorem no_law_draw_tree (h : sp_law_draw_tree K 0 vs H Q E) : False := by
  obtain ⟨_, _, _, _, _, _, _, _, _, _, _, h, _⟩ := h
  omega
theorem ln_law_draw_tree (h : sp_law_draw_tree K n vs H Q E) : vs.length = 4 := by obtain ⟨_, _, _, _, _, rfl, _⟩ := h; rfl
theorem rd_law_draw_tree (h : sp_law_draw_tree K (n + 1) vs H Q E) : t_law_draw_tree K n (EndsOf Q) (start ["", "", "", "", "", "", "", ""] vs) H := by
  obtain ⟨b, l, top, sc, d, rfl, B, t1, t2, s1, ts, hd, k⟩ := h
  refine ⟨_, rfl, b, l, 4, rfl, B, by decide, by decide, fun r G r0 r1 B1 k1 => ?_⟩
  refine ⟨_, rfl, .inl ⟨rfl, _, rfl, ?_⟩⟩
  have leaf : tRet (tTup (tCons (tC (.str "at")) (tCons (tCall (sp_law_draw_size K) [] E0 (tCons (tVar 0) (tCons (tVar 1) (tCons (tVar 2) tNil)))) (tCons (tOp (rAddU K) (tC (.int 1)) (tCall (sp_law_take K) [] E0 (tCons (tVar 0) (tCons (tC (.int 6)) tNil)))) tNil))))
      (EndsOf Q) [some (.ref b), some (.int top), some (.int sc), some (.int d), some (.int r), none, none, none] G := by
    refine ⟨_, rfl, _, rfl, _, rfl, b, l, top, sc, rfl, B1, t1, t2, s1, fun t G1 a0 a1 B2 k2 => ?_⟩
    refine ⟨_, rfl, b, l, 6, rfl, B2, by decide, by decide, fun q G2 q0 q1 B3 k3 => .inl ⟨_, _, rfl, rfl, two_fit.2.2.1, fun p hp => ?_⟩⟩
    have s4 := same_new (o := .tup [.str "at", .int t, .int (1 + q)]) hp
    exact k (.ref p) (.at t (1 + q)) _ ⟨p, rfl, SqT.of upd_same⟩ ⟨a0, by omega, by omega, by omega⟩ a1 (Nat.pow_pos (by decide)) (B3.same s4) (k1.trans (k2.trans (k3.trans (Kp.of s4))))
  refine ifI (fun _ => leaf) (fun e => ?_)
  refine ⟨_, rfl, _, _, rfl, rfl, _, rfl, ?_⟩
  refine ifD (fun _ => leaf) (fun hr => ?_)
  clear leaf
  obtain ⟨e', rfl⟩ : ∃ e' : Nat, d = e' + 1 := ⟨d - 1, by omega⟩
  refine ⟨2, rfl, by decide, by decide, fun D hD => ?_⟩
  have f1 : H D = none := k1.freeB B1 hD
  refine lc_range (lo := 0) (n := 2) (fun i G' => Bag G' b l ∧ Kp b H G' ∧ ∃ zs : Ps, zs.length = i ∧ G' D = some (.lst (zs.map (·.1))) ∧ ∀ z ∈ zs, TrAt K G' z.1 z.2 ∧ z.2.ok ∧ z.2.le (top * sc) ∧ z.2.lv ≤ 2 ^ e') ⟨B1.same (same_new hD), k1.laid hD, [], rfl, upd_same, fun z hz => nomatch hz⟩ ?_ ?_
  · rintro i G' hi ⟨B2, k2, zs, hl, hz, ok⟩
    refine ⟨rfl, ?_⟩
    refine ⟨_, rfl, _, rfl, _, rfl, _, rfl, _, _, rfl, rfl, b, l, top, sc, e', ?_, B2, t1, t2, s1, ts, by omega, fun v T G1 a1 a2 a3 a4 B3 k3 => ?_⟩
    · show [V.ref b, .int top, .int sc, .int (((e' + 1 : Nat) : Int) - 1)] = _
      rw [show ((e' + 1 : Nat) : Int) - 1 = (e' : Int) by omega]
    have hz2 := k3 D _ hz (B.nb f1)
    refine ⟨_, hz2, small1000 (by rw [List.length_map]; omega), B3.put (B.nb f1).symm (B.nl f1).symm, (k2.trans k3).other f1, zs ++ [(v, T)], by rw [List.length_append, hl]; rfl, by rw [upd_same, List.map_append]; rfl, fun z q => ?_⟩
    have tp : Tups K G1 _ := lst_tups (o := .lst (zs.map (·.1) ++ [v])) hz2
    rcases List.mem_append.mp q with q | q
    · exact ⟨((ok z q).1.mono (B2.tups k3)).mono tp, (ok z q).2⟩
    · rw [List.mem_singleton.mp q]
      exact ⟨a1.mono tp, a2, a3, a4⟩
  rintro G' ⟨B2, k2, zs, hl, hz, ok⟩
  obtain ⟨⟨v1, T1⟩, ⟨v2, T2⟩, rfl⟩ : ∃ z1 z2, zs = [z1, z2] := by
    match zs, hl with
    | [z1, z2], _ => exact ⟨z1, z2, rfl⟩
  obtain ⟨o1, o2, o3, o4⟩ := ok _ (List.mem_cons_self ..)
  obtain ⟨p1, p2, p3, p4⟩ := ok _ (List.mem_cons_of_mem _ (List.mem_cons_self ..))
  refine ⟨D, _, rfl, SqL.of hz, rfl, _, _, rfl, _, _, rfl, rfl, ?_⟩
  refine ⟨two_fit.2.1, fun p hp => ?_⟩
  have s3 := same_new (o := .lst [.str "or", .str "and"]) hp
  obtain ⟨wd, hw, cw⟩ := pick2 (x := .str "or") (y := .str "and") (v := r - 2) (by omega) (by omega)
  refine ⟨_, rfl, _, _, rfl, rfl, .inl ⟨p, _, r - 2, wd, rfl, rfl, SqL.of upd_same, hw, ?_⟩⟩
  refine ⟨_, rfl, _, rfl, two_fit.2.2.1, fun q hq => ?_⟩
  have s4 := same_new (o := .tup [wd, v1, v2]) hq
  have s5 := s3.trans s4
  have lv : T1.lv + T2.lv ≤ 2 ^ (e' + 1) := by
    have : 2 ^ (e' + 1) = 2 ^ e' + 2 ^ e' := by rw [Nat.pow_succ]; omega
    have q1 : T1.lv ≤ 2 ^ e' := o4
    have q2 : T2.lv ≤ 2 ^ e' := p4
    omega
  rcases cw with ⟨_, rfl⟩ | ⟨_, rfl⟩
  · exact k (.ref q) (.or T1 T2) _ ⟨q, v1, v2, rfl, SqT.of upd_same, o1.mono (Tups.same s5), p1.mono (Tups.same s5)⟩ ⟨o2, p2⟩ ⟨o3, p3⟩ lv (B2.same s5) (k2.trans (Kp.of s5))
  · exact k (.ref q) (.and T1 T2) _ ⟨q, v1, v2, rfl, SqT.of upd_same, o1.mono (Tups.same s5), p1.mono (Tups.same s5)⟩ ⟨o2, p2⟩ ⟨o3, p3⟩ lv (B2.same s5) (k2.trans (Kp.of s5))
end
end Pk
set_option Elab.async false
set_option linter.all false
set_option maxRecDepth 100000
set_option maxHeartbeats 2000000
/-! own errors: raised, let out, caught -/
namespace Pk
open PySem PySem.Spec L2 PyProof.Rows
/-- an own error class: where it stands, what it may -/
structure ErrK (K : PySem.W.Frag) (mg : Str → Option Value) (x : Str) (C : Addr) : Prop where
  at_ : mg x = some (.ref C)
  oex : OexC K C
  xf : XfC K C
  ex : ExcC K C
/-- its __init__ -/
structure ErrI (P : Program) (w : World) (K : PySem.W.Frag) (mg : Str → Option Value) (base : Heap) (k : Nat) (C : Addr) (ps : List Str) (sp : Sp) : Prop where
  ex : ∃ f fd, FnOk P w K mg base CX0 k f fd ps sp ∧ PySem.W.findIn K (.ref C) "__init__" = some (some (.ref f)) ∧ PySem.W.typeIn K (.ref f) = some (.type "function") ∧ Binds K fd ps []
section
variable {X : Cx} {CX : CXT} {k j : Nat} {C D a : Addr} {ps : List Str} {sp : Sp} {x : Str} {p pos : Pos} {e b : Expr} {es : List Expr} {t : TA} {ta tb : TE} {oe : Obj} {cls : Value} {d : Option Addr} {pn : List (Addr × Obj)}
theorem pmk_err (c : ErrK X.K X.mg x C) (F : ErrI X.prog X.w X.K X.mg X.base k C ps sp) (hr : Room j X.A) (ha : PA X (e :: es) t) (hj : k + 1 ≤ j := by first | decide | omega) (hg : Gl X x := by rfl)
    (h1 : (x == ("__debug__" : Str)) = false := by decide) (h2 : starEach (e :: es) X.env = (false, eval e X.env) :: starEach es X.env := by rfl) (h3 : (backTo pos (starEach es X.env)).any (·.1) = false := by rfl) :
    PMk X (.Call (.Name x p) (e :: es) [] pos) (tMkO C sp [] t) := by
  obtain ⟨f, fd, G, a1, a2, bb⟩ := F.ex
  exact pmk_oex c.oex a1 a2 G (hr.mono hj) bb .nil (fun _ _ _ _ _ _ _ z => z.elim) hg c.at_ ha h1 h2 h3
/-- what comes of C(v), one field -/
def rOneI (K : PySem.W.Frag) (C : Addr) (f : Str) : Sp := fun vs H Q _ => ∃ a y, vs = [.ref a, y] ∧ OexC K C ∧ PySem.W.findIn K (.ref C) f = some none ∧ H a = some (exo a C none) ∧ ∀ dx, H dx = none → dx ≠ a → Q .non (upd (upd H dx (exd dx [(f, y)])) a (exo a C (some dx)))
theorem made_err {K : PySem.W.Frag} {f : Str} {y : V} {H : Hp} {Q : XK} (ox : OexC K C) (nf : PySem.W.findIn K (.ref C) f = some none) (k : ∀ d H', H d = none → Same H H' → H' d = some (.xd [(f, y)]) → Q (.ref C) (some d) H') :
    ([y] : List V).length ≤ 1000 ∧ ∀ a, H a = none → rOneI K C f (.ref a :: ([y] ++ [])) (upd H a (exo a C none))
      (fun v H2 => v = .non ∧ ∃ (d : Addr) (fs : List (Str × V)), H2 a = some (exo a C (some d)) ∧ H2 d = some (exd d fs) ∧ H d = none ∧ Q (.ref C) (some d) (upd (del H2 a) d (.xd fs))) (fun _ _ _ => False) := by
  refine ⟨by show 1 ≤ 1000; decide, fun a ha => ⟨a, y, rfl, ox, nf, upd_same, fun dx hd ne => ⟨rfl, dx, [(f, y)], upd_same, ?_, ?_, ?_⟩⟩⟩
  · rw [upd_ne ne, upd_same]
  · rw [upd_ne ne] at hd
    exact hd
  · rw [upd_ne ne] at hd
    refine k dx _ hd (fun b o q => ?_) upd_same
    rw [upd_ne (ne_of_none q hd), del_ne (ne_of_none q ha), upd_ne (ne_of_none q ha), upd_ne (ne_of_none q hd), upd_ne (ne_of_none q ha)]
    exact q
/-- isinstance(n, c), n the caught error of the class at D that has its dict -/
def rIsD (K : PySem.W.Frag) (D a : Addr) (cls : Value) (d : Option Addr) : List V → Hp → VK → Prop := fun xs H Q => ∃ (c : V) (cv : Value) (b : Bool) (dd : Addr) (fs : List (Str × V)), xs = [.ref a, c] ∧ cls = .ref D ∧ d = some dd ∧ H dd = some (.xd fs) ∧ (∀ u, RelV c u → u = cv) ∧ PySem.W.kitOne K (.ref D) cv = some b ∧ Q (.bl b) H
theorem call_isD (T : ExcC X.K D) (hz : Zc cls d oe) (hf : ∃ vs, oe.data = .fields vs) : CallR (X.suite a ((a, oe) :: pn)) (.builtin "isinstance") (rIsD X.K D a cls d) := by
  intro pins s σ H xs us Q I r h
  obtain ⟨c, cv, b, dd, fs, rfl, rfl, rfl, hx, hcv, ek, q⟩ := h
  obtain ⟨u1, u2, rfl, r1, r2⟩ := vals2 r
  cases r1
  obtain rfl := hcv _ r2
  obtain ⟨at_, _⟩ := I.pin (a, oe) (List.mem_append.mpr (.inl List.mem_cons_self))
  obtain ⟨vs, hv⟩ := hf
  obtain ⟨mA, hns, _⟩ := (show ObjOk X.prog X.w H s.heap dd (.xd fs) from I.hok dd _ hx)
  obtain ⟨od, ho, _⟩ := lookIn_ns hns
  have J : PySem.W.InstAt s.heap a oe D (some od) := ⟨at_, hz.1, by unfold PySem.W.notCls; rw [hv] <;> rfl, by rw [hz.2]; exact ho⟩
  have hc : (PySem.W.clsIn X.K D).isSome = true := by obtain ⟨cd, e1, _⟩ := PySem.W.any_some T.hd; rw [e1]; rfl
  exact PySem.W.kia_one (PySem.W.kitx_exc hc T.hg T.hk T.hs T.ha T.hn T.ht T.hm) I.kIn J ek (fun z => nomatch z) fun tk => ⟨.bl b, H, I.kept (t' := tk) fun _ _ z => z, rfl, q⟩
/-- an operator that may let an error out, by the slots -/
def tOpS (r : L2.St → R2) (ta tb : TE) : TE := fun σ H Q => ta σ H fun x H1 => tb σ H1 fun y H2 => r σ x y H2 Q
theorem pe_opS {op : Operator} {r : L2.St → R2} (ho : ∀ (pins : List (Addr × Obj)) (s : Shared) (σ : L2.St) (H : Hp) (x y : V) (v u : Value) (Q : VK), Inv X pins σ H s → RelV x v → RelV y u → r σ x y H Q → wpAny (model X.prog X.w) X.A (binaryOp op v u) (EP X pins σ Q) X.xe s)
    (ha : PE X e ta) (hb : PE X b tb) : PE X (.BinOp e op b pos) (tOpS r ta tb) := by
  refine ⟨fun pins s σ H Q I h => ?_⟩
  exact wpAny_BinOp (binT ha hb I h fun v u s2 x y H2 I2 rx ry q => ho pins s2 σ H2 x y v u Q I2 rx ry q)
theorem op_ownBS {op : Operator} {E : L2.St → XK} (c : Kls X.K X.mg x C) (F : Own X.prog X.w X.K X.mg X.base CX k C (PySem.dunder op.info.2) ps sp) (hr : Room j X.A) (hx : ∀ σ, PassesAt CX X σ (E σ)) (hj : k ≤ j := by first | decide | omega)
    (pins : List (Addr × Obj)) (s : Shared) (σ : L2.St) (H : Hp) (u v : V) (ov iv : Value) (Q : VK) (I : Inv X pins σ H s) (ru : RelV u ov) (rv : RelV v iv) (h : rOwnB C sp (E σ) u v H Q) : wpAny (model X.prog X.w) X.A (binaryOp op ov iv) (EP X pins σ Q) X.xe s := by
  obtain ⟨f, fd, G, a1, a2, a3, a4, bb⟩ := F.ex
  obtain ⟨a, b, dx, fs, dy, gs, rfl, rfl, ha, hb, q⟩ := h
  cases (show ov = Value.ref a from ru)
  cases (show iv = Value.ref b from rv)
  obtain ⟨_, O, _⟩ := ins_get I.hok ha
  obtain ⟨od, J, _⟩ := O.look
  obtain ⟨_, O', _⟩ := ins_get I.hok hb
  obtain ⟨od', J', _⟩ := O'.look
  obtain ⟨_, hF⟩ := I.fr
  refine PySem.W.binop_K (op := op) hF I.ok.mod.kin J J'.type c.sf a1 a2 ?_
  refine wpAny_mono (run_fnS (us := [.ref a, .ref b]) (vs := [.ref a, .ref b]) G (hr.mono hj) bb (hx σ) I (.cons rfl (.cons rfl .nil)) q) ?_ fun _ _ z => z
  rintro w s' ⟨z, H', I', rz, qz⟩
  exact SlX.cmpback rz ⟨z, H', I', rz, qz⟩
end
/-- try: body / except c as n: suite, all that is raised caught -/
def tTryAs (K : PySem.W.Frag) (c : Value) (i : Nat) (tb : WX → TS) (ts : Addr → Value → Option Addr → TS) : TS := fun D σ H => tb (wAs K c i ts (fun _ _ _ _ => False) D) D σ H
/-- raise C(..), let out of the def -/
def tRaise (C : Addr) (sp : Sp) (t : TA) (E : XK) : TS := fun _ σ H => tMkO C sp [] t σ H fun cls d H' => E cls d H'
theorem refs0 : PySem.HandSPX.refsVE [.type "ValueError", .type "Exception", .type "BaseException", .type "object"] = true := by decide +kernel
theorem refs1 (c : Addr) : PySem.HandSPX.refsVE [.ref c, .type "ValueError", .type "Exception", .type "BaseException", .type "object"] = true := refs0
theorem exm_is {K : PySem.W.Frag} {D C : Addr} (T : XfC K C) (ty : PySem.W.typeIn K (.ref C) = some (.type "type")) (s : PySem.W.subIn K (.ref D) (.ref C) = some true) : PySem.W.exmOne K (.ref D) (.ref C) = some true :=
  PySem.W.exm_ref T.exC T.hdC ty s
end Pk
set_option Elab.async false
set_option linter.all false
set_option maxRecDepth 100000
set_option maxHeartbeats 2000000
namespace Pk
open PySem PySem.Spec L2 PyProof.Rows
section
variable {K : PySem.W.Frag} {C : Cs} {vs : List V} {H H' G G' : Hp} {Q : VK} {E : XK} {n : Nat}
structure FxToo (K : PySem.W.Frag) (C : Cs) : Prop where
  oex : OexC K C.TooMany
  nf : PySem.W.findIn K (.ref C.TooMany) "limit" = some none
  em : PySem.W.exmOne K (.ref C.TooMany) (.ref C.PipeError) = some true
def t_TooMany___init__ (K : PySem.W.Frag) : TS :=
  (tOst K "limit" (tVar 0) (tVar 1))
theorem ln_TooMany___init__ (h : rOneI K C.TooMany "limit" vs H Q E) : vs.length = 2 := by obtain ⟨_, _, rfl, _⟩ := h; rfl
theorem rd_TooMany___init__ (h : rOneI K C.TooMany "limit" vs H Q E) : t_TooMany___init__ K (EndsOf Q) (start ["", ""] vs) H := by
  obtain ⟨a, y, rfl, ox, nf, ha, k⟩ := h
  exact ⟨_, rfl, _, rfl, a, C.TooMany, rfl, ox, nf, .inl ⟨ha, k⟩⟩
/-- the Rule of two trees, or TooMany(6) -/
def Joins (K : PySem.W.Frag) (C : Cs) (H : Hp) (A B W : Tr) (Q : VK) (E : XK) : Prop :=
  (A.lv + B.lv ≤ 6 → ∀ x H', H x = none → Same H H' → RuleAt K C H' (.ref x) W → Q (.ref x) H') ∧ (6 < A.lv + B.lv → ∀ d H', H d = none → Same H H' → H' d = some (.xd [("limit", .int 6)]) → E (.ref C.TooMany) (some d) H')
def sp_joinedX (K : PySem.W.Frag) (C : Cs) : Sp := fun vs H Q E => ∃ (w : Str) (u v : V) (A B : Tr), vs = [.str w, u, v] ∧ (w = "or" ∨ w = "and") ∧ TrAt K H u A ∧ TrAt K H v B ∧ A.ok ∧ B.ok ∧ A.lv ≤ 6 ∧ B.lv ≤ 6 ∧ FxRule K C ∧ FxToo K C ∧ Joins K C H A B (Tr.join w A B) Q E
def t_joinedX (K : PySem.W.Frag) (C : Cs) (E : XK) : TS :=
  (tSeq (tIfS (tTest (tOp (rGtI) (tOp (rAddU K) (tCB (rLenU K) (tCons (tCall (sp_starts_of K) [] E0 (tCons (tVar 1) tNil)) tNil)) (tCB (rLenU K) (tCons (tCall (sp_starts_of K) [] E0 (tCons (tVar 2) tNil)) tNil))) (tC (.int 6)))) (tRaise C.TooMany (rOneI K C.TooMany "limit") (tCons (tC (.int 6)) tNil) E) tNext)
    (tRet (tMake C.Rule (sp_Rule___init__ K C) [] E0 (tCons (tTup (tCons (tVar 0) (tCons (tVar 1) (tCons (tVar 2) tNil)))) tNil))))
theorem ln_joinedX (h : sp_joinedX K C vs H Q E) : vs.length = 3 := by obtain ⟨_, _, _, _, _, rfl, _⟩ := h; rfl
theorem rd_joinedX (h : sp_joinedX K C vs H Q E) : t_joinedX K C E (EndsOf Q) (start ["", "", ""] vs) H := by
  obtain ⟨w, u, v, A, B, rfl, hw, hA, hB, oA, oB, lA, lB, fx, ft, k, kE⟩ := h
  refine ⟨_, rfl, u, A, rfl, hA, Tr.dp6 (by omega), by omega, fun p H1 hp s1 h1 => ?_⟩
  refine .inl ⟨_, _, rfl, .inl ⟨_, SqL.of h1, rfl⟩, ?_⟩
  refine ⟨_, rfl, v, B, rfl, hB.mono (Tups.same s1), Tr.dp6 (by omega), by omega, fun p2 H2 hp2 s2 h2 => ?_⟩
  refine .inl ⟨_, _, rfl, .inl ⟨_, SqL.of h2, rfl⟩, .inl ⟨_, _, rfl, rfl, _, _, rfl, rfl, _, rfl, ?_⟩⟩
  rw [List.length_map, List.length_map, A.starts_len, B.starts_len]
  have s := s1.trans s2
  refine ifD (fun c => ?_) (fun c => ?_)
  · exact made_err ft.oex ft.nf fun d H' hd s3 hx => kE (by omega) d H' (s.free hd) (s.trans s3) hx
  refine ⟨_, rfl, _, rfl, _, rfl, two_fit.2.2.1, fun q hq => ?_⟩
  have s3 := same_new (o := .tup [.str w, u, v]) hq
  have hT : TrAt K (upd H2 q (.tup [.str w, u, v])) (.ref q) (Tr.join w A B) := by
    unfold Tr.join
    rcases hw with rfl | rfl
    · rw [if_pos rfl]
      exact ⟨q, u, v, rfl, SqT.of upd_same, hA.mono (Tups.same (s.trans s3)), hB.mono (Tups.same (s.trans s3))⟩
    · rw [if_neg and_or]
      exact ⟨q, u, v, rfl, SqT.of upd_same, hA.mono (Tups.same (s.trans s3)), hB.mono (Tups.same (s.trans s3))⟩
  exact make_rule (t := tNil) (σ := []) fx (Tr.join_ok oA oB) (by rw [Tr.join_lv]; omega) hT fun x H' hx s4 r => k (by omega) x H' ((s.trans s3).free hx) ((s.trans s3).trans s4) r
def sp_Rule___or__X (K : PySem.W.Frag) (C : Cs) : Sp := fun vs H Q E => ∃ u v A B, vs = [u, v] ∧ RuleAt K C H u A ∧ RuleAt K C H v B ∧ FxToo K C ∧ Joins K C H A B (.or A B) Q E
def sp_Rule___and__X (K : PySem.W.Frag) (C : Cs) : Sp := fun vs H Q E => ∃ u v A B, vs = [u, v] ∧ RuleAt K C H u A ∧ RuleAt K C H v B ∧ FxToo K C ∧ Joins K C H A B (.and A B) Q E
def t_Rule___or__X (K : PySem.W.Frag) (C : Cs) (E : XK) : TS :=
  (tRet (tCall (sp_joinedX K C) [] E (tCons (tC (.str "or")) (tCons (tFld K (tVar 0) "_tree") (tCons (tFld K (tVar 1) "_tree") tNil)))))
def t_Rule___and__X (K : PySem.W.Frag) (C : Cs) (E : XK) : TS :=
  (tRet (tCall (sp_joinedX K C) [] E (tCons (tC (.str "and")) (tCons (tFld K (tVar 0) "_tree") (tCons (tFld K (tVar 1) "_tree") tNil)))))
theorem ln_Rule___or__X (h : sp_Rule___or__X K C vs H Q E) : vs.length = 2 := by obtain ⟨_, _, _, _, rfl, _⟩ := h; rfl
theorem ln_Rule___and__X (h : sp_Rule___and__X K C vs H Q E) : vs.length = 2 := by obtain ⟨_, _, _, _, rfl, _⟩ := h; rfl
theorem rd_Rule___or__X (h : sp_Rule___or__X K C vs H Q E) : t_Rule___or__X K C E (EndsOf Q) (start ["", ""] vs) H := by
  obtain ⟨u, v, A, B, rfl, ⟨a, dx, x, rfl, ha, hA, oA, lA, fx⟩, ⟨b, dy, y, rfl, hb, hB, oB, lB, _⟩, ft, k⟩ := h
  refine ⟨_, rfl, a, _, dx, _, x, rfl, ha, fx.cl, fx.no, rfl, _, rfl, b, _, dy, _, y, rfl, hb, fx.cl, fx.no, rfl, ?_⟩
  exact ⟨"or", x, y, A, B, rfl, .inl rfl, hA, hB, oA, oB, lA, lB, fx, ft, by unfold Tr.join; rw [if_pos rfl]; exact k⟩
theorem rd_Rule___and__X (h : sp_Rule___and__X K C vs H Q E) : t_Rule___and__X K C E (EndsOf Q) (start ["", ""] vs) H := by
  obtain ⟨u, v, A, B, rfl, ⟨a, dx, x, rfl, ha, hA, oA, lA, fx⟩, ⟨b, dy, y, rfl, hb, hB, oB, lB, _⟩, ft, k⟩ := h
  refine ⟨_, rfl, a, _, dx, _, x, rfl, ha, fx.cl, fx.no, rfl, _, rfl, b, _, dy, _, y, rfl, hb, fx.cl, fx.no, rfl, ?_⟩
  exact ⟨"and", x, y, A, B, rfl, .inr rfl, hA, hB, oA, oB, lA, lB, fx, ft, by unfold Tr.join; rw [if_neg and_or]; exact k⟩
theorem Own.weak {P : Program} {w : World} {mg : Str → Option Value} {base : Heap} {CX : CXT} {k : Nat} {D : Addr} {m : Str} {ps : List Str} {sp sp' : Sp} (o : Own P w K mg base CX k D m ps sp) (h : ∀ vs H Q E, sp' vs H Q E → sp vs H Q E) : Own P w K mg base CX k D m ps sp' := by
  obtain ⟨f, fd, G, r⟩ := o.ex
  exact ⟨f, fd, ⟨fun vs H Q E q => G.len vs H Q E (h _ _ _ _ q), fun A outer s H args us vs Q E hr e0 hb rv q => G.run A outer s H args us vs Q E hr e0 hb rv (h _ _ _ _ q)⟩, r⟩
theorem weak_Rule___or__ (ft : FxToo K C) (h : sp_Rule___or__ K C vs H Q E) : sp_Rule___or__X K C vs H Q E := by
  obtain ⟨u, v, A, B, rfl, hA, hB, l6, k⟩ := h
  exact ⟨u, v, A, B, rfl, hA, hB, ft, fun _ => k, fun c => absurd c (by omega)⟩
theorem weak_Rule___and__ (ft : FxToo K C) (h : sp_Rule___and__ K C vs H Q E) : sp_Rule___and__X K C vs H Q E := by
  obtain ⟨u, v, A, B, rfl, hA, hB, l6, k⟩ := h
  exact ⟨u, v, A, B, rfl, hA, hB, ft, fun _ => k, fun c => absurd c (by omega)⟩
end
end Pk
set_option Elab.async false
set_option linter.all false
set_option maxRecDepth 100000
set_option maxHeartbeats 2000000
namespace Pk
open PySem PySem.Spec L2 PyProof.Rows
/-! ### the law's own repeating -/
section
variable {T : Tr} {z w : Int} {M L : Nat} {c t p : Int}
theorem Rp.up (R : Rp T z w M L c t p) {p' : Int} (h : p ≤ p') (h2 : p' ≤ max p (T.pk z c L)) : Rp T z w M L c t p' := by
  have := R.p0
  have := R.pk
  exact ⟨R.c0, R.c1, by omega, R.le, R.kp, R.tot, by omega⟩
theorem Rp.go (R : Rp T z w M L c t p) (ok : T.ok) (z1 : 1 ≤ z) {n : Nat} (hL : n ≤ L) : Rp T z w M (L - n) (T.kp z c n) (t + c + n * z - T.kp z c n) (max p (T.pk z c n)) := by
  obtain ⟨b0, b1⟩ := Tr.kp_ok ok z1 R.c0 R.c1 n
  have el : ((L - n : Nat) : Int) * z = L * z - (n : Int) * z := by rw [Int.ofNat_sub hL, Int.sub_mul]
  have sp : L = n + (L - n) := by omega
  refine ⟨b0, b1, ?_, by have := R.le; omega, ?_, ?_, ?_⟩
  · have := R.p0; omega
  · rw [R.kp, ← Tr.kp_add, ← sp]
  · have := R.tot
    rw [el]
    omega
  · have h : T.pk z c L = max (T.pk z c n) (T.pk z (T.kp z c n) (L - n)) := by rw [← Tr.pk_add, ← sp]
    rw [R.pk, h]
    omega
theorem Tr.pk_ge1 : ∀ n : Nat, 1 ≤ n → c ≤ T.pk z c n
  | 1, _ => by
    show c ≤ max 0 c
    omega
  | n + 2, _ => by
    have := Tr.pk_ge1 (n + 1) (by omega)
    rw [Tr.pk_s]
    omega
theorem Tr.pk_up {n m : Nat} (h : n ≤ m) : T.pk z c n ≤ T.pk z c m := by
  rw [show m = n + (m - n) by omega, Tr.pk_add]
  omega
end
/-- what was seen, as numbers -/
def SeenN (lo : Nat) (T : Tr) (z : Int) (kvs : List (Key × V)) (L : Nat) (c p : Int) : Prop :=
  ∀ i v, valV kvs (.inl i) = some v → ∃ (l' : Int) (e : Nat), v = .int l' ∧ l' = (L : Int) + e ∧ T.kp z i e = c ∧ T.pk z i e ≤ p ∧ lo ≤ e ∧ l' ≤ 10 ^ 40
section
variable {T : Tr} {z w : Int} {M L lo : Nat} {c t p : Int} {kvs : List (Key × V)}
theorem SeenN.go (S : SeenN lo T z kvs L c p) {n : Nat} {p' : Int} (hL : n ≤ L) (hp : p ≤ p') (hp2 : T.pk z c n ≤ p') : SeenN (lo + n) T z kvs (L - n) (T.kp z c n) p' := fun i v h => by
  obtain ⟨l', e, h1, h2, h3, h4, h5, h6⟩ := S i v h
  refine ⟨l', e + n, h1, by omega, ?_, ?_, by omega, h6⟩
  · rw [Tr.kp_add, h3]
  · rw [Tr.pk_add, h3]
    omega
theorem SeenN.put (S : SeenN lo T z kvs L c p) (hp : 0 ≤ p) (hL : (L : Int) ≤ 10 ^ 40) : SeenN 0 T z (putK kvs (.inl c) (.int L)) L c p := fun i v h => by
  rw [valV_put] at h
  by_cases e : i = c
  · subst e
    rw [if_pos rfl] at h
    cases h
    exact ⟨L, 0, rfl, by omega, rfl, hp, Nat.le_refl _, hL⟩
  · rw [if_neg (fun z => e (Sum.inl.inj z))] at h
    obtain ⟨l', e, h1, h2, h3, h4, _, h6⟩ := S i v h
    exact ⟨l', e, h1, h2, h3, h4, Nat.zero_le _, h6⟩
theorem SeenN.nil : SeenN 0 T z [] L c p := fun i v h => nomatch h
end
theorem quiet_ok {top c z : Int} (h : c < top) (z1 : 1 ≤ z) : 0 ≤ (top - 1 - c) / z ∧ c + (top - 1 - c) / z * z < top ∧ top ≤ c + ((top - 1 - c) / z + 1) * z ∧ (top - 1 - c) / z ≤ top - 1 - c := by
  have e := Int.emod_def (top - 1 - c) z
  have r0 := Int.emod_nonneg (top - 1 - c) (show z ≠ 0 by omega)
  have r1 := Int.emod_lt_of_pos (top - 1 - c) (show 0 < z by omega)
  have d0 := Int.ediv_nonneg (show 0 ≤ top - 1 - c by omega) (show 0 ≤ z by omega)
  have s := Int.ediv_le_self z (show 0 ≤ top - 1 - c by omega)
  generalize (top - 1 - c) / z = q at *
  have e2 : z * q = q * z := Int.mul_comm _ _
  have e3 : (q + 1) * z = q * z + z := by rw [Int.add_mul]; omega
  exact ⟨d0, by omega, by omega, s⟩
section
variable {K : PySem.W.Frag} {C : Cs} {vs : List V} {H H' G G' : Hp} {Q : VK} {E : XK} {n : Nat}
def sp_law_repeat (K : PySem.W.Frag) : Sp := fun vs H Q _ => ∃ v T w z, ∃ m : Nat, vs = [v, .int w, .int z, .int m] ∧ TrAt K H v T ∧ T.ok ∧ T.dp ≤ 7 ∧ 0 ≤ w ∧ w < T.top ∧ 1 ≤ z ∧ z ≤ 10 ^ 40 ∧ (m : Int) ≤ 10 ^ 40 ∧
  ∀ p H', H p = none → Same H H' → SqT K H' p [.int (T.kp z w m), .int (max w (T.pk z w m))] → Q (.ref p) H'
def t_law_repeat (K : PySem.W.Frag) : TS :=
  (tSeq (tPar3 4 5 6 (tCons (tCall (sp_law_threshold K 7) [] E0 (tCons (tVar 0) tNil)) (tCons (tVar 1) (tCons tDNewK tNil))))
    (tSeq (tWhile (tTest (tOp (rGtI) (tVar 3) (tC (.int 0)))) (tSeq (tAsg (tCB (rMin2) (tCons (tVar 3) (tCons (tOp (rDivI) (tCB (rMax2) (tCons (tC (.int 0)) (tCons (tOp (rSubI) (tOp (rSubI) (tVar 4) (tC (.int 1))) (tVar 1)) tNil))) (tVar 2)) tNil))) (gName 7))
    (tSeq (tAsg (tCB (rMax2) (tCons (tVar 5) (tCons (tOp (rAddU K) (tVar 1) (tOp (rMulU K) (tCB (rMax2) (tCons (tC (.int 0)) (tCons (tOp (rSubI) (tVar 7) (tC (.int 1))) tNil))) (tVar 2))) tNil))) (gName 5))
    (tSeq (tPar 3 1 (tCons (tOp (rSubI) (tVar 3) (tVar 7)) (tCons (tOp (rAddU K) (tVar 1) (tOp (rMulU K) (tVar 7) (tVar 2))) tNil)))
    (tIfS (tTest (tOp (rGtI) (tVar 3) (tC (.int 0)))) (tSeq (tPar 5 3 (tCons (tCB (rMax2) (tCons (tVar 5) (tCons (tVar 1) tNil))) (tCons (tOp (rSubI) (tVar 3) (tC (.int 1))) tNil)))
    (tSeq (tAsg (tOp (rSubI) (tOp (rAddU K) (tVar 1) (tVar 2)) (tCall (sp_law_give K 7) [] E0 (tCons (tVar 0) (tCons (tOp (rAddU K) (tVar 1) (tVar 2)) tNil)))) (gName 1))
    (tIfS (tB (tDIn (tVar 1) (tVar 6))) (tSeq (tAsg (tOp (rModI) (tCB (rIntU) (tCons (tVar 3) tNil)) (tOp (rSubI) (tDGet (tVar 6) (tVar 1)) (tVar 3))) (gName 3))
    (tAsg tDNewK (gName 6))) (tAsg (tVar 3) (gSub (tVar 6) (tVar 1) rSetD))))) tNext)))))
    (tRet (tTup (tCons (tVar 1) (tCons (tVar 5) tNil))))))
theorem ln_law_repeat (h : sp_law_repeat K vs H Q E) : vs.length = 4 := by obtain ⟨_, _, _, _, _, rfl, _⟩ := h; rfl
theorem rd_law_repeat (h : sp_law_repeat K vs H Q E) : t_law_repeat K (EndsOf Q) (start ["", "", "", "", "", "", "", ""] vs) H := by
  obtain ⟨v, T, w, z, M, rfl, hT, ok, hd, w0, w1, z1, z2, m2, k⟩ := h
  obtain ⟨t1, t2⟩ := Tr.top_ok ok
  refine ⟨_, rfl, v, T, rfl, hT, hd, fun H1 s1 => ⟨_, rfl, fun D hD => ⟨_, _, _, rfl, ?_⟩⟩⟩
  have s2 := s1.trans (same_new (o := .dK []) hD)
  refine ⟨fun mm σ' G => ∃ (L : Nat) (c t p : Int) (D : Addr) (kvs : List (Key × V)) (s7 : Option V), σ' = [some v, some (.int c), some (.int z), some (.int L), some (.int T.top), some (.int p), some (.ref D), s7] ∧
    L = mm ∧ Same H G ∧ H D = none ∧ G D = some (.dK kvs) ∧ kvs.length ≤ cnt kvs ∧ Rp T z w M L c t p ∧ SeenN 0 T z kvs L c p,
    ⟨_, M, w, 0, w, D, [], none, rfl, rfl, s2, s1.free hD, upd_same, Nat.zero_le _, ⟨w0, w1, w0, Nat.le_refl _, rfl, by omega, rfl⟩, SeenN.nil⟩, ?_⟩
  clear s1 s2 hD D H1
  rintro mm σ' G ⟨L, c, t, p, D, kvs, s7, rfl, rfl, s, hD, hG, hl, P, S⟩
  have c0 := P.c0
  have c1 := P.c1
  have lM := P.le
  have p0 := P.p0
  have lims : (10 : Int) ^ 50 + 10 ^ 40 ≤ 10 ^ 100 := by decide
  refine ⟨_, rfl, _, _, rfl, rfl, _, rfl, ?_⟩
  refine ifD (fun cc => ?_) (fun cc => ?_)
  · refine ⟨fun σ2 H2 => ∃ (L2 : Nat) (c t p : Int) (D : Addr) (kvs : List (Key × V)) (s7 : Option V), σ2 = [some v, some (.int c), some (.int z), some (.int L2), some (.int T.top), some (.int p), some (.ref D), s7] ∧
      L2 < L ∧ Same H H2 ∧ H D = none ∧ H2 D = some (.dK kvs) ∧ kvs.length ≤ cnt kvs ∧ Rp T z w M L2 c t p ∧ SeenN 0 T z kvs L2 c p,
      fun σ2 H2 ⟨L2, c, t, p, D, kvs, s7, a1, a2, a3, a4, a5, a6, a7, a8⟩ => ⟨_, a2, L2, c, t, p, D, kvs, s7, a1, rfl, a3, a4, a5, a6, a7, a8⟩, ?_⟩
    obtain ⟨q0, q1, q2, q3⟩ := quiet_ok c1 z1
    -- so many give nothing
    refine ⟨_, rfl, _, rfl, _, _, rfl, rfl, _, rfl, _, _, rfl, rfl, _, _, rfl, ?_⟩
    refine ⟨_, rfl, _, _, rfl, rfl, div_ok (by omega) (by omega), _, _, rfl, ?_⟩
    rw [show (if T.top - 1 - c > 0 then T.top - 1 - c else 0) = T.top - 1 - c by split <;> omega]
    generalize hq : (T.top - 1 - c) / z = q at q0 q1 q2 q3 ⊢
    obtain ⟨n, hn, nL, nq, nl⟩ : ∃ n : Nat, (if q < (L : Int) then q else (L : Int)) = n ∧ n ≤ L ∧ (n : Int) ≤ q ∧ (n < L → (n : Int) = q) := by
      refine ⟨(if q < (L : Int) then q else (L : Int)).toNat, by split <;> omega, by split <;> omega, by split <;> omega, ?_⟩
      split <;> omega
    show tSeq _ _ _ [some v, some (.int c), some (.int z), some (.int L), some (.int T.top), some (.int p), some (.ref D), some (.int (if q < (L : Int) then q else (L : Int)))] G
    rw [hn]
    have nz : (n : Int) * z ≤ q * z := Int.mul_le_mul_of_nonneg_right nq (by omega)
    have nz0 : 0 ≤ (n : Int) * z := Int.mul_nonneg (by omega) (by omega)
    have few := Tr.kp_few ok z1 c0 n (by omega)
    have pk1 : c + (if (n : Int) - 1 > 0 then (n : Int) - 1 else 0) * z ≤ T.pk z c L ∧ T.pk z c n ≤ max p (c + (if (n : Int) - 1 > 0 then (n : Int) - 1 else 0) * z) ∧ 0 ≤ (if (n : Int) - 1 > 0 then (n : Int) - 1 else 0) * z := by
      cases n with
      | zero =>
        rw [if_neg (by omega), Int.zero_mul]
        have := Tr.pk_ge1 (T := T) (z := z) (c := c) L (by omega)
        have e : T.pk z c 0 = 0 := rfl
        omega
      | succ n =>
        have e : ((n + 1 : Nat) : Int) - 1 = n := by omega
        have e2 : (if (n : Int) > 0 then (n : Int) else 0) = n := by split <;> omega
        have e3 : ((n + 1 : Nat) : Int) * z = n * z + z := by rw [Int.natCast_add, Int.add_mul]; omega
        have f2 := (Tr.kp_few ok z1 c0 n (by omega)).2
        have f3 := Tr.pk_up (T := T) (z := z) (c := c) nL
        have nn : 0 ≤ (n : Int) * z := Int.mul_nonneg (by omega) (by omega)
        rw [e, e2]
        omega
    obtain ⟨u1, u2, u3⟩ := pk1
    refine ⟨_, rfl, _, rfl, _, rfl, _, _, rfl, rfl, _, _, rfl, _, rfl, .inl ⟨_, _, rfl, rfl, mul_ok (by split <;> omega) (by omega), .inl ⟨_, _, rfl, rfl, _, _, rfl, ?_⟩⟩⟩
    show tSeq _ _ _ [some v, some (.int c), some (.int z), some (.int L), some (.int T.top), some (.int (if c + (if (n : Int) - 1 > 0 then (n : Int) - 1 else 0) * z > p then c + (if (n : Int) - 1 > 0 then (n : Int) - 1 else 0) * z else p)), some (.ref D), some (.int n)] G
    rw [imax_eq]
    have P1 := P.up (p' := max p (c + (if (n : Int) - 1 > 0 then (n : Int) - 1 else 0) * z)) (by omega) (by omega)
    have hp1 : p ≤ max p (c + (if (n : Int) - 1 > 0 then (n : Int) - 1 else 0) * z) := by omega
    generalize max p (c + (if (n : Int) - 1 > 0 then (n : Int) - 1 else 0) * z) = p1 at P1 u2 hp1 ⊢
    have P2 := P1.go ok z1 nL
    rw [show max p1 (T.pk z c n) = p1 by omega] at P2
    have S2 := S.go (p' := p1) nL hp1 u2
    rw [few.1] at P2 S2
    have eL : (L : Int) - n = ((L - n : Nat) : Int) := by omega
    refine ⟨_, rfl, _, rfl, _, _, rfl, rfl, _, rfl, _, rfl, _, rfl, .inl ⟨_, _, rfl, rfl, mul_ok (by omega) (by omega), .inl ⟨_, _, rfl, rfl, _, _, rfl, ?_⟩⟩⟩
    dsimp only
    rw [eL]
    have c10 := P2.c0
    have c11 := P2.c1
    have L1le : L - n ≤ L := by omega
    have gives : 0 < L - n → T.top ≤ c + n * z + z := by
      intro h
      have e := nl (by omega)
      have e3 : (q + 1) * z = q * z + z := by rw [Int.add_mul]; omega
      rw [← e] at q2 e3
      omega
    have lt1 : L - n = 0 → 0 < L := by omega
    have cL : 0 < L := by omega
    clear P P1 S u1 u2 u3 few hn nz nz0 nq nl eL hq q0 q1 q2 q3 c0 c1 cc lt1
    generalize c + (n : Int) * z = c1 at P2 S2 c10 c11 gives ⊢
    generalize t + c + (n : Int) * z - c1 = t1' at P2
    refine ⟨_, rfl, _, _, rfl, rfl, _, rfl, ?_⟩
    refine ifD (fun c2 => ?_) (fun c2 => ?_)
    · -- the next one gives
      generalize hL1 : L - n = L1 at *
      have P3 := P2.go ok z1 (n := 1) (by omega)
      have S3 := S2.go (n := 1) (p' := max p1 (T.pk z c1 1)) (by omega) (by omega) (by omega)
      have ep : T.pk z c1 1 = c1 := by
        show max 0 c1 = c1
        omega
      have ek : T.kp z c1 1 = c1 + z - T.give (c1 + z) := rfl
      rw [ep, ek] at P3 S3
      have am0 : 0 ≤ c1 + z := by omega
      obtain ⟨by1, by2, by3⟩ := Tr.rest_by ok am0 (gives (by omega))
      obtain ⟨by4, by5⟩ := Tr.by_ok ok _ by2
      have small : c1 + z - T.give (c1 + z) < 6 := by
        rw [by3]
        have := Int.emod_lt_of_pos (c1 + z) (show 0 < by1 by omega)
        omega
      have e1 : (L1 : Int) - 1 = ((L1 - 1 : Nat) : Int) := by omega
      refine ⟨_, rfl, _, rfl, _, _, rfl, _, rfl, _, _, rfl, rfl, _, _, rfl, ?_⟩
      show tSeq _ _ _ [some v, some (.int c1), some (.int z), some (.int ((L1 : Int) - 1)), some (.int T.top), some (.int (if c1 > p1 then c1 else p1)), some (.ref D), some (.int n)] G
      rw [imax_eq, e1]
      refine ⟨_, rfl, _, rfl, .inl ⟨_, _, rfl, rfl, _, rfl, _, rfl, _, rfl, .inl ⟨_, _, rfl, rfl, v, T, _, rfl, hT.mono (Tups.same s), ok, hd, fun G1 g1 => ⟨_, _, rfl, rfl, ?_⟩⟩⟩⟩
      dsimp only
      have hG1 := g1 _ _ hG
      have sG := s.trans g1
      have c30 := P3.c0
      have lt : L1 - 1 < L := by omega
      have l40 : ((L1 - 1 : Nat) : Int) ≤ 10 ^ 40 := by omega
      clear P2 S2 ep ek by1 by2 by3 by4 by5 gives c10 c11 am0 e1 hL1 c2 hG
      generalize c1 + z - T.give (c1 + z) = c3 at *
      generalize L1 - 1 = L2 at *
      generalize max p1 c1 = p3 at *
      refine ⟨_, rfl, _, rfl, D, valV kvs (.inl c3), rfl, DGet.k (k := .inl c3) hG1, _, rfl, ?_⟩
      cases ev : valV kvs (.inl c3) with
      | some y =>
        refine iteT' rfl ?_
        obtain ⟨l', e, rfl, h2, h3, h4, h5, h6⟩ := S3 c3 y ev
        have d1 : 1 ≤ e := by omega
        have em : (L2 : Int) % (l' - L2) = ((L2 - L2 / e * e : Nat) : Int) := by
          rw [show l' - (L2 : Int) = (e : Int) by omega, Int.ofNat_sub (Nat.div_mul_le_self L2 e), Int.natCast_mul, Int.natCast_ediv, Int.emod_def, Int.mul_comm]
        refine ⟨_, rfl, .inl (.inl ⟨_, rfl, _, rfl, _, rfl, D, .int l', rfl, (by rw [← ev]; exact DGet.k (k := .inl c3) hG1), _, rfl, _, _, rfl, rfl, _, _, rfl, rfl, (by show (0 : Int) < l' - L2; omega), fun D2 hD2 => ?_⟩)⟩
        refine ⟨L2 - L2 / e * e, c3, _, p3, D2, [], some (.int n), ?_, by omega, sG.trans (same_new hD2), sG.free hD2, upd_same, Nat.zero_le _, P3.skip h3 h4 d1, SeenN.nil⟩
        rw [← em]
        rfl
      | none =>
        refine iteF' rfl ?_
        refine ⟨_, rfl, _, rfl, _, rfl, D, _, rfl, DPut.k (k := .inl c3) hG1 (by have := cnt_le kvs; exact small1000 (by omega)), ?_⟩
        exact ⟨L2, c3, _, p3, D, _, some (.int n), rfl, lt, other_same sG hD, hD, upd_same, cnt_put ev c30 small hl, P3, S3.put P3.p0 l40⟩
    · -- none is left
      obtain ⟨hz⟩ : L - n = 0 ∧ True := ⟨by omega, trivial⟩
      refine ⟨L - n, c1, _, p1, D, kvs, _, rfl, by omega, s, hD, hG, hl, P2, fun i y hy => ?_⟩
      obtain ⟨l', e, h1, h2, h3, h4, h5, h6⟩ := S2 i y hy
      exact ⟨l', e, h1, h2, h3, h4, Nat.zero_le _, h6⟩
  · -- none is left
    obtain rfl : L = 0 := by omega
    have e1 := P.kp
    have e2 := P.pk
    have e3 : T.pk z c 0 = 0 := rfl
    have e4 : T.kp z c 0 = c := rfl
    rw [e4] at e1
    rw [e3] at e2
    have e5 : max w (T.pk z w M) = p := by omega
    refine ⟨_, rfl, _, rfl, two_fit.2.1, fun q hq => k q _ (s.free hq) (s.trans (same_new hq)) ?_⟩
    rw [e1, e5]
    exact SqT.of upd_same
end
end Pk
set_option Elab.async false
set_option linter.all false
set_option maxRecDepth 100000
set_option maxHeartbeats 2000000
namespace Pk
open PySem PySem.Spec L2 PyProof.Rows
/-! ### in a try's body: by the slots -/
section
variable {X : Cx} {CX : CXT} {k j i : Nat} {C : Addr} {ps : List Str} {sp : Sp} {x m : Str} {p pos apos : Pos} {e o : Expr} {es : List Expr} {ta : TE} {t : TA} {E : L2.St → XK}
/-- name op= e, what may let an error out -/
def tAugO (i : Nat) (te : TE) (r : L2.St → TIp) : TS := fun D σ H => ∃ x, σ[i]? = some (some x) ∧ te σ H fun y H1 => r σ x y H1 fun z H2 => D.nx (σ.set i (some z)) H2
theorem ps_augO {op : Operator} {r : L2.St → TIp} {pos' : Pos} (hN : X.N.Nodup) (hi : X.N[i]? = some x) (hx : Loc X.env.scope x) (he : PE X e ta)
    (ho : ∀ (pins : List (Addr × Obj)) (s : Shared) (σ : L2.St) (H : Hp) (u v : V) (ov iv : Value) (Q : VK), Inv X pins σ H s → RelV u ov → RelV v iv → r σ u v H Q → wpAny (model X.prog X.w) X.A (inplaceOp op ov iv) (EP X pins σ Q) X.xe s)
    (hf : X.fn x = true ∨ X.env.scope.names.lookup x = some .local := by first | exact .inl rfl | exact .inr rfl | assumption) : PS X (.AugAssign (.Name x pos') op e pos) (tAugO i ta r) := by
  constructor
  intro pins s σ H D I h
  obtain ⟨v, at_, q⟩ := h
  obtain ⟨_, nn, ll⟩ := I.loc
  obtain ⟨u, ru, pl⟩ := ll i x v hi at_ (hx.elim (fun z => .inl z) fun z => .inr (.inl z))
  apply wpAny_AugAssign_Name
  have body : wpAny (model X.prog X.w) X.A (eval e X.env) (fun w t2 => wpAny (model X.prog X.w) X.A (inplaceOp op u w) (fun y t3 => wpAny (model X.prog X.w) X.A (storeName X.env x y) (fun _ => SP X pins D .next) X.xe t3) X.xe t2) X.xe s :=
    thn (he.run pins s σ H _ I q) fun w t1 ⟨yv, K1, J1, ry, q1⟩ => thn (ho pins t1 σ K1 v yv u w _ J1 ru ry q1) fun y t2 ⟨zv, K2, J2, rz, q2⟩ => store_ok J2 hN hi hx rz (fun _ J3 => ⟨_, K2, J3, q2⟩) hf
  cases pl with
  | inl a => exact wpAny_loadName_local I.ok.kind a.1 nn a.2 body
  | inr a =>
    obtain ⟨hk, c, hc, cell⟩ := a
    cases hk with
    | inl hk => exact wpAny_loadName_cell I.ok.kind hk hc cell body
    | inr hk =>
      cases hx with
      | inl z => cases (show some NameKind.local = some NameKind.free from z.symm.trans hk)
      | inr z => cases (show some NameKind.cell = some NameKind.free from z.symm.trans hk)
theorem ip_ownS {op : Operator} (c : Kls X.K X.mg x C) (F : Own X.prog X.w X.K X.mg X.base CX k C (dunderI op.info.2) ps sp) (hr : Room j X.A) (hx : ∀ σ, PassesAt CX X σ (E σ)) (hj : k ≤ j := by first | decide | omega)
    (pins : List (Addr × Obj)) (s : Shared) (σ : L2.St) (H : Hp) (u v : V) (ov iv : Value) (Q : VK) (I : Inv X pins σ H s) (ru : RelV u ov) (rv : RelV v iv) (h : ipOwn C sp (E σ) u v H Q) : wpAny (model X.prog X.w) X.A (inplaceOp op ov iv) (EP X pins σ Q) X.xe s := by
  obtain ⟨f, fd, G, a1, a2, a3, a4, bb⟩ := F.ex
  obtain ⟨a, dx, fs, rfl, ha, q⟩ := h
  cases (show ov = Value.ref a from ru)
  obtain ⟨_, O, _⟩ := ins_get I.hok ha
  obtain ⟨od, J, _⟩ := O.look
  obtain ⟨_, hF⟩ := I.fr
  refine PySem.W.ksp_inplace (op := op) hF I.ok.mod.kin J c.sf a1 a2 ?_
  refine wpAny_mono (run_fnS (us := [.ref a, iv]) (vs := [.ref a, v]) G (hr.mono hj) bb (hx σ) I (.cons rfl (.cons rv .nil)) q) ?_ fun _ _ z => z
  rintro w s' ⟨z, H', I', rz, qz⟩
  exact SlX.cmpback rz ⟨z, H', I', rz, qz⟩
/-- o.m(e, ..), what may let an error out -/
def tMethO (C : Addr) (m : Str) (sp : Sp) (E : L2.St → XK) (ta : TE) (t : TA) : TE := fun σ H Q => ta σ H fun x H1 => ∃ a dx fs, x = .ref a ∧ H1 a = some (.ins C dx fs) ∧ fs.lookup m = none ∧ t σ H1 fun vs H2 => sp (.ref a :: vs) H2 Q (E σ)
theorem pe_mtO (c : Kls X.K X.mg x C) (F : Own X.prog X.w X.K X.mg X.base CX k C m ps sp) (he : PE X o ta) (hr : Room j X.A) (hx : ∀ σ, PassesAt CX X σ (E σ)) (ha : PA X (e :: es) t) (hj : k ≤ j := by first | decide | omega)
    {pl : Sem Bool} (hst : starEach (e :: es) X.env = (false, eval e X.env) :: starEach es X.env := by rfl) (hpl : (backTo pos (starEach es X.env)).any (·.1) = false := by rfl)
    (ht : eval (.Call (.Attribute o m apos) (e :: es) [] pos) X.env = (do
      let ov ← eval o X.env
      standAt apos.atName
      let (f, first) ← holding [ov] (getMethod ov m pl)
      callWith pos f first (backTo pos (starEach (e :: es) X.env)) (backToKw pos (keywordEach [] X.env))) := by rfl) :
    PE X (.Call (.Attribute o m apos) (e :: es) [] pos) (tMethO C m sp E ta t) := by
  obtain ⟨f, fd, G, a1, a2, a3, _, b⟩ := F.ex
  constructor
  intro pins s σ H Q I h
  refine PySem.W.methodCall_KW (pl := pl) (thn (he.run pins s σ H _ I h) fun u t1 ⟨y, K1, J1, ry, a, dx, fs, ey, ea, lk, q⟩ => ?_) ht
  cases ey
  cases (show u = Value.ref a from ry)
  apply getmeth_ok J1 ea c.cl ⟨a1, a2, a3⟩ lk
  exact PySem.W.callWith_K (first := [.ref a]) (h₀ := X.base) I.ok.mod.kin a3 (thn (ha.run pos pins t1 σ K1 _ J1 q) fun us t2 ⟨vs, K2, J2, rv, q2⟩ => ⟨J2.kIn, run_fnS (us := .ref a :: us) (vs := .ref a :: vs) G (hr.mono hj) b (hx σ) J2 (.cons rfl rv) q2⟩) hst hpl
end
/-! ### one of two errors caught -/
def rOrL (r r' : List V → Hp → VK → Prop) : List V → Hp → VK → Prop := fun xs H Q => r xs H Q ∨ r' xs H Q
def tEither (ta tb : TE) : TE := fun σ H Q => ta σ H Q ∨ tb σ H Q
theorem pe_either {X : Cx} {e : Expr} {ta tb : TE} (ha : PE X e ta) (hb : PE X e tb) : PE X e (tEither ta tb) := ⟨fun pins s σ H Q I h => h.elim (ha.run pins s σ H Q I) (hb.run pins s σ H Q I)⟩
/-! ### Accounts that refuse -/
section
variable {K : PySem.W.Frag} {C : Cs} {vs : List V} {H H' G G' : Hp} {Q : VK} {E : XK} {n : Nat} {v : V} {cr u w : Int} {T : Tr} {a b : Addr}
structure FxOut (K : PySem.W.Frag) (C : Cs) : Prop where
  ox : OexC K C.Overdrawn
  np : OexC K C.NotPassed
  fo : PySem.W.findIn K (.ref C.Overdrawn) "many" = some none
  fn : PySem.W.findIn K (.ref C.NotPassed) "many" = some none
  eo : PySem.W.exmOne K (.ref C.Overdrawn) (.ref C.PipeError) = some true
  en : PySem.W.exmOne K (.ref C.NotPassed) (.ref C.PipeError) = some true
  ko : PySem.W.kitOne K (.ref C.Overdrawn) (.ref C.NotPassed) = some false
  kn : PySem.W.kitOne K (.ref C.NotPassed) (.ref C.Overdrawn) = some false
def t_Overdrawn___init__ (K : PySem.W.Frag) : TS :=
  (tOst K "many" (tVar 0) (tVar 1))
def t_NotPassed___init__ (K : PySem.W.Frag) : TS :=
  (tOst K "many" (tVar 0) (tVar 1))
theorem ln_Overdrawn___init__ (h : rOneI K C.Overdrawn "many" vs H Q E) : vs.length = 2 := by obtain ⟨_, _, rfl, _⟩ := h; rfl
theorem ln_NotPassed___init__ (h : rOneI K C.NotPassed "many" vs H Q E) : vs.length = 2 := by obtain ⟨_, _, rfl, _⟩ := h; rfl
theorem rd_Overdrawn___init__ (h : rOneI K C.Overdrawn "many" vs H Q E) : t_Overdrawn___init__ K (EndsOf Q) (start ["", ""] vs) H := by
  obtain ⟨a, y, rfl, ox, nf, ha, k⟩ := h
  exact ⟨_, rfl, _, rfl, a, _, rfl, ox, nf, .inl ⟨ha, k⟩⟩
theorem rd_NotPassed___init__ (h : rOneI K C.NotPassed "many" vs H Q E) : t_NotPassed___init__ K (EndsOf Q) (start ["", ""] vs) H := by
  obtain ⟨a, y, rfl, ox, nf, ha, k⟩ := h
  exact ⟨_, rfl, _, rfl, a, _, rfl, ox, nf, .inl ⟨ha, k⟩⟩
/-- an error with the field many is let out, nothing is changed -/
def Lets (D : Addr) (m : Int) (H : Hp) (E : XK) : Prop := ∀ d H', H d = none → Same H H' → H' d = some (.xd [("many", .int m)]) → E (.ref D) (some d) H'
def sp_Account___isub__X (K : PySem.W.Frag) (C : Cs) : Sp := fun vs H Q E => ∃ a cr T u w m, vs = [.ref a, .int m] ∧ AccAt K C H (.ref a) cr T u w ∧ FxOut K C ∧ (m ≤ cr - u - w → ∀ H', Kp a H H' → AccAt K C H' (.ref a) cr T (u + m) w → Q (.ref a) H') ∧ (cr - u - w < m → Lets C.Overdrawn m H E)
def sp_Account___iadd__X (K : PySem.W.Frag) (C : Cs) : Sp := fun vs H Q E => ∃ a cr T u w m, vs = [.ref a, .int m] ∧ AccAt K C H (.ref a) cr T u w ∧ FxOut K C ∧ (m ≤ u → ∀ H', Kp a H H' → AccAt K C H' (.ref a) cr T (u - m) (w + m - T.give (w + m)) → Q (.ref a) H') ∧ (u < m → Lets C.NotPassed m H E)
def t_Account___isub__X (K : PySem.W.Frag) (C : Cs) (E : XK) : TS :=
  (tSeq (tIfS (tTest (tOp (rGtI) (tVar 1) (tProp C.Account (sp_Account_left K C) [] E0 (tVar 0)))) (tRaise C.Overdrawn (rOneI K C.Overdrawn "many") (tCons (tVar 1) tNil) E) tNext)
    (tSeq (sFld K (tVar 0) (tOp (rAddU K) (tFld K (tVar 0) "_unpassed") (tVar 1)) "_unpassed")
    (tRet (tVar 0))))
def t_Account___iadd__X (K : PySem.W.Frag) (C : Cs) (E : XK) : TS :=
  (tSeq (tIfS (tTest (tOp (rGtI) (tVar 1) (tFld K (tVar 0) "_unpassed"))) (tRaise C.NotPassed (rOneI K C.NotPassed "many") (tCons (tVar 1) tNil) E) tNext)
    (tSeq (sFld K (tVar 0) (tOp (rSubI) (tFld K (tVar 0) "_unpassed") (tVar 1)) "_unpassed")
    (tSeq (sFld K (tVar 0) (tMeth C.Rule "rest" (sp_Rule_rest K C) [] E0 (tFld K (tVar 0) "_rule") (tCons (tOp (rAddU K) (tFld K (tVar 0) "_withheld") (tVar 1)) tNil)) "_withheld")
    (tRet (tVar 0)))))
theorem ln_Account___isub__X (h : sp_Account___isub__X K C vs H Q E) : vs.length = 2 := by obtain ⟨_, _, _, _, _, _, rfl, _⟩ := h; rfl
theorem ln_Account___iadd__X (h : sp_Account___iadd__X K C vs H Q E) : vs.length = 2 := by obtain ⟨_, _, _, _, _, _, rfl, _⟩ := h; rfl
theorem rd_Account___isub__X (h : sp_Account___isub__X K C vs H Q E) : t_Account___isub__X K C E (EndsOf Q) (start ["", ""] vs) H := by
  obtain ⟨a, cr, T, u, w, m, rfl, A, fo, k, kE⟩ := h
  obtain ⟨_, dx, r, e, ha, hr, fa⟩ := id A
  cases e
  refine ⟨_, rfl, _, rfl, a, dx, _, rfl, ha, _, cr, T, u, w, rfl, A, _, _, rfl, rfl, _, rfl, ?_⟩
  refine ifD (fun c => ⟨_, rfl, made_err fo.ox fo.fo (kE c)⟩) (fun c => ?_)
  refine ⟨_, rfl, a, _, dx, _, _, rfl, ha, fa.cl, fa.n3, lk_un, _, rfl, .inl ⟨_, _, rfl, rfl, _, rfl, a, _, dx, _, rfl, ha, fa.cl, fa.n3, rfl4, ?_⟩⟩
  rw [put_un]
  exact ⟨_, rfl, k (by omega) _ kp_put (AccAt.put ha hr fa)⟩
theorem rd_Account___iadd__X (h : sp_Account___iadd__X K C vs H Q E) : t_Account___iadd__X K C E (EndsOf Q) (start ["", ""] vs) H := by
  obtain ⟨a, cr, T, u, w, m, rfl, A, fo, k, kE⟩ := h
  obtain ⟨_, dx, r, e, ha, hr, fa⟩ := id A
  cases e
  refine ⟨_, rfl, _, rfl, a, _, dx, _, _, rfl, ha, fa.cl, fa.n3, lk_un, _, _, rfl, rfl, _, rfl, ?_⟩
  refine ifD (fun c => ⟨_, rfl, made_err fo.np fo.fn (kE c)⟩) (fun c => ?_)
  refine ⟨_, rfl, a, _, dx, _, _, rfl, ha, fa.cl, fa.n3, lk_un, _, rfl, _, _, rfl, rfl, _, rfl, a, _, dx, _, rfl, ha, fa.cl, fa.n3, rfl4, ?_⟩
  rw [put_un]
  have hr1 := hr.keep (H' := upd H a (.ins C.Account dx (accF cr r (u - m) w))) ha (fun d x z => no_tree rfl z) (fun _ z => nomatch z) (fun _ _ z => nomatch z) kp_put
  have ha1 : (upd H a (.ins C.Account dx (accF cr r (u - m) w))) a = some (.ins C.Account dx (accF cr r (u - m) w)) := upd_same
  have k1 : Kp a H (upd H a (.ins C.Account dx (accF cr r (u - m) w))) := kp_put
  show tSeq _ _ _ _ (upd H a (.ins C.Account dx (accF cr r (u - m) w)))
  generalize upd H a (.ins C.Account dx (accF cr r (u - m) w)) = G at hr1 ha1 k1 ⊢
  obtain ⟨ra, rd, ru, rfl, hra, _⟩ := id hr1
  refine ⟨_, rfl, a, _, dx, _, _, rfl, ha1, fa.cl, fa.n2, lk_ru, ra, rd, _, rfl, hra, lk_tree (by decide +kernel), ?_⟩
  refine ⟨_, rfl, a, _, dx, _, _, rfl, ha1, fa.cl, fa.n4, lk_wi, _, rfl, .inl ⟨_, _, rfl, rfl, ?_⟩⟩
  refine ⟨_, T, _, rfl, hr1, _, rfl, a, _, dx, _, rfl, ha1, fa.cl, fa.n4, rfl4, ?_⟩
  rw [put_wi]
  exact ⟨_, rfl, k (by omega) _ k1.put (AccAt.put ha1 hr1 fa)⟩
def sp_Account_passesX (K : PySem.W.Frag) (C : Cs) : Sp := fun vs H Q E => ∃ a cr T u w z m, vs = [.ref a, .int z, .int m] ∧ AccAt K C H (.ref a) cr T u w ∧ FxOut K C ∧ 0 ≤ w ∧ w < T.top ∧ 1 ≤ z ∧ z ≤ 10 ^ 40 ∧ 0 ≤ m ∧ m ≤ 10 ^ 40 ∧
  (z * m ≤ u → ∀ H', Kp a H H' → AccAt K C H' (.ref a) cr T (u - z * m) (T.kp z w m.toNat) → Q (.int (w + m * z - T.kp z w m.toNat)) H') ∧ (u < z * m → Lets C.NotPassed (z * m) H E)
def sp_Account_flowsX (K : PySem.W.Frag) (C : Cs) : Sp := fun vs H Q E => ∃ a cr T u w z m, vs = [.ref a, .int z, .int m] ∧ AccAt K C H (.ref a) cr T u w ∧ FxOut K C ∧ 0 ≤ w ∧ w < T.top ∧ 1 ≤ z ∧ z ≤ 10 ^ 40 ∧ 0 ≤ m ∧ m ≤ 10 ^ 40 ∧
  (z ≤ cr - u - max w (T.pk z w m.toNat) → ∀ H', Kp a H H' → AccAt K C H' (.ref a) cr T u (T.kp z w m.toNat) → Q (.int (w + m * z - T.kp z w m.toNat)) H') ∧ (cr - u - max w (T.pk z w m.toNat) < z → Lets C.Overdrawn z H E)
def t_Account_passesX (K : PySem.W.Frag) (C : Cs) (E : XK) : TS :=
  (tSeq (tIfS (tTest (tOp (rGtI) (tOp (rMulU K) (tVar 1) (tVar 2)) (tFld K (tVar 0) "_unpassed"))) (tRaise C.NotPassed (rOneI K C.NotPassed "many") (tCons (tOp (rMulU K) (tVar 1) (tVar 2)) tNil) E) tNext)
    (tSeq (tAsg (tCall (sp_repeated K C) [] E0 (tCons (tFld K (tVar 0) "_rule") (tCons (tFld K (tVar 0) "_withheld") (tCons (tVar 1) (tCons (tVar 2) tNil))))) (gTup K 3 (gCons (gName 3) (gCons (gName 4) (gCons (gName 5) gNil)))))
    (tSeq (sFld K (tVar 0) (tOp (rSubI) (tFld K (tVar 0) "_unpassed") (tOp (rMulU K) (tVar 1) (tVar 2))) "_unpassed")
    (tSeq (sFld K (tVar 0) (tVar 3) "_withheld")
    (tRet (tVar 4))))))
def t_Account_flowsX (K : PySem.W.Frag) (C : Cs) (E : XK) : TS :=
  (tSeq (tAsg (tCall (sp_repeated K C) [] E0 (tCons (tFld K (tVar 0) "_rule") (tCons (tFld K (tVar 0) "_withheld") (tCons (tVar 1) (tCons (tVar 2) tNil))))) (gTup K 3 (gCons (gName 3) (gCons (gName 4) (gCons (gName 5) gNil)))))
    (tSeq (tIfS (tTest (tOp (rLtI) (tOp (rSubI) (tOp (rSubI) (tFld K (tVar 0) "_credit") (tFld K (tVar 0) "_unpassed")) (tVar 5)) (tVar 1))) (tRaise C.Overdrawn (rOneI K C.Overdrawn "many") (tCons (tVar 1) tNil) E) tNext)
    (tSeq (sFld K (tVar 0) (tVar 3) "_withheld")
    (tRet (tVar 4)))))
theorem ln_Account_passesX (h : sp_Account_passesX K C vs H Q E) : vs.length = 3 := by obtain ⟨_, _, _, _, _, _, _, rfl, _⟩ := h; rfl
theorem ln_Account_flowsX (h : sp_Account_flowsX K C vs H Q E) : vs.length = 3 := by obtain ⟨_, _, _, _, _, _, _, rfl, _⟩ := h; rfl
theorem rd_Account_passesX (h : sp_Account_passesX K C vs H Q E) : t_Account_passesX K C E (EndsOf Q) (start ["", "", "", "", "", ""] vs) H := by
  obtain ⟨a, cr, T, u, w, z, m, rfl, A, fo, w0, w1, z1, z2, m0, m2, k, kE⟩ := h
  obtain ⟨_, dx, r, e, ha, hr, fa⟩ := id A
  cases e
  have lim : (10 : Int) ^ 40 ≤ 10 ^ 100 := by decide
  have mk := mul_ok (i := z) (j := m) (by omega) (by omega)
  refine ⟨_, rfl, _, rfl, .inl ⟨_, _, rfl, rfl, mk, _, rfl, a, _, dx, _, _, rfl, ha, fa.cl, fa.n3, lk_un, _, _, rfl, rfl, _, rfl, ?_⟩⟩
  refine ifD (fun c => ⟨_, rfl, _, rfl, .inl ⟨_, _, rfl, rfl, mk, made_err fo.np fo.fn (kE c)⟩⟩) (fun c => ?_)
  refine ⟨_, rfl, a, _, dx, _, _, rfl, ha, fa.cl, fa.n2, lk_ru, _, rfl, a, _, dx, _, _, rfl, ha, fa.cl, fa.n4, lk_wi, _, rfl, _, rfl, ?_⟩
  refine ⟨r, T, w, z, m, rfl, hr, w0, w1, z1, z2, m0, m2, fun p G hp s hq => g3 hq ?_⟩
  have ha1 := s _ _ ha
  have hr1 := hr.same s
  refine ⟨_, rfl, a, _, dx, _, _, rfl, ha1, fa.cl, fa.n3, lk_un, _, rfl, _, rfl, .inl ⟨_, _, rfl, rfl, mk, _, _, rfl, rfl, _, rfl, a, _, dx, _, rfl, ha1, fa.cl, fa.n3, rfl4, ?_⟩⟩
  rw [put_un]
  have hr2 := hr1.keep (H' := upd G a (.ins C.Account dx (accF cr r (u - z * m) w))) ha1 (fun d x z => no_tree rfl z) (fun _ z => nomatch z) (fun _ _ z => nomatch z) kp_put
  have ha2 : (upd G a (.ins C.Account dx (accF cr r (u - z * m) w))) a = some (.ins C.Account dx (accF cr r (u - z * m) w)) := upd_same
  have k2 : Kp a H (upd G a (.ins C.Account dx (accF cr r (u - z * m) w))) := (Kp.of s).put
  show tSeq _ _ _ _ (upd G a (.ins C.Account dx (accF cr r (u - z * m) w)))
  generalize upd G a (.ins C.Account dx (accF cr r (u - z * m) w)) = G2 at hr2 ha2 k2 ⊢
  refine ⟨_, rfl, _, rfl, a, _, dx, _, rfl, ha2, fa.cl, fa.n4, rfl4, ?_⟩
  rw [put_wi]
  exact ⟨_, rfl, k (by omega) _ k2.put (AccAt.put ha2 hr2 fa)⟩
theorem rd_Account_flowsX (h : sp_Account_flowsX K C vs H Q E) : t_Account_flowsX K C E (EndsOf Q) (start ["", "", "", "", "", ""] vs) H := by
  obtain ⟨a, cr, T, u, w, z, m, rfl, A, fo, w0, w1, z1, z2, m0, m2, k, kE⟩ := h
  obtain ⟨_, dx, r, e, ha, hr, fa⟩ := id A
  cases e
  refine ⟨_, rfl, a, _, dx, _, _, rfl, ha, fa.cl, fa.n2, lk_ru, _, rfl, a, _, dx, _, _, rfl, ha, fa.cl, fa.n4, lk_wi, _, rfl, _, rfl, ?_⟩
  refine ⟨r, T, w, z, m, rfl, hr, w0, w1, z1, z2, m0, m2, fun p G hp s hq => g3 hq ?_⟩
  have ha1 := s _ _ ha
  have hr1 := hr.same s
  refine ⟨_, rfl, a, _, dx, _, _, rfl, ha1, fa.cl, fa.n1, lk_cr, _, rfl, a, _, dx, _, _, rfl, ha1, fa.cl, fa.n3, lk_un, _, _, rfl, rfl, _, rfl, _, _, rfl, rfl, _, rfl, _, _, rfl, rfl, _, rfl, ?_⟩
  refine ifD (fun c => ⟨_, rfl, made_err fo.ox fo.fo fun d H' hd s2 hx => kE c d H' (s.free hd) (s.trans s2) hx⟩) (fun c => ?_)
  refine ⟨_, rfl, _, rfl, a, _, dx, _, rfl, ha1, fa.cl, fa.n4, rfl4, ?_⟩
  rw [put_wi]
  exact ⟨_, rfl, k (by omega) _ (Kp.of s).put (AccAt.put ha1 hr1 fa)⟩
end
end Pk
set_option Elab.async false
set_option linter.all false
set_option maxRecDepth 100000
set_option maxHeartbeats 2000000
/-! bool(x) by an own __bool__ -/
namespace Pk
open PySem PySem.Spec PyProof.Rows
theorem bool_new_own {prog : Program} {w : World} {a : Addr} : MeetsIn prog w (Builtin.«bool.__new__» ⟨[.type "bool", .ref a], []⟩)
    (fun A R s => wpAny (model prog w) A.in1 (truthy (.ref a)) (fun b s' => R (.ok (.ret (.bool b))) s') (fun e s' => R (.error e) s') s) :=
  .of_wp fun A R s hs => by
    have f1 := F.conv_sub_bool
    have step : ∀ {Q' : Bool → Shared → Prop}, (∀ b s', R (.ok (.ret (.bool b))) s' → Q' b s') → wpAny (model prog w) A.in1 (truthy (.ref a)) Q' (fun e s' => R (.error e) s') s := fun hq => wpAny_mono hs (fun b s' z => hq b s' z) fun _ _ z => z
    obtain ⟨hp, g, d, tk, os⟩ := s
    repeat (any_goals (first | assumption | with_reducible refine step (fun b s' z => ?_) | wp_step))
    all_goals first | exact ⟨_, rfl, by assumption⟩ | skip
end Pk
namespace Pk
open PySem PySem.Spec L2 PyProof.Rows
section
variable {X : Cx} {CX : CXT} {k j : Nat} {C : Addr} {ps : List Str} {sp : Sp} {E : XK} {x : Str}
def rBoolOwn (C : Addr) (sp : Sp) (E : XK) : List V → Hp → VK → Prop := fun xs H Q => ∃ a dx fs, xs = [.ref a] ∧ H a = some (.ins C dx fs) ∧ sp [.ref a] H (fun v H' => ∃ c, v = .bl c ∧ Q (.bl c) H') E
theorem call_boolOwn (F : Own X.prog X.w X.K X.mg X.base CX k C "__bool__" ps sp) (hr : Room j X.A) (hx : Passes CX X E) (hj : k + 2 ≤ j := by first | decide | omega) : CallR X (.type "bool") (rBoolOwn C sp E) := by
  obtain ⟨f, fd, G, a1, a2, a3, a4, bb⟩ := F.ex
  intro pins s σ H xs us Q I r h
  obtain ⟨a, dx, fs, rfl, ha, q⟩ := h
  obtain ⟨u, rfl, ru⟩ := vals1 r
  cases (show u = Value.ref a from ru)
  obtain ⟨_, O, _⟩ := ins_get I.hok ha
  obtain ⟨od, J, _⟩ := O.look
  obtain ⟨_, hF⟩ := I.fr
  refine callType_newIn PySem.F.called_bool PySem.F.newNe_bool (PySem.F.typeCall_bool_1 _) (PySem.F.newCall_bool_1 _) (fun obj => PySem.F.args_object_init_2 obj _) PySem.F.entry_bool_new bool_new_own ?_
  refine PySem.W.truthy_K hF I.ok.mod.kin J a1 a2 ?_
  have e := I.env0
  have e0 : Env0 X.prog X.w X.K X.mg X.base X.A.in1.in1 X.stack s H := ⟨e.frames, e.mod, e.bs, e.bsz, e.funs, e.frf, e.hok, e.bare⟩
  have hl := G.len _ _ _ _ q
  refine wpAny_call (codeAny_mono (G.run X.A.in1.in1 X.stack s H ⟨[.ref a], []⟩ [.ref a] [.ref a] _ E (hr.mono (j := k + 2) hj).in1.in1 e0 (by
    have := bb s [.ref a] I.kIn (by simpa using hl)
    simpa using this) (.cons rfl .nil) q) fun r s' z => ?_)
  match r, z with
  | .error e, z => exact hx pins σ H s e s' I z
  | .ok (.ret w), z =>
    obtain ⟨y, H', I', rz, d, rfl, qz⟩ := I.after z
    cases rz
    exact ⟨rfl, .bl d, H', I', rfl, qz⟩
end
end Pk
namespace Pk
open PySem PySem.Spec L2 PyProof.Rows
section
variable {K : PySem.W.Frag} {C : Cs} {vs : List V} {H H' G G' : Hp} {Q : VK} {E : XK} {n : Nat} {v : V} {cr u w : Int} {T : Tr} {a b : Addr}
def sp_Account_credit (K : PySem.W.Frag) (C : Cs) : Sp := fun vs H Q _ => ∃ v cr T u w, vs = [v] ∧ AccAt K C H v cr T u w ∧ Q (.int cr) H
def sp_Account_rule (K : PySem.W.Frag) (C : Cs) : Sp := fun vs H Q _ => ∃ v cr T u w, vs = [v] ∧ AccAt K C H v cr T u w ∧ ∀ r, RuleAt K C H r T → Q r H
def sp_Account___bool__ (K : PySem.W.Frag) (C : Cs) : Sp := fun vs H Q _ => ∃ a cr T u w, vs = [.ref a] ∧ AccAt K C H (.ref a) cr T u w ∧ Q (.bl (decide (0 < cr - u - w))) H
def t_Account_credit (K : PySem.W.Frag) : TS :=
  (tRet (tFld K (tVar 0) "_credit"))
def t_Account_rule (K : PySem.W.Frag) : TS :=
  (tRet (tFld K (tVar 0) "_rule"))
def t_Account___bool__ (K : PySem.W.Frag) (C : Cs) : TS :=
  (tRet (tCB (rBool1) (tCons (tOp (rGtI) (tProp C.Account (sp_Account_left K C) [] E0 (tVar 0)) (tC (.int 0))) tNil)))
theorem ln_Account_credit (h : sp_Account_credit K C vs H Q E) : vs.length = 1 := by obtain ⟨_, _, _, _, _, rfl, _⟩ := h; rfl
theorem ln_Account_rule (h : sp_Account_rule K C vs H Q E) : vs.length = 1 := by obtain ⟨_, _, _, _, _, rfl, _⟩ := h; rfl
theorem ln_Account___bool__ (h : sp_Account___bool__ K C vs H Q E) : vs.length = 1 := by obtain ⟨_, _, _, _, _, rfl, _⟩ := h; rfl
theorem rd_Account_credit (h : sp_Account_credit K C vs H Q E) : t_Account_credit K (EndsOf Q) (start [""] vs) H := by
  obtain ⟨v, cr, T, u, w, rfl, ⟨a, dx, r, rfl, ha, _, fa⟩, k⟩ := h
  exact ⟨_, rfl, a, _, dx, _, _, rfl, ha, fa.cl, fa.n1, lk_cr, k⟩
theorem rd_Account_rule (h : sp_Account_rule K C vs H Q E) : t_Account_rule K (EndsOf Q) (start [""] vs) H := by
  obtain ⟨v, cr, T, u, w, rfl, ⟨a, dx, r, rfl, ha, hr, fa⟩, k⟩ := h
  exact ⟨_, rfl, a, _, dx, _, _, rfl, ha, fa.cl, fa.n2, lk_ru, k r hr⟩
theorem rd_Account___bool__ (h : sp_Account___bool__ K C vs H Q E) : t_Account___bool__ K C (EndsOf Q) (start [""] vs) H := by
  obtain ⟨a, cr, T, u, w, rfl, A, k⟩ := h
  obtain ⟨dx, r, ha⟩ := A.ins
  exact ⟨_, rfl, a, dx, _, rfl, ha, _, cr, T, u, w, rfl, A, _, _, rfl, rfl, .inr ⟨_, rfl, k⟩⟩
def sp_Account_copied (K : PySem.W.Frag) (C : Cs) : Sp := fun vs H Q _ => ∃ v cr T u w, vs = [v] ∧ AccAt K C H v cr T u w ∧ 1 ≤ cr ∧ ∀ x H', H x = none → Same H H' → AccAt K C H' (.ref x) cr T u w → Q (.ref x) H'
def t_Account_copied (K : PySem.W.Frag) (C : Cs) : TS :=
  (tSeq (tAsg (tMake C.Account (sp_Account___init__ K C) [] E0 (tCons (tFld K (tVar 0) "_credit") (tCons (tFld K (tVar 0) "_rule") tNil))) (gName 1))
    (tSeq (sFld K (tVar 1) (tFld K (tVar 0) "_unpassed") "_unpassed")
    (tSeq (sFld K (tVar 1) (tFld K (tVar 0) "_withheld") "_withheld")
    (tRet (tVar 1)))))
theorem ln_Account_copied (h : sp_Account_copied K C vs H Q E) : vs.length = 1 := by obtain ⟨_, _, _, _, _, rfl, _⟩ := h; rfl
theorem rd_Account_copied (h : sp_Account_copied K C vs H Q E) : t_Account_copied K C (EndsOf Q) (start ["", ""] vs) H := by
  obtain ⟨v, cr, T, u, w, rfl, ⟨a, dx, r, rfl, ha, hr, fa⟩, c1, k⟩ := h
  refine ⟨_, rfl, a, _, dx, _, _, rfl, ha, fa.cl, fa.n1, lk_cr, _, rfl, a, _, dx, _, _, rfl, ha, fa.cl, fa.n2, lk_ru, ?_⟩
  intro x d2 hx hd _
  refine ⟨x, d2, cr, r, T, rfl, upd_same, hr.same (fun b o e => by rw [upd_ne (ne_of_none e hx), upd_ne (ne_of_none e hd)]; exact e), c1, fa, fun G k1 A1 => ⟨rfl, ?_⟩⟩
  have s : Same H G := fun b o e => k1 b o (by rw [upd_ne (ne_of_none e hx), upd_ne (ne_of_none e hd)]; exact e) (ne_of_none e hx)
  have ha1 := s _ _ ha
  have nx : a ≠ x := ne_of_none ha hx
  obtain ⟨_, d3, r3, e3, hx1, hr3, _⟩ := A1
  cases e3
  refine ⟨_, rfl, a, _, dx, _, _, rfl, ha1, fa.cl, fa.n3, lk_un, _, rfl, x, _, d3, _, rfl, hx1, fa.cl, fa.n3, rfl4, ?_⟩
  rw [put_un]
  have ha2 : (upd G x (.ins C.Account d3 (accF cr r3 u 0))) a = some (.ins C.Account dx (accF cr r u w)) := by rw [upd_ne nx]; exact ha1
  refine ⟨_, rfl, a, _, dx, _, _, rfl, ha2, fa.cl, fa.n4, lk_wi, _, rfl, x, _, d3, _, rfl, upd_same, fa.cl, fa.n4, rfl4, ?_⟩
  rw [put_wi]
  have s2 : Same H (upd (upd G x (.ins C.Account d3 (accF cr r3 u 0))) x (.ins C.Account d3 (accF cr r3 u w))) := other_same (other_same s hx) hx
  exact ⟨_, rfl, k x _ hx s2 ⟨x, d3, r3, rfl, upd_same, hr3.keep hx1 (fun d x z => no_tree rfl z) (fun _ z => nomatch z) (fun _ _ z => nomatch z) kp_put.put, fa⟩⟩
def sp_law_stands (K : PySem.W.Frag) (C : Cs) : Sp := fun vs H Q _ => ∃ a pt v cr T u w, vs = [.ref a, .ref pt] ∧ AccAt K C H (.ref a) cr T u w ∧ H pt = some (.lst [.int cr, v, .int u, .int w]) ∧ TrAt K H v T ∧ T.ok ∧ T.lv ≤ 6 ∧ 0 ≤ u ∧ 0 ≤ w ∧ u + w ≤ cr ∧ cr ≤ 10 ^ 100 ∧ ∀ H', Same H H' → Q (.bl true) H'
def t_law_stands (K : PySem.W.Frag) (C : Cs) : TS :=
  (tSeq (tAsg (tVar 1) (gLst K 4 (gCons (gName 2) (gCons (gName 3) (gCons (gName 4) (gCons (gName 5) gNil))))))
    (tSeq (tAsg (tOp (rSubI) (tOp (rSubI) (tVar 2) (tVar 4)) (tVar 5)) (gName 6))
    (tSeq (tAsg (tLst (tCons (tProp C.Account (sp_Account_credit K C) [] E0 (tVar 0)) (tCons (tProp C.Account (sp_Account_left K C) [] E0 (tVar 0)) (tCons (tProp C.Account (sp_Account_unpassed K C) [] E0 (tVar 0)) (tCons (tProp C.Account (sp_Account_withheld K C) [] E0 (tVar 0)) (tCons (tCB (rBoolOwn C.Account (sp_Account___bool__ K C) E0) (tCons (tVar 0) tNil)) (tCons (tMeth C.Rule "tree" (sp_Rule_tree K C) [] E0 (tProp C.Account (sp_Account_rule K C) [] E0 (tVar 0)) tNil) tNil))))))) (gName 7))
    (tRet (tCall (sp_law_alike K) [] E0 (tCons (tVar 7) (tCons (tLst (tCons (tVar 2) (tCons (tVar 6) (tCons (tVar 4) (tCons (tVar 5) (tCons (tOp (rGtI) (tVar 6) (tC (.int 0))) (tCons (tVar 3) tNil))))))) tNil)))))))
theorem ln_law_stands (h : sp_law_stands K C vs H Q E) : vs.length = 2 := by obtain ⟨_, _, _, _, _, _, _, rfl, _⟩ := h; rfl
theorem rd_law_stands (h : sp_law_stands K C vs H Q E) : t_law_stands K C (EndsOf Q) (start ["", "", "", "", "", "", "", ""] vs) H := by
  obtain ⟨a, pt, v, cr, T, u, w, rfl, A, hp, hT, ok, l6, u0, w0, le, c1, k⟩ := h
  obtain ⟨dx, r, ha⟩ := A.ins
  refine ⟨_, rfl, pt, _, rfl, SqL.of hp, rfl, _, _, rfl, _, _, rfl, _, _, rfl, _, _, rfl, rfl, ?_⟩
  refine ⟨_, rfl, _, rfl, _, _, rfl, rfl, _, rfl, _, _, rfl, rfl, ?_⟩
  refine ⟨_, rfl, a, dx, _, rfl, ha, _, cr, T, u, w, rfl, A, _, rfl, a, dx, _, rfl, ha, _, cr, T, u, w, rfl, A, _, rfl, a, dx, _, rfl, ha, _, cr, T, u, w, rfl, A, _, rfl, a, dx, _, rfl, ha, _, cr, T, u, w, rfl, A, ?_⟩
  refine ⟨_, rfl, a, dx, _, rfl, ha, a, cr, T, u, w, rfl, A, _, rfl, ?_⟩
  refine ⟨_, rfl, a, dx, _, rfl, ha, _, cr, T, u, w, rfl, A, fun r1 hr1 => ?_⟩
  obtain ⟨ra, rd, ru, rfl, hra, _⟩ := id hr1
  refine ⟨ra, rd, _, rfl, hra, lk_tree (by decide +kernel), _, T, rfl, hr1, fun t ht => ⟨by show 6 ≤ sizeLine; decide, fun p hp1 => ?_⟩⟩
  have s1 := same_new (o := .lst [.int cr, .int (cr - u - w), .int u, .int w, .bl (decide (0 < cr - u - w)), t]) hp1
  refine ⟨_, rfl, _, rfl, _, rfl, _, rfl, _, rfl, _, rfl, _, _, rfl, rfl, _, rfl, by show 6 ≤ sizeLine; decide, fun q hq => ?_⟩
  have s2 := same_new (o := .lst [.int cr, .int (cr - u - w), .int u, .int w, .bl (decide (0 < cr - u - w)), v]) hq
  have s12 := s1.trans s2
  have gd : Good (.list [.int cr, .int (cr - u - w), .int u, .int w, .bool (decide (0 < cr - u - w)), T.pd]) :=
    (gt_list (at_cons (gt_int (by omega)) (at_cons (gt_int (by omega)) (at_cons (gt_int (by omega)) (at_cons (gt_int (by omega)) (at_cons (gt_bool _) (at_cons (gt_tree ok) at_nil))))))).good (by omega) (by omega)
  exact ⟨_, _, _, rfl, .lst (SqL.of (s2 _ _ upd_same)) (.cons (.int _) (.cons (.int _) (.cons (.int _) (.cons (.int _) (.cons (.bl _) (.cons (ht.mono (Tups.same s12)).dp .nil)))))),
    .lst (SqL.of upd_same) (.cons (.int _) (.cons (.int _) (.cons (.int _) (.cons (.int _) (.cons (.bl _) (.cons (hT.mono (Tups.same s12)).dp .nil)))))), gd, k _ s12⟩
end
end Pk
set_option Elab.async false
set_option linter.all false
set_option maxRecDepth 100000
set_option maxHeartbeats 4000000
/-! a set of whole numbers by a comprehension of two clauses without tests; sorted of a set of any size -/
namespace Pk
open PySem PySem.Spec L2 PyProof.Rows
/-- {elt for ta in ia for tb in ib} -/
abbrev Set2 (elt ta ia tb ib : Expr) (sc : Scope) (ps : Pos) : Expr := .SetComp elt [⟨ta, ia, [], 0⟩, ⟨tb, ib, [], 0⟩] sc ps
abbrev Nt (M : Model) (A : Around) (env : Env) (R : Result → Shared → Prop) : Value → Shared → Prop := notedBy M A env fun e z => R (.error e) z
section
variable {prog : Program} {w : World} {A : Around} {R : Result → Shared → Prop} {z : Shared} {elt ta ia tb ib : Expr} {sc : Scope} {ps : Pos} {it acc : Value} {env : Env}
theorem set2_outer : compTurn (Set2 elt ta ia tb ib sc ps) 0 it acc env = (do
      standAt ia.pos
      match ← pyNext it with
      | none => pure (.done .next)
      | some u =>
        letOwnedTupleGo ta it u
        assign ta env u
        let mut go := true
        for c in ([] : List Expr) do
          if go then go ← isTrue c env (eval c env)
        if go then
          let y ← eval ib env
          standAt ib.pos
          let y ← foldedSetIterable ib env y
          let _ ← runOwn (.compStart (Set2 elt ta ia tb ib sc ps) 1 (← holding [y] (pyIter y)) acc env) env
        again (.compLoop (Set2 elt ta ia tb ib sc ps) 0 it acc env)) := by rfl
theorem set2_inner : compTurn (Set2 elt ta ia tb ib sc ps) 1 it acc env = (do
      standAt ib.pos
      match ← pyNext it with
      | none => pure (.done .next)
      | some u =>
        letOwnedTupleGo tb it u
        assign tb env u
        let mut go := true
        for c in ([] : List Expr) do
          if go then go ← isTrue c env (eval c env)
        if go then
          (do let y ← eval elt env; standAt elt.pos; let _ ← call (.builtin "set.add") [acc, y])
        again (.compLoop (Set2 elt ta ia tb ib sc ps) 1 it acc env)) := by rfl
theorem keep_e {α : Type} {t : Sem α} {Q Q' : α → Shared → Prop} {M : Model} {E : Value → Shared → Prop} (h : wpAny M A t Q E z) (k : ∀ a y, Q a y → Q' a y) : wpAny M A t Q' E z := wpAny_mono h k fun _ _ x => x
theorem bind_e {α β : Type} {t : Sem α} {f : α → Sem β} {Q : α → Shared → Prop} {Q' : β → Shared → Prop} {M : Model} {E : Value → Shared → Prop} (h : wpAny M A t Q E z) (k : ∀ a y, Q a y → wpAny M A (f a) Q' E y) : wpAny M A (t >>= f) Q' E z := wpAny_bind (keep_e h k)
/-- the loop of the first clause -/
theorem set2_loopA (fo : ∀ x, foldedSetIterable ib env x = pure x) (I : Nat → Shared → Prop)
    (turn : ∀ n y, I n y → wpAny (model prog w) A (pyNext it) (fun r y1 => match r with
      | none => R (.ok .next) y1
      | some u => wpAny (model prog w) A (letOwnedTupleGo ta it u) (fun _ y2 => wpAny (model prog w) A (assign ta env u) (fun _ y3 => wpAny (model prog w) A (eval ib env) (fun x y4 => wpAny (model prog w) A (pyIter x) (fun i1 y5 =>
          codeAny (model prog w) A (.compStart (Set2 elt ta ia tb ib sc ps) 1 i1 acc env) (fun q y6 => match q with
            | .ok _ => ∃ m, m < n ∧ I m y6
            | .error _ => False) y5) (Nt (model prog w) A env R) y4) (Nt (model prog w) A env R) y3) (Nt (model prog w) A env R) y2) (Nt (model prog w) A env R) y1) (Nt (model prog w) A env R) y)
    (n : Nat) (h : I n z) : codeAny (model prog w) A (.compLoop (Set2 elt ta ia tb ib sc ps) 0 it acc env) R z := by
  refine codeAny_loop rfl I (fun n y hI => ?_) n h
  show wpAny _ A ((compTurn (Set2 elt ta ia tb ib sc ps) 0 it acc env).onRaise fun x => do noteFrame x env; theTreesLotGoes x) _ _ y
  refine wpAny_noted ?_
  rw [set2_outer]
  refine wpAny_bind (wpAny_standAt (bind_e (turn n y hI) fun r y1 h1 => ?_))
  cases r with
  | none => exact wpAny_pure h1
  | some u =>
    refine bind_e h1 fun _ y2 h2 => bind_e h2 fun _ y3 h3 => wpAny_bind (wpAny_tests_nil ?_)
    refine bind_e h3 fun x y4 h4 => wpAny_bind (wpAny_standAt (wpAny_bind (wpAny_of_eq (fo x) (wpAny_bind (wpAny_holding (keep_e h4 fun i1 y5 h5 => ?_))))))
    refine wpAny_bind (wpAny_runOwn ?_)
    rw [Around.mark_none]
    refine codeAny_mono h5 fun q y6 hq => ?_
    cases q with
    | error e => exact hq.elim
    | ok f =>
      first
        | exact wpAny_pure ⟨rfl, hq⟩
        | exact wpAny_bind (wpAny_pure (wpAny_pure ⟨rfl, hq⟩))
/-- the loop of the second -/
theorem set2_loopB (I : Nat → Shared → Prop)
    (turn : ∀ n y, I n y → wpAny (model prog w) A (pyNext it) (fun r y1 => match r with
      | none => R (.ok .next) y1
      | some u => wpAny (model prog w) A (letOwnedTupleGo tb it u) (fun _ y2 => wpAny (model prog w) A (assign tb env u) (fun _ y3 => wpAny (model prog w) A (eval elt env) (fun x y4 =>
          wpAny (model prog w) A (call (.builtin "set.add") [acc, x]) (fun _ y5 => ∃ m, m < n ∧ I m y5) (Nt (model prog w) A env R) y4) (Nt (model prog w) A env R) y3) (Nt (model prog w) A env R) y2) (Nt (model prog w) A env R) y1) (Nt (model prog w) A env R) y)
    (n : Nat) (h : I n z) : codeAny (model prog w) A (.compLoop (Set2 elt ta ia tb ib sc ps) 1 it acc env) R z := by
  refine codeAny_loop rfl I (fun n y hI => ?_) n h
  show wpAny _ A ((compTurn (Set2 elt ta ia tb ib sc ps) 1 it acc env).onRaise fun x => do noteFrame x env; theTreesLotGoes x) _ _ y
  refine wpAny_noted ?_
  rw [set2_inner]
  refine wpAny_bind (wpAny_standAt (bind_e (turn n y hI) fun r y1 h1 => ?_))
  cases r with
  | none => exact wpAny_pure h1
  | some u =>
    refine bind_e h1 fun _ y2 h2 => bind_e h2 fun _ y3 h3 => wpAny_bind (wpAny_tests_nil ?_)
    exact wpAny_bind (bind_e h3 fun x y4 h4 => wpAny_bind (wpAny_standAt (bind_e h4 fun _ y5 h5 => wpAny_pure (wpAny_pure ⟨rfl, h5⟩))))
/-- the second clause begins -/
theorem set2_startB (h0 : codeAny (model prog w) A (.compLoop (Set2 elt ta ia tb ib sc ps) 1 it acc env) R z)
    (h : wpAny (model prog w) A (pyIter it) (fun i2 y => codeAny (model prog w) A (.compLoop (Set2 elt ta ia tb ib sc ps) 1 i2 acc env) R y) (Nt (model prog w) A env R) z) :
    codeAny (model prog w) A (.compStart (Set2 elt ta ia tb ib sc ps) 1 it acc env) R z := by
  refine codeAny_of_tree ?_
  show wpAny _ A ((compStart (Set2 elt ta ia tb ib sc ps) 1 it acc env).onRaise fun x => do noteFrame x env; standAt theWindowsPlace) _ _ z
  refine wpAny_notedAt ?_
  unfold compStart
  show wpAny _ A (ask >>= _) _ _ z
  refine wpAny_bind (wpAny_askSetting (wpAny_ite (by split <;> first
    | exact wpAny_bind (wpAny_pure (wpAny_pure (And.intro rfl h0)))
    | exact wpAny_pure (And.intro rfl h0)
    | exact wpAny_bind (wpAny_rule (wpAny_bind (wpAny_standAt (bind_e h fun i2 y hy => wpAny_pure (And.intro rfl hy)))))
    | (refine wpAny_bind (wpAny_rule ?_); show wpAny _ _ (standAt ib.pos >>= _) _ _ z; exact wpAny_bind (wpAny_standAt (bind_e h fun i2 y hy => wpAny_pure (And.intro rfl hy)))))))
end
section
variable {X : Cx}
/-- set.add of a whole number -/
theorem seti_add {pins : List (Addr × Obj)} {σ : L2.St} {H : Hp} {s : Shared} {E : Value → Shared → Prop} {D : Addr} {S : Int → Bool} {n : Nat} {k : Int} {tk : Tok} {Q : Value → Shared → Prop} (I : Inv X pins σ H s) (hD : H D = some (SetO X.w D S n)) (room : n + 1 < scanBound)
    (h : ∀ z, Inv X pins σ (upd H D (SetO X.w D (fun j => S j || decide (j = k)) (if S k = true then n else n + 1))) z → Q .none z) : wpAny (model X.prog X.w) X.A (call (.builtin "set.add") [.ref D, .int k tk]) Q E s := by
  refine setR_add (setO_get I hD) room fun g sb new => h _ ?_
  have at_ : ∃ u, g.get? D = some u := by
    obtain ⟨o, _, _, _, e, _⟩ := id new
    exact ⟨o, e⟩
  exact I.write (e := D) (t' := s.toks + 1) (by rw [hD]; trivial) (Or.inl rfl) (fun c u n e => (sb.2 c n).trans e) at_ (setO_new new)
/-- what the comprehension asks: as for lists, the items added to a set -/
def tSet2 (w : World) (wa : TI) (ga : TG) (wb : TI) (gb : TG) (te : TE) (vs vb : List Nat) : TE := fun σ H Q => wa σ H fun J H1 => ∀ D, H1 D = none → ∃ W : Nat → Nat → Hp → Prop, (∃ m, W 0 m (upd H1 D (SetO w D (fun _ => false) 0))) ∧ ∀ i m H, W i m H →
  (J.stop i H ∧ Q (.ref D) H) ∨ (J.go i H ∧ ∃ Nx : Hp → Prop, (∀ G, Nx G → ∃ m', m' < m ∧ W (i + 1) m' G) ∧ ∀ x G, J.yld i H x G → ga x (wipe σ vs) G fun τ H2 => wipe τ vs = wipe σ vs ∧
    wb τ H2 fun L H4 => ∃ V : Nat → Nat → Hp → Prop, (∃ m, V 0 m H4) ∧ ∀ j k H, V j k H →
      (L.stop j H ∧ Nx H) ∨ (L.go j H ∧ ∃ Ny : Hp → Prop, (∀ G, Ny G → ∃ k', k' < k ∧ V (j + 1) k' G) ∧ ∀ x G, L.yld j H x G → gb x (wipe τ vb) G fun ρ H5 => wipe ρ vb = wipe τ vb ∧
        te ρ H5 fun y H7 => ∃ (c : Int) (S : Int → Bool) (n : Nat), y = .int c ∧ H7 D = some (SetO w D S n) ∧ n + 1 < scanBound ∧ Ny (upd H7 D (SetO w D (fun j => S j || decide (j = c)) (if S c = true then n else n + 1)))))
theorem pe_set2 {elt ta ia tb ib : Expr} {sc : Scope} {own : List (PySem.Str × Nat)} {vb : List Nat} {ps : Pos} {wa wb : TI} {ga gb : TG} {te : TE} (hc : X.calm = true) (hN : X.N.Nodup) (hi : PI X ta ia wa) (ok : BlkOk X.N X.env.scope sc own) (hv : ∀ i ∈ vb, i ∈ own.map (·.2))
    (hg : ∀ (s : Shared) (H : Hp) (C : Addr) (cl : List (PySem.Str × Addr)) (fp : List Addr), PG (X.blk s H sc (compEnvC sc cl C X.env) fp) ta ga)
    (hi1 : ∀ (s : Shared) (H : Hp) (C : Addr) (cl : List (PySem.Str × Addr)) (fp : List Addr), PI (X.blk s H sc (compEnvC sc cl C X.env) fp) tb ib wb)
    (hg1 : ∀ (s : Shared) (H : Hp) (C : Addr) (cl : List (PySem.Str × Addr)) (fp : List Addr), PG (X.blk s H sc (compEnvC sc cl C X.env) fp) tb gb)
    (he : ∀ (s : Shared) (H : Hp) (C : Addr) (cl : List (PySem.Str × Addr)) (fp : List Addr), PE (X.blk s H sc (compEnvC sc cl C X.env) fp) elt te) (fa : ∀ x, foldedSetIterable ia X.env x = pure x := by intro _; rfl) (fb : ∀ env x, foldedSetIterable ib env x = pure x := by intro _ _; rfl) :
    PE X (Set2 elt ta ia tb ib sc ps) (tSet2 X.w wa ga wb gb te (own.map (·.2)) vb) := by
  refine ⟨fun pins s σ H Q I h => ?_⟩
  rw [PpSet.eval_SetComp]
  have clos := closure_ok (scope := sc) (env := X.env) fun y hy e => (ok.free y hy e).elim (fun k => I.ok.has _ (.inl k)) fun k => I.ok.has _ (.inr k)
  refine wpAny_comprehension_free (use := none) rfl fa clos ok.kind (fun y hy e => by rw [ok.uniq y hy, e]) (thn (hi.run pins s σ H _ I h) fun xv s1 hx => thn hx fun itv s2 h2 => ?_)
  obtain ⟨it, fp, tn, J, H2, rfl, I2, T, st2, f2, q⟩ := h2
  refine PpSet.newSet_ok (newEnv_comp ?_)
  generalize hD : s2.heap.objs.size = D
  obtain ⟨W, ⟨m0, w0⟩, turn⟩ := q D (I2.hok.fresh (Nat.le_of_eq hD))
  have fresh := setR_fresh (h := s2.heap) X.w
  generalize eo : ({ cls := .type "set", dict := none, data := .set #[] 0 (.fresh 0 0 (!X.w.params.followText "set-order")) } : Obj) = ob at fresh ⊢
  rw [hD] at fresh
  generalize eH : upd H2 D (SetO X.w D (fun _ => false) 0) = H3 at w0
  generalize es : ({ s2 with heap := s2.heap.push ob } : Shared) = s3
  have h3 : s3.heap = s2.heap.push ob := by rw [← es]
  have I3 : Inv X pins σ H3 s3 := by
    rw [← eH, ← es]
    exact I2.laid (t' := s2.toks) (fun b o e => Heap.get?_push_of_some _ e) (Nat.le_of_eq hD) (setO_new fresh)
  have old3 : ∀ b o, s2.heap.get? b = some o → s3.heap.get? b = some o := fun b o e => by
    rw [h3]
    exact Heap.get?_push_of_some _ e
  have low : ∀ b ∈ fp, b < s2.heap.objs.size := fun b hb => (T.obj _ _ st2 b hb).elim fun o e => Heap.lt_size e.1
  have f3 : ∀ b ∈ fp, FpOk X pins H3 b ∧ b < s3.heap.objs.size := fun b hb => by
    refine ⟨⟨?_, (f2 b hb).2⟩, by rw [h3, Heap.size_push]; exact Nat.lt_succ_of_lt (low b hb)⟩
    rw [← eH, upd_ne (by rw [← hD]; exact Nat.ne_of_lt (low b hb))]
    exact (f2 b hb).1
  have I4 := block_start I3 ok hN f3
  have pg := hg s3 H3 s3.heap.objs.size (cellsFrom (s3.heap.objs.size + 1) sc.names (cloFrom X.env.cells sc.names [])) fp
  have pi1 := hi1 s3 H3 s3.heap.objs.size (cellsFrom (s3.heap.objs.size + 1) sc.names (cloFrom X.env.cells sc.names [])) fp
  have pg1 := hg1 s3 H3 s3.heap.objs.size (cellsFrom (s3.heap.objs.size + 1) sc.names (cloFrom X.env.cells sc.names [])) fp
  have pe := he s3 H3 s3.heap.objs.size (cellsFrom (s3.heap.objs.size + 1) sc.names (cloFrom X.env.cells sc.names [])) fp
  show codeAny _ _ (.compStart (Set2 elt ta ia tb ib sc ps) 0 (.ref it) (.ref D) (compEnvC sc (cellsFrom (s3.heap.objs.size + 1) sc.names (cloFrom X.env.cells sc.names [])) s3.heap.objs.size X.env)) (compPost (model X.prog X.w) X.A X.xe none (EP X pins σ Q) (.ref D) s3.heap.objs.size) { s3 with heap := pushCells (s3.heap.push { cls := .type "dict", data := .dict #[] }) sc.names }
  generalize ece : compEnvC sc (cellsFrom (s3.heap.objs.size + 1) sc.names (cloFrom X.env.cells sc.names [])) s3.heap.objs.size X.env = ce at I4 pg pe pi1 pg1 ⊢
  have cL : ce.locals = s3.heap.objs.size := by subst ece; rfl
  generalize es4 : ({ s3 with heap := pushCells (s3.heap.push { cls := .type "dict", data := .dict #[] }) sc.names } : Shared) = s4 at I4 ⊢
  have st4 : tn 0 s4.heap := T.keep _ _ _ st2 fun b _ o e => by
    rw [← es4]
    exact pushCells_keeps _ _ _ _ (Heap.get?_push_of_some _ (old3 b o e))
  generalize eY : X.blk s3 H3 sc ce fp = Y at I4 pg pe pi1 pg1
  have eA : Y.A = X.A := by rw [← eY]
  have stat : ∀ {τ : L2.St} {G : Hp} {z : Shared}, Inv Y [] τ G z → (∀ b ∈ fp, G b = none) → ∀ b ∈ fp, FpOk Y [] G b := fun {τ G z} I' hn b hb => by
    subst eY
    exact ⟨hn b hb, (I'.ok.exf b hb).1, I'.ok.exfs b hb, .inl hb, fun x c e => (I'.ok.exf b hb).2 x c e, fun p hp => absurd (show p ∈ ([] : List (Addr × Obj)) ++ [] from hp) (by simp)⟩
  have back : ∀ {G : Hp} {z : Shared}, Inv Y [] (wipe σ (own.map (·.2))) G z → Q (.ref D) G → compPost (model X.prog X.w) X.A X.xe none (EP X pins σ Q) (.ref D) s3.heap.objs.size (.ok .next) z := fun {G z} I6 qq => by
    subst eY
    have I7 : Inv X pins σ G z := I3.call' (ch := fp) I6.os I6.base I6.hok I6.bare fun b hb => ⟨(f3 b hb).1.2.2.2.1, (f3 b hb).1.2.1, (f3 b hb).1.2.2.2.2.1, (f3 b hb).1.2.2.2.2.2⟩
    have nC : G s3.heap.objs.size = none := cL ▸ (show G ce.locals = none from I6.free)
    obtain ⟨m, hn, _⟩ := I6.loc
    have hn : z.heap.Ns s3.heap.objs.size m := cL ▸ (show z.heap.Ns ce.locals m from hn)
    obtain ⟨p0, p1, p2, p3, p4, p5⟩ := I3.fpOk (Nat.le_refl _) nC
    exact ⟨m, hn, fun g sb => ⟨.ref D, G, I7.turned (t' := z.toks) (fun b o hb e => (sb.2 b hb).trans e) p0 p1 p3 p4 p5, rfl, qq⟩⟩
  have w1 : ∃ G, Inv Y [] (wipe σ (own.map (·.2))) G s4 ∧ (∀ b ∈ fp, G b = none) ∧ W 0 m0 G := ⟨H3, I4, fun b hb => (f3 b hb).1.1, w0⟩
  subst eY
  have loop : codeAny (model X.prog X.w) X.A (.compLoop (Set2 elt ta ia tb ib sc ps) 0 (.ref it) (.ref D) ce) (compPost (model X.prog X.w) X.A X.xe none (EP X pins σ Q) (.ref D) s3.heap.objs.size) s4 := by
    obtain ⟨G0, IG, nG, wG⟩ := w1
    refine set2_loopA (fb ce) (fun n y => ∃ i G, Inv (X.blk s3 H3 sc ce fp) [] (wipe σ (own.map (·.2))) G y ∧ tn i y.heap ∧ (∀ b ∈ fp, G b = none) ∧ W i n G) ?_ m0 ⟨0, G0, IG, st4, nG, wG⟩
    clear IG wG nG G0
    rintro n s5 ⟨i, H5, I5, st5, n5, w5⟩
    rcases turn i n H5 w5 with ⟨stop, qq⟩ | ⟨go, Nx, hNx, step⟩
    · refine thnF (T.done (X.blk s3 H3 sc ce fp) rfl rfl rfl hc i [] s5 _ H5 (fun _ _ => False) I5 (stat I5 n5) st5 stop) fun r s6 ⟨hr, I6⟩ => ?_
      subst hr
      exact back I6 qq
    · refine thnF (T.item (X.blk s3 H3 sc ce fp) rfl rfl rfl hc i [] s5 _ H5 (fun _ _ => False) I5 (stat I5 n5) st5 go) fun r s6 ⟨u, hr, h6⟩ => ?_
      subst hr
      refine thnF h6 fun _ s7 ⟨x, H7, I7, r7, y7, st7, n7⟩ => ?_
      have I7' := I7.pinned (stat I7 n7) (T.obj _ _ st7)
      refine thnF (pg.run _ s7 _ H7 x u _ I7' r7 (step x H7 y7)) fun _ s8 ⟨σ8, H8, I8, hw8, q8⟩ => ?_
      have over : ∀ {τ : L2.St} {z : Shared} {G : Hp}, Inv (X.blk s3 H3 sc ce fp) ([] ++ pinsAt fp s7.heap) τ G z → (wipe σ (own.map (·.2))).length = τ.length → (∀ (j : Nat) v, (wipe σ (own.map (·.2)))[j]? = some (some v) → τ[j]? = some (some v)) → Nx G →
          ∃ m, m < n ∧ ∃ i G, Inv (X.blk s3 H3 sc ce fp) [] (wipe σ (own.map (·.2))) G z ∧ tn i z.heap ∧ (∀ b ∈ fp, G b = none) ∧ W i m G := fun {τ z G} I' hl hk nx => by
        obtain ⟨m', hm, w'⟩ := hNx G nx
        have pin' : ∀ b ∈ fp, ∀ o, s7.heap.get? b = some o → z.heap.get? b = some o ∧ G b = none := fun b hb o e => by
          obtain ⟨k1, k2, _⟩ := I'.pin (b, o) (List.mem_append_right _ (List.mem_append_right _ (mem_pinsAt hb e)))
          exact ⟨k1, k2⟩
        exact ⟨m', hm, i + 1, G, (I'.unpinned (pins := [])).weak hl hk, T.keep _ _ _ st7 fun b hb o e => (pin' b hb o e).1, fun b hb => (T.obj _ _ st7 b hb).elim fun o e => (pin' b hb o e.1).2, w'⟩
      have hl8 : (wipe σ (own.map (·.2))).length = σ8.length := by rw [← hw8, wipe_length]
      have hk9 : ∀ (j : Nat) v, (wipe σ (own.map (·.2)))[j]? = some (some v) → (wipe σ8 vb)[j]? = some (some v) := fun j v e => by
        rw [← hw8] at e
        obtain ⟨e1, e2⟩ := wipe_some e
        rw [wipe_out fun z => e2 (hv j z)]
        exact e1
      refine thnF (pi1.run _ s8 σ8 H8 _ I8 q8) fun xv s10 hx => thnF hx fun itv s11 h11 => ?_
      obtain ⟨it1, fp1, tn1, L, H11, rfl, I11, T1, st11, f11, V, ⟨m1, v1⟩, turn1⟩ := h11
      have stat1 : ∀ {G : Hp}, (∀ b ∈ fp1, G b = none) → ∀ b ∈ fp1, FpOk (X.blk s3 H3 sc ce fp) ([] ++ pinsAt fp s7.heap) G b := fun hn b hb => ⟨hn b hb, (f11 b hb).2⟩
      have loop1 : codeAny (model X.prog X.w) X.A (.compLoop (Set2 elt ta ia tb ib sc ps) 1 (.ref it1) (.ref D) ce)
          (fun q y6 => match q with
            | .ok _ => ∃ m, m < n ∧ ∃ i G, Inv (X.blk s3 H3 sc ce fp) [] (wipe σ (own.map (·.2))) G y6 ∧ tn i y6.heap ∧ (∀ b ∈ fp, G b = none) ∧ W i m G
            | .error _ => False) s11 := by
        refine set2_loopB (fun k y => ∃ j G, Inv (X.blk s3 H3 sc ce fp) ([] ++ pinsAt fp s7.heap) (wipe σ8 vb) G y ∧ tn1 j y.heap ∧ (∀ b ∈ fp1, G b = none) ∧ V j k G) ?_ m1 ⟨0, H11, I11.weak (wipe_length _ _) (fun j v e => (wipe_some e).1), st11, fun b hb => (f11 b hb).1, v1⟩
        rintro k s12 ⟨j, H12, I12, st12, n12, v12⟩
        rcases turn1 j k H12 v12 with ⟨stop1, nx1⟩ | ⟨go1, Ny, hNy, step1⟩
        · refine thnF (T1.done (X.blk s3 H3 sc ce fp) rfl rfl rfl hc j _ s12 (wipe σ8 vb) H12 (fun _ _ => False) I12 (stat1 n12) st12 stop1) fun r s13 ⟨hr, I13⟩ => ?_
          subst hr
          exact over I13 (hl8.trans (wipe_length σ8 vb).symm) hk9 nx1
        · refine thnF (T1.item (X.blk s3 H3 sc ce fp) rfl rfl rfl hc j _ s12 (wipe σ8 vb) H12 (fun _ _ => False) I12 (stat1 n12) st12 go1) fun r s13 ⟨u1, hr, h13⟩ => ?_
          subst hr
          refine thnF h13 fun _ s14 ⟨x1, H14, I14, r14, y14, st14, n14⟩ => ?_
          have I14' := I14.pinned (stat1 n14) (T1.obj _ _ st14)
          refine thnF (pg1.run _ s14 (wipe σ8 vb) H14 x1 u1 _ I14' r14 (step1 x1 H14 y14)) fun _ s15 ⟨σ15, H15, I15, hw15, q15⟩ => ?_
          refine thnF (pe.run _ s15 σ15 H15 _ I15 q15) fun yv s17 ⟨y, H17, I17, r17, c, S, n0, ey, hD17, room, ny⟩ => ?_
          subst ey
          obtain ⟨tk, rfl⟩ := r17
          have over1 : ∀ {z : Shared} {G : Hp}, Inv (X.blk s3 H3 sc ce fp) (([] ++ pinsAt fp s7.heap) ++ pinsAt fp1 s14.heap) σ15 G z → Ny G → ∃ m, m < k ∧ ∃ j G, Inv (X.blk s3 H3 sc ce fp) ([] ++ pinsAt fp s7.heap) (wipe σ8 vb) G z ∧ tn1 j z.heap ∧ (∀ b ∈ fp1, G b = none) ∧ V j m G := fun {z G} I' nx => by
            obtain ⟨m', hm, v'⟩ := hNy G nx
            have pin' : ∀ b ∈ fp1, ∀ o, s14.heap.get? b = some o → z.heap.get? b = some o ∧ G b = none := fun b hb o e => by
              obtain ⟨k1, k2, _⟩ := I'.pin (b, o) (List.mem_append_right _ (List.mem_append_right _ (mem_pinsAt hb e)))
              exact ⟨k1, k2⟩
            exact ⟨m', hm, j + 1, G, I'.unpinned.weak (by rw [← hw15, wipe_length]) (fun j v e => by rw [← hw15] at e; exact (wipe_some e).1), T1.keep _ _ _ st14 fun b hb o e => (pin' b hb o e).1, fun b hb => (T1.obj _ _ st14 b hb).elim fun o e => (pin' b hb o e.1).2, v'⟩
          exact seti_add (X := X.blk s3 H3 sc ce fp) I17 hD17 room fun s18 I18 => over1 I18 ny
      exact set2_startB loop1 (T1.self X.A 0 _ _ _ st11 loop1)
  exact PpSet.codeAny_compStart_set loop (T.self X.A 0 _ _ _ st4 loop)
/-- sorted(a set of whole numbers), of any size -/
def rSortedSetI (w : World) : List V → Hp → VK → Prop := fun vs H Q => ∃ (a : Addr) (S : Int → Bool) (n : Nat), vs = [V.ref a] ∧ H a = some (SetO w a S n) ∧
  ∀ (ns : List Int) (p : Addr), ns.Pairwise (· < ·) → (∀ k : Int, k ∈ ns ↔ S k = true) → H p = none → Q (.ref p) (upd H p (.lst (ns.map V.int)))
theorem cr_sortedSetI (hc : X.calm = true) : CallR X (.builtin "sorted") (rSortedSetI X.w) := by
  intro pins s σ H vs us Q I r h
  obtain ⟨a, S, n, rfl, ha, q⟩ := h
  rw [Vals.ref1 r]
  obtain ⟨o, es, ep, t, ho, hex, hd, g, nd, hm, hb, hf, hn, hr, hl⟩ := setO_get I ha
  refine Calls.call_function_entry kind_sorted plain_sorted entry_sorted (args_sorted1 _) ?_
  unfold Builtin.«sorted»
  refine wpAny_bind (m := checkCount "sorted" 1 1 _) (wpAny_pure ?_)
  refine wpAny_bind (collect_set (A := X.A.in1) (I.ok.hd hc) ⟨o, ho, hex.1, hd⟩ hf hb hr hl fun z ws old hz hg hos pm => ?_)
  have big : es.size < scanBound := hb
  have wl : ws.length = es.size := by rw [pm.length_eq, List.length_map, Array.length_toList]
  have fits : ws.length ≤ sizeLine := by
    have b1 : scanBound ≤ sizeLine := by rw [sizeLine_eq]; decide
    omega
  have hin : IntsAre ws (ws.map SrtO.iv) := SrtO.ints_iv fun v hv => by
    obtain ⟨e, he, rfl⟩ := List.mem_map.mp (pm.mem_iff.mp hv)
    obtain ⟨k, tk, e1, _⟩ := g e he
    exact ⟨k, tk, e1⟩
  have keys : (ws.map SrtO.iv).Perm (es.toList.map keyOf) := by
    have e := pm.map SrtO.iv
    rw [List.map_map] at e
    refine e.trans (List.Perm.of_eq (List.map_congr_left fun x hx => ?_))
    obtain ⟨k, tk, e1, _⟩ := g x hx
    show SrtO.iv x.2 = keyOf x
    unfold keyOf
    rw [e1]
    rfl
  refine wpAny_bind (wpAny_newList ?_ fits)
  have lay : (z.heap.push (seqObj "list" ws.toArray 0)).get? z.heap.objs.size = some (seqObj "list" ws.toArray 0) := Heap.get?_push_size _ rfl
  refine wpAny_bind (wpAny_holding (wpAny_call_entry PyProof.Rows.slot_list_sort ⟨_, lay, rfl⟩ PyProof.Rows.entry_list_sort
    (SrtO.list_sort_ord SrtO.swo_int lay fits (fun two => SrtO.ints_sortable hin two) fun out p1 p2 => ⟨.none, rfl, ?_⟩) (PyProof.Rows.args_list_sort _)))
  obtain ⟨k1, k2, k3⟩ := SrtO.ints_out hin p1 p2
  obtain ⟨c, hcN⟩ := PyProof.Rows.sortedHeap_at (vs := ws) (out := out.toArray) lay
  have pn : (out.map SrtO.iv).Perm (es.toList.map keyOf) := k2.trans keys
  have hp : H z.heap.objs.size = none := I.hok.fresh hz
  have len : ((out.map SrtO.iv).map V.int).length ≤ sizeLine := by
    rw [List.length_map, k2.length_eq, List.length_map]
    exact fits
  have kept : ∀ b u, s.heap.get? b = some u → (PyProof.Rows.sortedHeap (z.heap.push (seqObj "list" ws.toArray 0)) z.heap.objs.size ws out.toArray).get? b = some u := fun b u e => by
    have e1 := old b u e
    have lt := Heap.lt_size e1
    rw [PyProof.Rows.sortedHeap_old (Nat.ne_of_lt lt) (by rw [size_push']; exact Nat.lt_succ_of_lt lt)]
    exact Heap.get?_push_of_some _ e1
  refine wpAny_pure ⟨_, rfl, ?_⟩
  obtain ⟨heap2, os2⟩ : ∃ hh : Heap, hh = PyProof.Rows.sortedHeap (z.heap.push (seqObj "list" ws.toArray 0)) z.heap.objs.size ws out.toArray := ⟨_, rfl⟩
  have J : Inv X pins σ (upd H z.heap.objs.size (.lst ((out.map SrtO.iv).map V.int))) { s with heap := heap2, gens := z.gens, drawn := z.drawn, toks := z.toks } :=
    I.call (ch := []) (Un.laid (by rw [os2]; exact kept) hz hp) (I.hok.laid (by rw [os2]; exact kept) hz ⟨len, out, c, vals_of_ints k1, by rw [os2]; exact hcN⟩) (by rw [hg]; exact I.bare) (fun _ x => nomatch x)
  have same : { z with heap := heap2 } = { s with heap := heap2, gens := z.gens, drawn := z.drawn, toks := z.toks } := by
    cases z
    cases s
    cases hos
    rfl
  refine ⟨.ref _, _, ?_, rfl, q (out.map SrtO.iv) z.heap.objs.size (lt_of_le_nodup _ k3 (pn.nodup_iff.mpr nd)) (fun k => by rw [pn.mem_iff, ← hm k]) hp⟩
  have J2 := J
  rw [← same, os2] at J2
  exact J2
end
end Pk
set_option Elab.async false
set_option linter.all false
set_option maxRecDepth 100000
set_option maxHeartbeats 2000000
/-! == of Rules: the amounts that tell, read -/
namespace Pk
open PySem PySem.Spec L2 PyProof.Rows
/-- where something may begin -/
def Tr.st (A B : Tr) : List Int := 0 :: (A.starts ++ B.starts)
/-- the amounts at which the program looks -/
def Tr.tells (A B : Tr) (k : Int) : Prop := ∃ s ∈ A.st B, s ≤ k ∧ k < s + 60
def Tr.alike (A B : Tr) : Prop := ∀ k, A.tells B k → A.give k = B.give k
theorem Tr.st_len {A B : Tr} (a : A.lv ≤ 6) (b : B.lv ≤ 6) : (A.st B).length ≤ 13 := by
  unfold Tr.st
  rw [List.length_cons, List.length_append, A.starts_len, B.starts_len]
  omega
theorem mem_take_succ {L : List Int} {i : Nat} (h : i < L.length) (x : Int) : x ∈ L.take (i + 1) ↔ x ∈ L.take i ∨ x = L[i] := by
  rw [List.take_succ_eq_append_getElem h, List.mem_append, List.mem_singleton]
section
variable {K : PySem.W.Frag} {C : Cs} {vs : List V} {H H' G G' : Hp} {Q : VK} {E : XK} {n : Nat} {w : World}
def sp_telling (K : PySem.W.Frag) : Sp := fun vs H Q _ => ∃ u v A B, vs = [u, v] ∧ TrAt K H u A ∧ TrAt K H v B ∧ A.lv ≤ 6 ∧ B.lv ≤ 6 ∧
  ∀ (ns : List Int) p H', ns.Pairwise (· < ·) → (∀ k, k ∈ ns ↔ A.tells B k) → H p = none → Same H H' → H' p = some (.lst (ns.map V.int)) → Q (.ref p) H'
def t_telling (K : PySem.W.Frag) (w : World) : TS :=
  (tSeq (tAsg (tOp (rAddU K) (tOp (rAddU K) (tLst (tCons (tC (.int 0)) tNil)) (tCall (sp_starts_of K) [] E0 (tCons (tVar 0) tNil))) (tCall (sp_starts_of K) [] E0 (tCons (tVar 1) tNil))) (gName 2))
    (tRet (tCB (rSortedSetI w) (tCons (tSet2 w (iList K (tVar 2)) (gName 3) (iRng1 (tCons (tC (.int 60)) tNil)) (gName 4) (tOp (rAddU K) (tVar 3) (tVar 4)) [3, 4] [4]) tNil))))
theorem ln_telling (h : sp_telling K vs H Q E) : vs.length = 2 := by obtain ⟨_, _, _, _, rfl, _⟩ := h; rfl
theorem rd_telling (h : sp_telling K vs H Q E) : t_telling K w (EndsOf Q) (start ["", "", "", "", ""] vs) H := by
  obtain ⟨u, v, A, B, rfl, hA, hB, lA, lB, k⟩ := h
  refine ⟨two_fit.1, fun p0 h0 => ?_⟩
  have s0 := same_new (o := .lst [.int 0]) h0
  refine ⟨_, rfl, u, A, rfl, hA.mono (Tups.same s0), Tr.dp6 lA, lA, fun p1 H1 h1 s1 e1 => ?_⟩
  refine .inr (.inr (.inl ⟨p0, p1, _, _, rfl, rfl, s1 _ _ upd_same, e1, ?_, fun p2 h2 => ?_⟩))
  · rw [List.length_map, A.starts_len]
    exact Nat.le_of_lt (small1000 (show 1 + A.lv ≤ 1000 by omega))
  have s2 := same_new (o := .lst ([.int 0] ++ A.starts.map V.int)) h2
  have s02 := (s0.trans s1).trans s2
  refine ⟨_, rfl, v, B, rfl, hB.mono (Tups.same s02), Tr.dp6 lB, lB, fun p3 H3 h3 s3 e3 => ?_⟩
  refine .inr (.inr (.inl ⟨p2, p3, _, _, rfl, rfl, s3 _ _ upd_same, e3, ?_, fun p4 h4 => ?_⟩))
  · rw [List.length_append, List.length_map, List.length_map, A.starts_len, B.starts_len]
    exact Nat.le_of_lt (small1000 (show 1 + A.lv + B.lv ≤ 1000 by omega))
  have eL : [V.int 0] ++ A.starts.map V.int ++ B.starts.map V.int = (A.st B).map V.int := by
    unfold Tr.st
    simp
  rw [eL]
  have s4 := (s02.trans s3).trans (same_new (o := .lst ((A.st B).map V.int)) h4)
  have hp4 : (upd H3 p4 (.lst ((A.st B).map V.int))) p4 = some (.lst ((A.st B).map V.int)) := upd_same
  have lL := Tr.st_len lA lB
  dsimp only
  show tRet _ _ [some u, some v, some (.ref p4), none, none] (upd H3 p4 (.lst ((A.st B).map V.int)))
  generalize upd H3 p4 (.lst ((A.st B).map V.int)) = G at s4 hp4
  generalize eLL : A.st B = L at hp4 lL
  refine ⟨_, rfl, p4, rfl, ⟨_, SqL.of hp4⟩, fun D hD => ?_⟩
  have nD : p4 ≠ D := ne_of_none hp4 hD
  refine ⟨fun i m G' => m = L.length - i ∧ i ≤ L.length ∧ Same G G' ∧ ∃ (S : Int → Bool) (n : Nat), G' D = some (SetO w D S n) ∧ n ≤ 60 * i ∧ ∀ k, S k = true ↔ ∃ s ∈ L.take i, s ≤ k ∧ k < s + 60,
    ⟨_, rfl, Nat.zero_le _, same_new hD, _, 0, upd_same, Nat.zero_le _, fun k => by simp⟩, ?_⟩
  rintro i m G1 ⟨rfl, hi, sG, S, n, hS, hn, hm⟩
  by_cases lt : i < L.length
  · refine .inr ⟨⟨_, .int L[i], sG.seq (SqL.of hp4), by simp [lt]⟩, fun G' => i + 1 ≤ L.length ∧ Same G G' ∧ ∃ (S : Int → Bool) (n : Nat), G' D = some (SetO w D S n) ∧ n ≤ 60 * (i + 1) ∧ ∀ k, S k = true ↔ ∃ s ∈ L.take (i + 1), s ≤ k ∧ k < s + 60,
      fun G' ⟨a1, a2, a3⟩ => ⟨L.length - (i + 1), by omega, rfl, a1, a2, a3⟩, ?_⟩
    rintro x G2 ⟨rfl, hx⟩
    have ex := hx _ (sG.seq (SqL.of hp4))
    rw [List.getElem?_map, List.getElem?_eq_getElem lt] at ex
    obtain rfl : V.int L[i] = x := Option.some.inj ex
    refine ⟨rfl, 60, rfl, by decide, by decide, ?_⟩
    refine ⟨fun j m G' => m = 60 - j ∧ j ≤ 60 ∧ Same G G' ∧ ∃ (S : Int → Bool) (n : Nat), G' D = some (SetO w D S n) ∧ n ≤ 60 * i + j ∧ ∀ k, S k = true ↔ (∃ s ∈ L.take i, s ≤ k ∧ k < s + 60) ∨ (L[i] ≤ k ∧ k < L[i] + j),
      ⟨_, rfl, Nat.zero_le _, sG, S, n, hS, by omega, fun k => by rw [hm k]; exact ⟨.inl, fun z => z.elim id fun ⟨a, b⟩ => absurd a (by omega)⟩⟩, ?_⟩
    clear hS hn hm S n
    rintro j m G3 ⟨rfl, hj, sG3, S, n, hS, hn, hm⟩
    by_cases lj : j < 60
    · refine .inr ⟨lj, fun G' => Same G G' ∧ ∃ (S : Int → Bool) (n : Nat), G' D = some (SetO w D S n) ∧ n ≤ 60 * i + (j + 1) ∧ ∀ k, S k = true ↔ (∃ s ∈ L.take i, s ≤ k ∧ k < s + 60) ∨ (L[i] ≤ k ∧ k < L[i] + (j + 1 : Nat)),
        fun G' ⟨a1, a2⟩ => ⟨60 - (j + 1), by omega, rfl, lj, a1, a2⟩, ?_⟩
      rintro x G4 ⟨rfl, rfl⟩
      refine ⟨rfl, _, rfl, _, rfl, .inl ⟨_, _, rfl, rfl, ?_⟩⟩
      refine ⟨_, S, n, rfl, hS, by show n + 1 < 4096; omega, fun b o q => ?_, _, _, upd_same, ?_, fun k => ?_⟩
      · rw [upd_ne (ne_of_none q hD)]
        exact sG3 b o q
      · split <;> omega
      · rw [Bool.or_eq_true, decide_eq_true_eq, hm k]
        constructor
        · rintro ((z | z) | z)
          · exact .inl z
          · exact .inr (by omega)
          · exact .inr (by omega)
        · rintro (z | z)
          · exact .inl (.inl z)
          · by_cases e : k = L[i] + (0 + (j : Int))
            · exact .inr e
            · exact .inl (.inr (by omega))
    · have e : j = 60 := by omega
      subst e
      refine .inl ⟨Nat.le_refl _, lt, sG3, S, n, hS, by omega, fun k => ?_⟩
      rw [hm k]
      constructor
      · rintro (⟨s, hs, a⟩ | a)
        · exact ⟨s, (mem_take_succ lt s).mpr (.inl hs), a⟩
        · exact ⟨L[i], (mem_take_succ lt _).mpr (.inr rfl), by omega⟩
      · rintro ⟨s, hs, a⟩
        rcases (mem_take_succ lt s).mp hs with z | rfl
        · exact .inl ⟨s, z, a⟩
        · exact .inr (by omega)
  · have e : i = L.length := by omega
    subst e
    refine .inl ⟨⟨_, sG.seq (SqL.of hp4), by simp⟩, D, S, n, rfl, hS, fun ns p up hk hp => ?_⟩
    rw [List.take_length] at hm
    have sD := same_new (o := .lst (ns.map V.int)) hp
    have sA := (s4.trans sG).trans sD
    refine k ns p _ up (fun j => by rw [hk j, hm j, ← eLL]; rfl) ((s4.trans sG).free hp) sA upd_same
def sp_least_apart (K : PySem.W.Frag) : Sp := fun vs H Q _ => ∃ u v A B, vs = [u, v] ∧ TrAt K H u A ∧ TrAt K H v B ∧ A.ok ∧ B.ok ∧ A.lv ≤ 6 ∧ B.lv ≤ 6 ∧
  ∀ H', Same H H' → (A.alike B → Q .non H') ∧ ∀ k, A.tells B k → A.give k ≠ B.give k → (∀ j, j < k → A.tells B j → A.give j = B.give j) → Q (.int k) H'
def t_least_apart (K : PySem.W.Frag) : TS :=
  (tSeq (tFor (iList K (tCall (sp_telling K) [] E0 (tCons (tVar 0) (tCons (tVar 1) tNil)))) (gName 2) (tIfS (tTest (tOp (rNeU K) (tCall (sp_given K 7) [] E0 (tCons (tVar 0) (tCons (tVar 2) tNil))) (tCall (sp_given K 7) [] E0 (tCons (tVar 1) (tCons (tVar 2) tNil))))) (tRet (tVar 2)) tNext))
    (tRet (tC .non)))
theorem ln_least_apart (h : sp_least_apart K vs H Q E) : vs.length = 2 := by obtain ⟨_, _, _, _, rfl, _⟩ := h; rfl
theorem rd_least_apart (h : sp_least_apart K vs H Q E) : t_least_apart K (EndsOf Q) (start ["", "", ""] vs) H := by
  obtain ⟨u, v, A, B, rfl, hA, hB, oA, oB, lA, lB, k⟩ := h
  refine ⟨_, rfl, _, rfl, u, v, A, B, rfl, hA, hB, lA, lB, fun ns p H1 up hk hp s1 h1 => ?_⟩
  refine ⟨p, rfl, ⟨_, SqL.of h1⟩, ?_⟩
  refine for_list (K := K) (a := p) (xs := ns.map V.int) (fun i σ' G => ∃ s2, σ' = [some u, some v, s2] ∧ Same H1 G ∧ ∀ j ∈ ns.take i, A.give j = B.give j) ⟨_, rfl, Same.refl _, fun j hj => by simp at hj⟩ (fun i σ' G _ ⟨_, _, s, _⟩ => s.seq (SqL.of h1)) ?_ ?_
  · rintro i x σ' G hx ⟨s2, rfl, s, eq⟩
    obtain ⟨lt, ex⟩ := List.getElem?_eq_some_iff.mp hx
    rw [List.length_map] at lt
    rw [List.getElem_map] at ex
    subst ex
    have sH := s1.trans s
    refine ⟨_, rfl, _, rfl, u, A, ns[i], rfl, hA.mono (Tups.same sH), oA, Tr.dp6 lA, ?_⟩
    refine ⟨_, rfl, _, rfl, v, B, ns[i], rfl, hB.mono (Tups.same sH), oB, Tr.dp6 lB, .inl ⟨rfl, _, rfl, ?_⟩⟩
    have tell := (hk ns[i]).mp (List.getElem_mem lt)
    by_cases e : A.give ns[i] = B.give ns[i]
    · refine iteF' (by rw [e]; simp) ⟨_, rfl, s, fun j hj => ?_⟩
      rw [List.take_succ_eq_append_getElem lt] at hj
      rcases List.mem_append.mp hj with z | z
      · exact eq j z
      · rw [List.mem_singleton.mp z]
        exact e
    · refine iteT' (by simpa using e) ⟨_, rfl, (k G sH).2 ns[i] tell e fun j hj tj => eq j ?_⟩
      obtain ⟨q, lq, rfl⟩ := List.mem_iff_getElem.mp ((hk j).mpr tj)
      have less : q < i := by
        rcases Nat.lt_or_ge q i with z | z
        · exact z
        · rcases Nat.eq_or_lt_of_le z with z | z
          · subst z
            exact absurd hj (by omega)
          · have := List.pairwise_iff_getElem.mp up i q lt lq z
            omega
      exact List.mem_iff_getElem.mpr ⟨q, by rw [List.length_take]; omega, by rw [List.getElem_take]⟩
  · rintro σ' G ⟨s2, rfl, s, eq⟩
    rw [List.length_map, List.take_length] at eq
    exact (k G (s1.trans s)).1 fun j tj => eq j ((hk j).mpr tj)
theorem Tr.pd_eqv : ∀ {A B : Tr}, PyData.eqv A.pd B.pd = true → A = B
  | .at t q, .at t' q', h => by
    have h : PyData.eqv (.tuple [.str "at", .int t, .int q]) (.tuple [.str "at", .int t', .int q']) = true := h
    simp only [PyData.eqv, PyData.eqvAll, Bool.and_eq_true, beq_iff_eq] at h
    obtain ⟨_, rfl, rfl, _⟩ := h
    rfl
  | .or a b, .or c d, h => by
    have h : PyData.eqv (.tuple [.str "or", a.pd, b.pd]) (.tuple [.str "or", c.pd, d.pd]) = true := h
    simp only [PyData.eqv, PyData.eqvAll, Bool.and_eq_true] at h
    rw [pd_eqv h.2.1, pd_eqv h.2.2.1]
  | .and a b, .and c d, h => by
    have h : PyData.eqv (.tuple [.str "and", a.pd, b.pd]) (.tuple [.str "and", c.pd, d.pd]) = true := h
    simp only [PyData.eqv, PyData.eqvAll, Bool.and_eq_true] at h
    rw [pd_eqv h.2.1, pd_eqv h.2.2.1]
  | .at t q, .or c d, h => by
    have h : PyData.eqv (.tuple [.str "at", .int t, .int q]) (.tuple [.str "or", c.pd, d.pd]) = true := h
    simp only [PyData.eqv, PyData.eqvAll, Bool.and_eq_true] at h
    exact absurd h.1 (by decide +kernel)
  | .at t q, .and c d, h => by
    have h : PyData.eqv (.tuple [.str "at", .int t, .int q]) (.tuple [.str "and", c.pd, d.pd]) = true := h
    simp only [PyData.eqv, PyData.eqvAll, Bool.and_eq_true] at h
    exact absurd h.1 (by decide +kernel)
  | .or a b, .at t q, h => by
    have h : PyData.eqv (.tuple [.str "or", a.pd, b.pd]) (.tuple [.str "at", .int t, .int q]) = true := h
    simp only [PyData.eqv, PyData.eqvAll, Bool.and_eq_true] at h
    exact absurd h.1 (by decide +kernel)
  | .and a b, .at t q, h => by
    have h : PyData.eqv (.tuple [.str "and", a.pd, b.pd]) (.tuple [.str "at", .int t, .int q]) = true := h
    simp only [PyData.eqv, PyData.eqvAll, Bool.and_eq_true] at h
    exact absurd h.1 (by decide +kernel)
  | .or a b, .and c d, h => by
    have h : PyData.eqv (.tuple [.str "or", a.pd, b.pd]) (.tuple [.str "and", c.pd, d.pd]) = true := h
    simp only [PyData.eqv, PyData.eqvAll, Bool.and_eq_true] at h
    exact absurd h.1 (by decide +kernel)
  | .and a b, .or c d, h => by
    have h : PyData.eqv (.tuple [.str "and", a.pd, b.pd]) (.tuple [.str "or", c.pd, d.pd]) = true := h
    simp only [PyData.eqv, PyData.eqvAll, Bool.and_eq_true] at h
    exact absurd h.1 (by decide +kernel)
/-- x == y of a Rule: y a Rule, or of a class that is none -/
def EqTo (K : PySem.W.Frag) (C : Cs) (A : Tr) (y : V) (H : Hp) (Q : Bool → Hp → Prop) : Prop :=
  (∃ B, RuleAt K C H y B ∧ ∀ (b : Bool) H', (b = true ↔ A.alike B) → Same H H' → Q b H') ∨ (∃ t, TyX K H y t ∧ PySem.W.kitOne K t (.ref C.Rule) = some false ∧ Q false H)
def sp_RuleEq (K : PySem.W.Frag) (C : Cs) : Sp := fun vs H Q _ => ∃ x y A, vs = [x, y] ∧ RuleAt K C H x A ∧ EqTo K C A y H fun b H' => Q (.bl b) H'
def t_RuleEq (K : PySem.W.Frag) (C : Cs) : TS :=
  (tSeq (tIfS (tNot (tB (tCB (rIsi K) (tCons (tVar 1) (tCons (tC (.ref C.Rule)) tNil))))) (tRet (tC (.bl false))) tNext)
    (tRet (tOrV (tOp (rEqU K) (tFld K (tVar 0) "_tree") (tFld K (tVar 1) "_tree")) (tOp (rIsNn) (tCall (sp_least_apart K) [] E0 (tCons (tFld K (tVar 0) "_tree") (tCons (tFld K (tVar 1) "_tree") tNil))) (tC .non)))))
theorem ln_RuleEq (h : sp_RuleEq K C vs H Q E) : vs.length = 2 := by obtain ⟨_, _, _, rfl, _⟩ := h; rfl
theorem rd_RuleEq (h : sp_RuleEq K C vs H Q E) : t_RuleEq K C (EndsOf Q) (start ["", ""] vs) H := by
  obtain ⟨x, y, A, rfl, ⟨a, dx, u, rfl, ha, hA, oA, lA, fx⟩, ⟨B, ⟨b, dy, z, rfl, hb, hB, oB, lB, _⟩, k⟩ | ⟨t, ty, ik, k⟩⟩ := h
  · refine ⟨_, rfl, _, _, _, _, true, rfl, .own _, .base (.ins hb fx.ic.cl fx.ic.ha fx.ic.hn fx.ic.htk fx.ic.hm), fx.ic.me, true, rfl, ?_⟩
    have gA := (gt_tree oA).good (by omega) (by omega)
    have gB := (gt_tree oB).good (by omega) (by omega)
    refine ⟨_, rfl, a, _, dx, _, u, rfl, ha, fx.cl, fx.no, rfl, _, rfl, b, _, dy, _, z, rfl, hb, fx.cl, fx.no, rfl, .inr ⟨A.pd, B.pd, hA.dp, hB.dp, gA.sh, gB.sh, ?_⟩⟩
    cases e : PyData.eqv A.pd B.pd with
    | true =>
      refine ⟨true, rfl, ?_⟩
      refine k true H ⟨fun _ => ?_, fun _ => rfl⟩ (Same.refl _)
      rw [Tr.pd_eqv e]
      exact fun _ _ => rfl
    | false =>
      refine ⟨false, rfl, ?_⟩
      refine ⟨_, rfl, a, _, dx, _, u, rfl, ha, fx.cl, fx.no, rfl, _, rfl, b, _, dy, _, z, rfl, hb, fx.cl, fx.no, rfl, u, z, A, B, rfl, hA, hB, oA, oB, lA, lB, fun H' s => ⟨fun al => ?_, fun j tj nj _ => ?_⟩⟩
      · refine ⟨rfl, ?_⟩
        rw [decide_eq_true (rfl : V.non = V.non)]
        exact k true H' ⟨fun _ => al, fun _ => rfl⟩ s
      · refine ⟨rfl, ?_⟩
        rw [decide_eq_false (fun z : V.int j = V.non => nomatch z)]
        exact k false H' ⟨(fun z => nomatch z), fun al => absurd (al j tj) nj⟩ s
  · exact ⟨_, rfl, _, _, _, _, false, rfl, .own _, ty, ik, false, rfl, k⟩
end
section
variable {X : Cx} {CX : CXT} {k j : Nat} {C : Addr} {ps : List Str} {sp : Sp} {E : XK} {x : Str}
/-- x == y, x != y, x an instance of the class at C, y of any type that is no younger class -/
def rEqA (K : PySem.W.Frag) (C : Addr) (sp : Sp) (E : XK) : R2 := fun x y H Q => ∃ a dx fs t, x = .ref a ∧ H a = some (.ins C dx fs) ∧ TyX K H y t ∧ PySem.W.notFirst K C t = true ∧ sp [x, y] H (fun v H' => ∃ c, v = .bl c ∧ Q (.bl c) H') E
def rNeA (K : PySem.W.Frag) (C : Addr) (sp : Sp) (E : XK) : R2 := fun x y H Q => ∃ a dx fs t, x = .ref a ∧ H a = some (.ins C dx fs) ∧ TyX K H y t ∧ PySem.W.notFirst K C t = true ∧ sp [x, y] H (fun v H' => ∃ c, v = .bl c ∧ Q (.bl (!c)) H') E
theorem op_eqA (c : Kls X.K X.mg x C) (F : Own X.prog X.w X.K X.mg X.base CX k C "__eq__" ps sp) (hr : Room j X.A) (hx : Passes CX X E) (hj : k ≤ j := by first | decide | omega) : OpR X (compareOp .Eq) (rEqA X.K C sp E) := by
  obtain ⟨f, fd, G, a1, a2, a3, a4, bb⟩ := F.ex
  intro pins s σ H u v ov iv Q I ru rv h
  obtain ⟨a, dx, fs, t, rfl, ha, ty, nf, q⟩ := h
  cases (show ov = Value.ref a from ru)
  obtain ⟨_, O, _⟩ := ins_get I.hok ha
  obtain ⟨od, J, _⟩ := O.look
  obtain ⟨P, Z, hP, _⟩ := kit_of I rv ty
  obtain ⟨_, hF⟩ := I.fr
  show wpAny (model X.prog X.w) X.A (richCompare .Eq (.ref a) iv) (EP X pins σ Q) X.xe s
  refine PySem.W.cmp_K (op := .Eq) (tb := t) (Nat.lt_of_le_of_lt (Nat.le_add_right _ 64) hr.units) hF I.ok.mod.kin J (Z.ty _ _ I.kIn hP) nf a1 a2 ?_
  refine wpAny_mono (run_fn (us := [.ref a, iv]) (vs := [.ref a, v]) G (hr.mono hj) bb .nil hx I (.cons rfl (.cons rv .nil)) q) ?_ fun _ _ z => z
  rintro w s' ⟨z, H', I', rz, d, rfl, qz⟩
  cases rz
  exact ⟨.bl d, H', I', rfl, qz⟩
theorem op_neA (c : Kls X.K X.mg x C) (F : Own X.prog X.w X.K X.mg X.base CX k C "__eq__" ps sp) (hr : Room j X.A) (hx : Passes CX X E) (hj : k + 1 ≤ j := by first | decide | omega) : OpR X (compareOp .NotEq) (rNeA X.K C sp E) := by
  obtain ⟨f, fd, G, a1, a2, a3, a4, bb⟩ := F.ex
  intro pins s σ H u v ov iv Q I ru rv h
  obtain ⟨a, dx, fs, t, rfl, ha, ty, nf, q⟩ := h
  cases (show ov = Value.ref a from ru)
  obtain ⟨_, O, _⟩ := ins_get I.hok ha
  obtain ⟨od, J, _⟩ := O.look
  obtain ⟨P, Z, hP, _⟩ := kit_of I rv ty
  obtain ⟨_, hF⟩ := I.fr
  show wpAny (model X.prog X.w) X.A (richCompare .NotEq (.ref a) iv) (EP X pins σ Q) X.xe s
  have hu := hr.units
  refine rich_ne (tb := t) (by omega) I.kIn J (Z.ty _ _ I.kIn hP) nf (obj_ne (by omega) I.kIn J c.ic.hm c.ne a1 a2 ?_)
  have e := I.env0
  have e0 : Env0 X.prog X.w X.K X.mg X.base X.A.in1 X.stack s H := ⟨e.frames, e.mod, e.bs, e.bsz, e.funs, e.frf, e.hok, e.bare⟩
  have hl := G.len _ _ _ _ q
  refine codeAny_mono (G.run X.A.in1 X.stack s H ⟨[.ref a, iv], []⟩ [.ref a, iv] [.ref a, v] _ E (hr.mono hj).in1 e0 (by
    have := bb s [.ref a, iv] I.kIn (by simpa using hl)
    simpa using this) (.cons rfl (.cons rv .nil)) q) fun r s' z => ?_
  match r, z with
  | .error e, z => exact hx pins σ H s e s' I z
  | .ok (.ret w), z =>
    obtain ⟨y, H', I', rz, d, rfl, qz⟩ := I.after z
    cases rz
    exact ⟨d, rfl, .bl (!d), H', I', rfl, qz⟩
end
end Pk
set_option Elab.async false
set_option linter.all false
set_option maxRecDepth 100000
set_option maxHeartbeats 2000000
/-! what tells two trees apart tells it of all amounts -/
namespace Pk
open PySem PySem.Spec L2 PyProof.Rows
namespace Tr
/-- whether a tree gives at all from s on, until something more begins -/
def on (s : Int) : Tr → Bool
  | .at t _ => decide (t ≤ s)
  | .or a b => on s a || on s b
  | .and a b => on s a && on s b
theorem on_pos {s : Int} : ∀ {T : Tr}, T.ok → T.on s = true → 1 ≤ s
  | .at t q, h, e => by
    have e : t ≤ s := of_decide_eq_true e
    have := h.1
    omega
  | .or a b, h, e => by
    have e : (a.on s || b.on s) = true := e
    rcases Bool.or_eq_true_iff.mp e with e | e
    · exact on_pos h.1 e
    · exact on_pos h.2 e
  | .and a b, h, e => by
    have e : (a.on s && b.on s) = true := e
    exact on_pos h.1 (Bool.and_eq_true_iff.mp e).1
theorem mod_six {q i c : Int} (h1 : 1 ≤ q) (h2 : q ≤ 6) : (i + 60 * c) % q = i % q ∧ (i % 60 = 0 → i % q = 0) := by
  rcases (by omega : q = 1 ∨ q = 2 ∨ q = 3 ∨ q = 4 ∨ q = 5 ∨ q = 6) with rfl | rfl | rfl | rfl | rfl | rfl <;> constructor <;> omega
/-- between s and what begins next: nothing, or the same in sixties -/
structure Go (T : Tr) (s i c : Int) : Prop where
  off : T.on s = false → T.give i = 0 ∧ T.give (i + 60 * c) = 0
  far : T.on s = true → T.give (i + 60 * c) = T.give i + 60 * c
  all : T.on s = true → i % 60 = 0 → T.give i = i
theorem go {s i c : Int} (h0 : 0 ≤ i) (hs : s ≤ i) (hc : 0 ≤ c) : ∀ {T : Tr}, T.ok → (∀ t ∈ T.starts, t ≤ i + 60 * c → t ≤ s) → Go T s i c
  | .at t q, h, hn => by
    obtain ⟨h1, h2, h3, h4⟩ := h
    have hn := hn t (by simp [starts])
    obtain ⟨m1, m2⟩ := mod_six (i := i) (c := c) h3 h4
    have e1 : ∀ j, (Tr.at t q).give j = if t ≤ j then j - j % q else 0 := fun j => rfl
    have e2 : (Tr.at t q).on s = decide (t ≤ s) := rfl
    refine ⟨fun e => ?_, fun e => ?_, fun e z => ?_⟩
    · rw [e2] at e
      have e : ¬ t ≤ s := of_decide_eq_false e
      rw [e1, e1, if_neg (by omega), if_neg (by omega)]
      exact ⟨rfl, rfl⟩
    · rw [e2] at e
      have e : t ≤ s := of_decide_eq_true e
      rw [e1, e1, if_pos (by omega), if_pos (by omega), m1]
      omega
    · rw [e2] at e
      have e : t ≤ s := of_decide_eq_true e
      rw [e1, if_pos (by omega), m2 z]
      omega
  | .or a b, h, hn => by
    have ga := go h0 hs hc h.1 fun t ht => hn t (List.mem_append_left _ ht)
    have gb := go h0 hs hc h.2 fun t ht => hn t (List.mem_append_right _ ht)
    have pa := (give_le (i := i) h.1 h0).1
    have pb := (give_le (i := i) h.2 h0).1
    have ta := (give_le (i := i) h.1 h0).2
    have tb := (give_le (i := i) h.2 h0).2
    obtain ⟨a1, a2, a3⟩ := ga
    obtain ⟨b1, b2, b3⟩ := gb
    have e : (Tr.or a b).on s = (a.on s || b.on s) := rfl
    refine ⟨fun z => ?_, fun z => ?_, fun z y => ?_⟩ <;> rw [e] at z <;> cases ea : a.on s <;> cases eb : b.on s <;> rw [ea, eb] at z <;> first
      | exact absurd z (by decide)
      | (have a1 := a1 ea; have b1 := b1 eb; rw [give_or, give_or, a1.1, a1.2, b1.1, b1.2]; exact ⟨rfl, rfl⟩)
      | (have a1 := a1 ea; have b2 := b2 eb; rw [give_or, give_or, a1.1, a1.2, b2]; split <;> split <;> omega)
      | (have a2 := a2 ea; have b1 := b1 eb; rw [give_or, give_or, a2, b1.1, b1.2]; split <;> split <;> omega)
      | (have a2 := a2 ea; have b2 := b2 eb; rw [give_or, give_or, a2, b2]; split <;> split <;> omega)
      | (have a1 := a1 ea; have b3 := b3 eb y; rw [give_or, a1.1, b3]; split <;> omega)
      | (have a3 := a3 ea y; have b1 := b1 eb; rw [give_or, a3, b1.1]; split <;> omega)
      | (have a3 := a3 ea y; have b3 := b3 eb y; rw [give_or, a3, b3]; split <;> omega)
  | .and a b, h, hn => by
    have ga := go h0 hs hc h.1 fun t ht => hn t (List.mem_append_left _ ht)
    have gb := go h0 hs hc h.2 fun t ht => hn t (List.mem_append_right _ ht)
    have pa := (give_le (i := i) h.1 h0).1
    have pb := (give_le (i := i) h.2 h0).1
    have qa := (give_le (i := i + 60 * c) h.1 (by omega)).1
    have qb := (give_le (i := i + 60 * c) h.2 (by omega)).1
    obtain ⟨a1, a2, a3⟩ := ga
    obtain ⟨b1, b2, b3⟩ := gb
    have e : (Tr.and a b).on s = (a.on s && b.on s) := rfl
    refine ⟨fun z => ?_, fun z => ?_, fun z y => ?_⟩ <;> rw [e] at z <;> cases ea : a.on s <;> cases eb : b.on s <;> rw [ea, eb] at z <;> first
      | exact absurd z (by decide)
      | (have a1 := a1 ea; have b1 := b1 eb; rw [give_and, give_and, a1.1, a1.2, b1.1, b1.2]; exact ⟨rfl, rfl⟩)
      | (have a1 := a1 ea; rw [give_and, give_and, a1.1, a1.2]; constructor <;> split <;> omega)
      | (have b1 := b1 eb; rw [give_and, give_and, b1.1, b1.2]; constructor <;> split <;> omega)
      | (have a2 := a2 ea; have b2 := b2 eb; rw [give_and, give_and, a2, b2]; split <;> split <;> omega)
      | (have a3 := a3 ea y; have b3 := b3 eb y; rw [give_and, a3, b3]; split <;> omega)
theorem starts_pos : ∀ {T : Tr}, T.ok → ∀ t ∈ T.starts, 1 ≤ t
  | .at t q, h, x, hx => by
    rw [List.mem_singleton.mp (show x ∈ [t] from hx)]
    exact h.1
  | .or a b, h, x, hx => by
    rcases List.mem_append.mp (show x ∈ a.starts ++ b.starts from hx) with z | z
    · exact starts_pos h.1 x z
    · exact starts_pos h.2 x z
  | .and a b, h, x, hx => by
    rcases List.mem_append.mp (show x ∈ a.starts ++ b.starts from hx) with z | z
    · exact starts_pos h.1 x z
    · exact starts_pos h.2 x z
theorem starts_le {m : Int} : ∀ {T : Tr}, T.le m → ∀ t ∈ T.starts, t ≤ m
  | .at t q, h, x, hx => by
    rw [List.mem_singleton.mp (show x ∈ [t] from hx)]
    exact h
  | .or a b, h, x, hx => by
    rcases List.mem_append.mp (show x ∈ a.starts ++ b.starts from hx) with z | z
    · exact starts_le h.1 x z
    · exact starts_le h.2 x z
  | .and a b, h, x, hx => by
    rcases List.mem_append.mp (show x ∈ a.starts ++ b.starts from hx) with z | z
    · exact starts_le h.1 x z
    · exact starts_le h.2 x z
end Tr
theorem last_below {a : Int} : ∀ {L : List Int}, (∃ s ∈ L, s ≤ a) → ∃ s ∈ L, s ≤ a ∧ ∀ t ∈ L, t ≤ a → t ≤ s
  | [], ⟨_, h, _⟩ => nomatch h
  | x :: L, ⟨s, h, le⟩ => by
    by_cases e : ∃ s ∈ L, s ≤ a
    · obtain ⟨y, hy, ly, my⟩ := last_below e
      by_cases c : x ≤ a ∧ y < x
      · refine ⟨x, List.mem_cons_self, c.1, fun t ht lt => ?_⟩
        rcases List.mem_cons.mp ht with rfl | z
        · exact Int.le_refl _
        · have := my t z lt
          omega
      · refine ⟨y, List.mem_cons_of_mem _ hy, ly, fun t ht lt => ?_⟩
        rcases List.mem_cons.mp ht with rfl | z
        · omega
        · exact my t z lt
    · refine ⟨x, List.mem_cons_self, ?_, fun t ht lt => ?_⟩
      · rcases List.mem_cons.mp h with rfl | z
        · exact le
        · exact absurd ⟨s, z, le⟩ e
      · rcases List.mem_cons.mp ht with rfl | z
        · exact Int.le_refl _
        · exact absurd ⟨t, z, lt⟩ e
/-- each amount has one that tells: where both give the same there, they give the same of it; and where one gives more -/
theorem Tr.told {A B : Tr} (oA : A.ok) (oB : B.ok) {a : Int} (h0 : 0 ≤ a) : ∃ s i c, s ∈ A.st B ∧ s ≤ i ∧ i < s + 60 ∧ 0 ≤ c ∧ a = i + 60 * c ∧ 0 ≤ i ∧ Go A s i c ∧ Go B s i c ∧ (∀ m, s ≤ m → m ≤ a → Go A s m 0 ∧ Go B s m 0) := by
  obtain ⟨s, hs, ls, ms⟩ := last_below (L := A.st B) (a := a) ⟨0, List.mem_cons_self, h0⟩
  have s0 : 0 ≤ s := ms 0 List.mem_cons_self h0
  have nA : ∀ t ∈ A.starts, t ≤ a → t ≤ s := fun t ht => ms t (List.mem_cons_of_mem _ (List.mem_append_left _ ht))
  have nB : ∀ t ∈ B.starts, t ≤ a → t ≤ s := fun t ht => ms t (List.mem_cons_of_mem _ (List.mem_append_right _ ht))
  have e : a = s + (a - s) % 60 + 60 * ((a - s) / 60) := by omega
  refine ⟨s, s + (a - s) % 60, (a - s) / 60, hs, by omega, by omega, by omega, e, by omega, Tr.go (by omega) (by omega) (by omega) oA fun t ht l => nA t ht (by omega), Tr.go (by omega) (by omega) (by omega) oB fun t ht l => nB t ht (by omega), fun m l1 l2 => ?_⟩
  exact ⟨Tr.go (by omega) l1 (by omega) oA fun t ht l => nA t ht (by omega), Tr.go (by omega) l1 (by omega) oB fun t ht l => nB t ht (by omega)⟩
theorem Tr.alike_all {A B : Tr} (oA : A.ok) (oB : B.ok) (h : A.alike B) {a : Int} (h0 : 0 ≤ a) : A.give a = B.give a := by
  obtain ⟨s, i, c, hs, l1, l2, c0, rfl, i0, gA, gB, near⟩ := Tr.told oA oB h0
  have here := h i ⟨s, hs, l1, l2⟩
  by_cases c1 : c = 0
  · subst c1
    rw [show i + 60 * 0 = i by omega]
    exact here
  -- the multiple of sixty between
  have le : s ≤ (s + 59) / 60 * 60 ∧ (s + 59) / 60 * 60 < s + 60 := by omega
  obtain ⟨mA, mB⟩ := near ((s + 59) / 60 * 60) le.1 (by omega)
  have there := h ((s + 59) / 60 * 60) ⟨s, hs, le⟩
  cases ea : A.on s <;> cases eb : B.on s
  · rw [(gA.off ea).2, (gB.off eb).2]
  · have p := Tr.on_pos oB eb
    rw [(mA.off ea).1, mB.all eb (by omega)] at there
    omega
  · have p := Tr.on_pos oA ea
    rw [mA.all ea (by omega), (mB.off eb).1] at there
    omega
  · rw [gA.far ea, gB.far eb, here]
/-- thresholds up to thirty: just if they give the same of all amounts up to ninety -/
theorem Tr.alike_iff {A B : Tr} (oA : A.ok) (oB : B.ok) (lA : A.le 30) (lB : B.le 30) : A.alike B ↔ ∀ a : Nat, a < 90 → A.give a = B.give a := by
  constructor
  · exact fun h a _ => Tr.alike_all oA oB h (Int.natCast_nonneg a)
  · rintro h k ⟨s, hs, l1, l2⟩
    have sl : 0 ≤ s ∧ s ≤ 30 := by
      rcases List.mem_cons.mp hs with rfl | z
      · omega
      · rcases List.mem_append.mp z with z | z
        · exact ⟨by have := Tr.starts_pos oA s z; omega, Tr.starts_le lA s z⟩
        · exact ⟨by have := Tr.starts_pos oB s z; omega, Tr.starts_le lB s z⟩
    have := h k.toNat (by omega)
    rw [Int.toNat_of_nonneg (by omega)] at this
    exact this
theorem Tr.le_mono {m m' : Int} (h : m ≤ m') : ∀ {T : Tr}, T.le m → T.le m'
  | .at t q, e => by have e : t ≤ m := e; show t ≤ m'; omega
  | .or a b, e => ⟨le_mono h e.1, le_mono h e.2⟩
  | .and a b, e => ⟨le_mono h e.1, le_mono h e.2⟩
section
variable {K : PySem.W.Frag} {C : Cs} {vs : List V} {H H' G G' : Hp} {Q : VK} {E : XK} {n : Nat}
/-- Rule(tree) within something else: what is promised at once -/
theorem make_ruleK {u : V} {T : Tr} {x dx : Addr} {Pq : VK} (hx : G x = none) (hd : G dx = none) (ne : dx ≠ x) (fx : FxRule K C) (ok : T.ok) (l6 : T.lv ≤ 6) (hT : TrAt K G u T) (k : ∀ H', Same G H' → RuleAt K C H' (.ref x) T → Pq .non H') :
    sp_Rule___init__ K C (.ref x :: ([u] ++ [])) (upd (upd G dx (.own x)) x (.ins C.Rule dx [])) Pq E := by
  have s : Same G (upd (upd G dx (.own x)) x (.ins C.Rule dx [])) := fun b o e => by
    rw [upd_ne (ne_of_none e hx), upd_ne (ne_of_none e hd)]
    exact e
  refine ⟨x, dx, u, T, rfl, upd_same, hT.mono (Tups.same s), ok, l6, fx, fun H' h1 h2 => ?_⟩
  have s2 : Same G H' := fun b o e => h2 b o (s b o e) (ne_of_none e hx)
  exact k H' s2 ⟨x, dx, u, rfl, h1, hT.mono (Tups.same s2), ok, l6, fx⟩
/-- what is no Rule -/
structure FxOdd (K : PySem.W.Frag) (C : Cs) : Prop where
  hd : PySem.W.hasDictIn K C.Rule = true
  ty : PySem.W.typeIn K (.ref C.Rule) = some (.type "type")
  si : PySem.W.subIn K (.type "int") (.ref C.Rule) = some false
  ss : PySem.W.subIn K (.type "str") (.ref C.Rule) = some false
  sl : PySem.W.subIn K (.type "list") (.ref C.Rule) = some false
  st : PySem.W.subIn K (.type "tuple") (.ref C.Rule) = some false
theorem FxOdd.kit (o : FxOdd K C) {t : String} (s : PySem.W.subIn K (.type t) (.ref C.Rule) = some false) : PySem.W.kitOne K (.type t) (.ref C.Rule) = some false := by
  obtain ⟨cd, hc, _⟩ := PySem.W.any_some o.hd
  unfold PySem.W.kitOne
  rw [show ((Value.type t) == Value.ref C.Rule) = false from rfl, if_neg (by decide)]
  unfold PySem.W.kitCls
  dsimp only
  rw [hc, o.ty]
  exact s
theorem odd_first {D : Addr} {t : String} (s : PySem.W.subIn K (.type t) (.ref D) = some false) : PySem.W.notFirst K D (.type t) = true := by
  unfold PySem.W.notFirst
  rw [s]
  exact Bool.or_true _
theorem own_first {D : Addr} : PySem.W.notFirst K D (.ref D) = true := by
  unfold PySem.W.notFirst
  simp
theorem RuleAt.ins {v : V} {T : Tr} (h : RuleAt K C H v T) : ∃ a dx fs, v = .ref a ∧ H a = some (.ins C.Rule dx fs) ∧ TyX K H v (.ref C.Rule) := by
  obtain ⟨a, dx, u, rfl, ha, _, _, _, fx⟩ := h
  exact ⟨a, dx, _, rfl, ha, .base (.ins ha fx.ic.cl fx.ic.ha fx.ic.hn fx.ic.htk fx.ic.hm)⟩
theorem TrAt.tyx {v : V} {T : Tr} (h : TrAt K H v T) : TyX K H v (.type "tuple") := by
  obtain ⟨a, w, x, y, rfl, s, _⟩ := h.tuple
  exact sqt_ty s
theorem same_bool {b c : Bool} {p : Prop} (h : b = true ↔ p) (g : c = true ↔ p) : b = c := by
  cases b <;> cases c <;> first
    | rfl
    | exact absurd (g.mpr (h.mp rfl)) (by decide)
    | exact absurd (h.mpr (g.mp rfl)) (by decide)
theorem gt_ints : ∀ (zs : List Int), (∀ z ∈ zs, z.natAbs ≤ 10 ^ 100) → AllTo 0 (2004 * zs.length) (zs.map PyData.int)
  | [], _ => at_nil
  | z :: zs, h => by
    have q := at_cons (gt_int (h z List.mem_cons_self)) (gt_ints zs fun y hy => h y (List.mem_cons_of_mem _ hy))
    refine ⟨q.lay, by have := q.dep; simpa using this, q.wr, ?_⟩
    have := q.sz
    show sizL (.int z :: zs.map PyData.int) ≤ 2004 * (zs.length + 1)
    omega
theorem dp_ints {p : Addr} : ∀ {zs : List Int}, SqL K H p (zs.map V.int) → Dp K H (.ref p) (.list (zs.map PyData.int)) := fun {zs} h => .lst h (by
  clear h
  induction zs with
  | nil => exact .nil
  | cons z zs ih => exact .cons (.int z) ih)
end
end Pk
set_option Elab.async false
set_option linter.all false
set_option maxRecDepth 100000
set_option maxHeartbeats 4000000
/-! a def as a value: its class -/
namespace PkF
open PySem
theorem ga_slot : Slot "function" "__getattribute__" "object.__getattribute__" :=
  .of (owner := "object") (n := "__getattribute__") (by rw [typeLookup_type, builtinLookup_eq_fast] <;> kernel_rfl) (by decide +kernel) (by decide +kernel) (by decide +kernel) (by first | exact .inl (by decide +kernel) | exact .inr (by decide +kernel)) (by rw [isSubtype_type] <;> kernel_rfl)
theorem ga_entry : entryFor table "object.__getattribute__" = some Builtin.«object.__getattribute__» := entryFor_of_tree (by kernel_rfl)
theorem ga_args (a b : Value) : argsOk "object.__getattribute__" ⟨[a, b], []⟩ := by
  unfold argsOk
  kernel_rfl
theorem cls_look : typeLookup (.type "function") "__class__" = pure (some (.builtin "object.__class__")) := by rw [typeLookup_type, builtinLookup_eq_fast] <;> kernel_rfl
theorem cls_sub : isSubtype (.type "function") (.type (".".intercalate ("object.__class__".cutAt '.').dropLast)) = pure true := by rw [F.owner_object_class, isSubtype_type] <;> kernel_rfl
section
variable {prog : Program} {w : World} {A : Around} {E : Value → Shared → Prop} {h : Heap} {g : Array GenState} {d : Drawn} {t : Nat} {os : OsState} {a : Addr} {o : Obj}
theorem cls_get {R : Result → Shared → Prop} (hx : h.get? a = some o) (hc : o.cls = .type "function") (hq : R (.ok (.ret (.type "function"))) ⟨h, g, d, t, os⟩) :
    codeAny (model prog w) A (.call (.builtin "getset_descriptor.__get__") ⟨[.builtin "object.__class__", .ref a, .type "function"], []⟩) R ⟨h, g, d, t, os⟩ := by
  have ty1 : (⟨h, g, d, t, os⟩ : Shared).TypeIs (.ref a) "function" := ⟨_, hx, hc⟩
  have ty2 : (⟨h, g, d, t, os⟩ : Shared).TypeIs (.builtin "object.__class__") "getset_descriptor" := F.typeOf_object_class
  have f0 := cls_sub
  refine codeAny_call_builtin F.slot_gs_get.plain F.entry_gs_get (F.slot_gs_get.check _ _ _ _ _ _ _ _ ty2 (F.args_gs_get _ _ _) ?_)
  repeat (any_goals (first | wp_step | assumption))
  refine ⟨Code.quiet_builtin _ (by decide +kernel), codeAny_builtin F.entry_object_class (by repeat (any_goals (first | wp_step | assumption)))⟩
theorem cls_entry {tk : Tok} {Q : Fin → Shared → Prop} (hx : h.get? a = some o) (hc : o.cls = .type "function") (hq : Q (.done (.ret (.type "function"))) ⟨h, g, d, t, os⟩) :
    wpAny (model prog w) A (Builtin.«object.__getattribute__» ⟨[.ref a, .str "__class__" tk], []⟩) Q E ⟨h, g, d, t, os⟩ := by
  have ty1 : (⟨h, g, d, t, os⟩ : Shared).TypeIs (.ref a) "function" := ⟨_, hx, hc⟩
  have f1 := cls_look
  have f2 := F.typeOf_object_class
  have f3 := F.slot_gs_get.lookup
  have f4 := F.slot_gs_set.lookup
  have ty2 : (⟨h, g, d, t, os⟩ : Shared).TypeIs (.builtin "object.__class__") "getset_descriptor" := f2
  repeat (any_goals (first | wp_step | assumption))
  exact cls_get hx hc (by repeat (any_goals (first | wp_step | assumption)))
theorem cls_by {tk : Tok} {Q : Value → Shared → Prop} (hx : h.get? a = some o) (hc : o.cls = .type "function") (hq : Q (.type "function") ⟨h, g, d, t, os⟩) : wpAny (model prog w) A (getAttrBy (.ref a) (.str "__class__" tk) false) Q E ⟨h, g, d, t, os⟩ := by
  have ty1 : (⟨h, g, d, t, os⟩ : Shared).TypeIs (.ref a) "function" := ⟨_, hx, hc⟩
  have f1 := ga_slot.lookup
  have f2 := ga_slot.bind (.ref a)
  repeat (any_goals (first | assumption | (wp_step)))
  first
    | exact codeAny_call_builtin ga_slot.plain ga_entry (ga_slot.check _ _ _ _ _ _ _ _ ty1 (ga_args _ _) (cls_entry hx hc (by repeat (any_goals (first | wp_step | assumption)))))
    | exact cls_entry hx hc (by repeat (any_goals (first | wp_step | assumption)))
    | skip
theorem cls_attr {Q : Option Value → Shared → Prop} (hx : h.get? a = some o) (hc : o.cls = .type "function") (hq : Q (some (.type "function")) ⟨h, g, d, t + 1, os⟩) : wpAny (model prog w) A (getAttr? (.ref a) "__class__") Q E ⟨h, g, d, t, os⟩ := by
  unfold getAttr? getAttrBy?
  repeat (any_goals (first | assumption | with_reducible apply cls_by hx hc | (wp_step)))
end
theorem kitx_fn {K : PySem.W.Frag} {a : Addr} : PySem.W.KitX K (.ref a) (.type "function") (PySem.W.KitAt a "function") :=
  PySem.W.kitx_of PySem.W.kitAt_ty fun {_ _ _ _ _ s} p k => by
    obtain ⟨h, g, d, t, os⟩ := s
    obtain ⟨o, h1, h2⟩ := p
    exact cls_attr h1 h2 k
end PkF
set_option Elab.async false
set_option linter.all false
set_option maxRecDepth 100000
set_option maxHeartbeats 2000000
namespace Pk
open PySem PySem.Spec L2 PyProof.Rows
/-! ### makings that may let an error out, in a try -/
section
variable {X : Cx} {CX : CXT} {k j : Nat} {C : Addr} {ps : List Str} {sp : Sp} {x : Str} {p pos : Pos} {e : Expr} {es : List Expr} {t : TA} {E : L2.St → XK}
def tMakeS (C : Addr) (sp : Sp) (E : L2.St → XK) (t : TA) : TE := fun σ H Q => t σ H fun vs H1 => ∀ x dx, H1 x = none → H1 dx = none → dx ≠ x → sp (.ref x :: vs) (upd (upd H1 dx (.own x)) x (.ins C dx [])) (fun v H2 => v = .non ∧ Q (.ref x) H2) (E σ)
theorem pe_mkS (c : Kls X.K X.mg x C) (F : Own X.prog X.w X.K X.mg X.base CX k C "__init__" ps sp) (hr : Room j X.A) (hx : ∀ σ, PassesAt CX X σ (E σ)) (ha : PA X (e :: es) t) (hj : k + 1 ≤ j := by first | decide | omega) (hg : Gl X x := by rfl)
    (h1 : (x == ("__debug__" : Str)) = false := by decide) (h2 : starEach (e :: es) X.env = (false, eval e X.env) :: starEach es X.env := by rfl) (h3 : (backTo pos (starEach es X.env)).any (·.1) = false := by rfl) :
    PE X (.Call (.Name x p) (e :: es) [] pos) (tMakeS C sp E t) := by
  obtain ⟨f, fd, G, a1, a2, a3, _, b⟩ := F.ex
  constructor
  intro pins s σ H Q I h
  apply wpAny_Call_Name_kw (ld_glob I hg c.at_ ?_ h1)
  apply PySem.W.callWith_K (h₀ := X.base) I.ok.mod.kin c.kp ?_ h2 h3
  apply thn (ha.run pos pins s σ H _ I h)
  rintro us s1 ⟨vs, H1, I1, r, q⟩
  refine ⟨I1.kIn, ?_⟩
  have q2 := q (s1.heap.objs.size + 1) s1.heap.objs.size (I1.hok.fresh (Nat.le_succ _)) (I1.hok.fresh (Nat.le_refl _)) (Nat.ne_of_lt (Nat.lt_succ_self _))
  have J := Inv.made (C := C) I1
  have rr : Vals (V.ref (s1.heap.objs.size + 1) :: vs) (Value.ref (s1.heap.objs.size + 1) :: us) := .cons rfl r
  have len : (Value.ref (s1.heap.objs.size + 1) :: us ++ ([] : List Value)).length = ps.length := by
    rw [List.append_nil, ← rr.length]
    exact G.len _ _ _ _ q2
  have bb := b _ (Value.ref (s1.heap.objs.size + 1) :: us) J.kIn len
  rw [List.append_nil] at bb
  have inner := G.run _ X.stack _ _ ⟨Value.ref (s1.heap.objs.size + 1) :: us, []⟩ (Value.ref (s1.heap.objs.size + 1) :: us) _ _ (E σ) ((hr.mono hj).make C us []) (J.env0.make C us []) bb rr q2
  apply wpAny_call
  refine make_map (f := f) I1.kIn c.ma a1 (beq_iff_eq.mp a2) (codeAny_mono inner fun res s2 z => ?_)
  match res, z with
  | .error er, z => exact hx σ pins _ _ er s2 J z
  | .ok (.ret u), z =>
    obtain ⟨v, H', I3, rv, ev, q3⟩ := J.after z
    subst ev
    exact ⟨rv, .ref _, H', I3, rfl, q3⟩
/-- isinstance of a def, too -/
def TyY (K : PySem.W.Frag) (H : Hp) (x : V) (t : Value) : Prop := TyX K H x t ∨ ∃ f o, x = .ref f ∧ K.lookup f = some o ∧ o.cls = .type "function" ∧ t = .type "function"
def rIsY (K : PySem.W.Frag) : List V → Hp → VK → Prop := fun xs H Q => ∃ (x c : V) (t u : Value) (b : Bool), xs = [x, c] ∧ ClsV c u ∧ TyY K H x t ∧ PySem.W.kitOne K t u = some b ∧ Q (.bl b) H
theorem call_isY : CallR X (.builtin "isinstance") (rIsY X.K) := by
  intro pins s σ H xs us Q I r h
  obtain ⟨x, c, t, u, b, rfl, k, ty, e, q⟩ := h
  rcases ty with ty | ⟨f, o, rfl, hl, hc, rfl⟩
  · exact call_isi pins s σ H _ us Q I r ⟨x, c, t, u, b, rfl, k, ty, e, q⟩
  · obtain ⟨u1, u2, rfl, r1, r2⟩ := vals2 r
    obtain rfl := k.eq r2
    cases (show u1 = Value.ref f from r1)
    exact PySem.W.kia_one PkF.kitx_fn I.kIn (PySem.W.kitAt_K I.kIn hl hc) e (fun z => nomatch z) fun tk => ⟨.bl b, H, I.tok tk, rfl, q⟩
end
section
variable {K : PySem.W.Frag} {C : Cs} {vs : List V} {H H' G G' : Hp} {Q : VK} {E : XK} {n : Nat} {v : V} {cr u w : Int} {T : Tr} {a b : Addr}
/-! ### numbers of any value -/
/-- no integer -/
def NoInt (K : PySem.W.Frag) (H : Hp) (x : V) : Prop := (∃ b, x = .bl b) ∨ ∃ t, TyX K H x t ∧ PySem.W.kitOne K t (.type "int") = some false
def sp_IsInt (K : PySem.W.Frag) : Sp := fun vs H Q _ => ∃ x, vs = [x] ∧ ((∃ i, x = .int i ∧ Q (.bl true) H) ∨ NoInt K H x ∧ Q (.bl false) H)
def sp_IsNum (K : PySem.W.Frag) : Sp := fun vs H Q _ => ∃ l x, vs = [.int l, x] ∧ ((∃ i, x = .int i ∧ Q (.bl (decide (l ≤ i))) H) ∨ NoInt K H x ∧ Q (.bl false) H)
def t_IsInt (K : PySem.W.Frag) : TS :=
  (tRet (tAndV (tCB (rIsi K) (tCons (tVar 0) (tCons (tC (.ty "int")) tNil))) (tNotV (tCB (rIsi K) (tCons (tVar 0) (tCons (tC (.ty "bool")) tNil))))))
def t_IsNum (K : PySem.W.Frag) : TS :=
  (tRet (tAndV (tCall (sp_IsInt K) [] E0 (tCons (tVar 1) tNil)) (tOp (rGeI) (tVar 1) (tVar 0))))
theorem ln_IsInt (h : sp_IsInt K vs H Q E) : vs.length = 1 := by obtain ⟨_, rfl, _⟩ := h; rfl
theorem ln_IsNum (h : sp_IsNum K vs H Q E) : vs.length = 2 := by obtain ⟨_, _, rfl, _⟩ := h; rfl
theorem kit_bi : PySem.W.kitOne K (.type "bool") (.type "int") = some true := kit_ty (by decide +kernel)
theorem rd_IsInt (h : sp_IsInt K vs H Q E) : t_IsInt K (EndsOf Q) (start [""] vs) H := by
  obtain ⟨x, rfl, ⟨i, rfl, k⟩ | ⟨⟨y, rfl⟩ | ⟨t, ty, e⟩, k⟩⟩ := h
  · refine ⟨_, rfl, _, _, _, _, true, rfl, .ty _, .base (.int i), kit_ii, true, rfl, ?_⟩
    exact ⟨_, rfl, _, _, _, _, false, rfl, .ty _, .base (.int i), kit_ib, false, rfl, k⟩
  · refine ⟨_, rfl, _, _, _, _, true, rfl, .ty _, .base (.bl y), kit_bi, true, rfl, ?_⟩
    exact ⟨_, rfl, _, _, _, _, true, rfl, .ty _, .base (.bl y), kit_same, true, rfl, k⟩
  · exact ⟨_, rfl, _, _, _, _, false, rfl, .ty _, ty, e, false, rfl, k⟩
theorem rd_IsNum (h : sp_IsNum K vs H Q E) : t_IsNum K (EndsOf Q) (start ["", ""] vs) H := by
  obtain ⟨l, x, rfl, ⟨i, rfl, k⟩ | ⟨no, k⟩⟩ := h
  · exact ⟨_, rfl, _, rfl, .inl ⟨i, rfl, true, rfl, _, rfl, _, rfl, _, _, rfl, rfl, k⟩⟩
  · exact ⟨_, rfl, _, rfl, .inr ⟨no, false, rfl, k⟩⟩
theorem weak_is_integer (h : sp_is_integer K vs H Q E) : sp_IsInt K vs H Q E := by
  obtain ⟨i, rfl, k⟩ := h
  exact ⟨_, rfl, .inl ⟨i, rfl, k⟩⟩
theorem weak_is_number (h : sp_is_number K vs H Q E) : sp_IsNum K vs H Q E := by
  obtain ⟨l, i, rfl, k⟩ := h
  exact ⟨l, _, rfl, .inl ⟨i, rfl, k⟩⟩
theorem Cal.weak {P : Program} {w : World} {mg : Str → Option Value} {base : Heap} {CX : CXT} {k : Nat} {x : Str} {ps : List Str} {ds : List Value} {sp sp' : Sp} (o : Cal P w K mg base CX k x ps ds sp) (h : ∀ vs H Q E, sp' vs H Q E → sp vs H Q E) : Cal P w K mg base CX k x ps ds sp' := by
  obtain ⟨f, fd, G, r⟩ := o.ex
  exact ⟨f, fd, ⟨fun vs H Q E q => G.len vs H Q E (h _ _ _ _ q), fun A outer s H args us vs Q E hr e0 hb rv q => G.run A outer s H args us vs Q E hr e0 hb rv (h _ _ _ _ q)⟩, r⟩
/-! ### Accounts of any values -/
structure FxWr (K : PySem.W.Frag) (C : Cs) : Prop where
  ox : OexC K C.Wrong
  nf : PySem.W.findIn K (.ref C.Wrong) "place" = some none
  em : PySem.W.exmOne K (.ref C.Wrong) (.ref C.PipeError) = some true
def t_Wrong___init__ (K : PySem.W.Frag) : TS :=
  (tOst K "place" (tVar 0) (tVar 1))
theorem ln_Wrong___init__ (h : rOneI K C.Wrong "place" vs H Q E) : vs.length = 2 := by obtain ⟨_, _, rfl, _⟩ := h; rfl
theorem rd_Wrong___init__ (h : rOneI K C.Wrong "place" vs H Q E) : t_Wrong___init__ K (EndsOf Q) (start ["", ""] vs) H := by
  obtain ⟨a, y, rfl, ox, nf, ha, k⟩ := h
  exact ⟨_, rfl, _, rfl, a, _, rfl, ox, nf, .inl ⟨ha, k⟩⟩
/-- Wrong(place) is let out, nothing is changed -/
def LetsW (C : Cs) (m : Int) (H : Hp) (E : XK) : Prop := ∀ d H', H d = none → Same H H' → H' d = some (.xd [("place", .int m)]) → E (.ref C.Wrong) (some d) H'
/-- what is no credit; what is no Rule -/
def NoCr (K : PySem.W.Frag) (H : Hp) (x : V) : Prop := (∃ i, x = .int i ∧ i < 1) ∨ NoInt K H x
def NoRu (K : PySem.W.Frag) (C : Cs) (H : Hp) (x : V) : Prop := ∃ t, TyY K H x t ∧ PySem.W.kitOne K t (.ref C.Rule) = some false
def sp_Account___init__X (K : PySem.W.Frag) (C : Cs) : Sp := fun vs H Q E => ∃ p dx c r, vs = [.ref p, c, r] ∧ H p = some (.ins C.Account dx []) ∧ FxAccount K C ∧
  ((∃ cr T, c = .int cr ∧ 1 ≤ cr ∧ RuleAt K C H r T ∧ ∀ H', Kp p H H' → AccAt K C H' (.ref p) cr T 0 0 → Q .non H') ∨ (NoCr K H c ∧ FxWr K C ∧ LetsW C 0 H E) ∨ (∃ cr, c = .int cr ∧ 1 ≤ cr ∧ NoRu K C H r ∧ FxWr K C ∧ LetsW C 1 H E))
def t_Account___init__X (K : PySem.W.Frag) (C : Cs) (E : XK) : TS :=
  (tSeq (tIfS (tNot (tB (tCall (sp_IsNum K) [] E0 (tCons (tC (.int 1)) (tCons (tVar 1) tNil))))) (tRaise C.Wrong (rOneI K C.Wrong "place") (tCons (tC (.int 0)) tNil) E) tNext)
    (tSeq (tIfS (tNot (tB (tCB (rIsY K) (tCons (tVar 2) (tCons (tC (.ref C.Rule)) tNil))))) (tRaise C.Wrong (rOneI K C.Wrong "place") (tCons (tC (.int 1)) tNil) E) tNext)
    (tSeq (sFld K (tVar 0) (tVar 1) "_credit")
    (tSeq (sFld K (tVar 0) (tVar 2) "_rule")
    (tSeq (sFld K (tVar 0) (tC (.int 0)) "_unpassed")
    (sFld K (tVar 0) (tC (.int 0)) "_withheld"))))))
theorem ln_Account___init__X (h : sp_Account___init__X K C vs H Q E) : vs.length = 3 := by obtain ⟨_, _, _, _, rfl, _⟩ := h; rfl
theorem weak_Account___init__ (h : sp_Account___init__ K C vs H Q E) : sp_Account___init__X K C vs H Q E := by
  obtain ⟨p, dx, cr, r, T, rfl, hp, hr, c1, fa, k⟩ := h
  exact ⟨p, dx, _, r, rfl, hp, fa, .inl ⟨cr, T, rfl, c1, hr, k⟩⟩
theorem rd_Account___init__X (h : sp_Account___init__X K C vs H Q E) : t_Account___init__X K C E (EndsOf Q) (start ["", "", ""] vs) H := by
  obtain ⟨p, dx, c, r, rfl, hp, fa, ⟨cr, T, rfl, c1, hr, k⟩ | ⟨no, fw, kE⟩ | ⟨cr, rfl, c1, ⟨t, ty, ik⟩, fw, kE⟩⟩ := h
  · obtain ⟨ra, rd, ru, rfl, hra, hru⟩ := id hr
    refine ⟨_, rfl, 1, _, rfl, .inl ⟨cr, rfl, _, rfl, ?_⟩⟩
    rw [decide_eq_true c1]
    have ic := hru.2.2.2.ic
    refine ⟨_, rfl, _, _, _, _, true, rfl, .own _, .inl (.base (.ins hra ic.cl ic.ha ic.hn ic.htk ic.hm)), ic.me, true, rfl, ?_⟩
    refine ⟨_, rfl, _, rfl, p, _, dx, _, rfl, hp, fa.cl, fa.n1, by show 0 < 1000; decide, ?_⟩
    refine ⟨_, rfl, _, rfl, p, _, dx, _, rfl, upd_same, fa.cl, fa.n2, by show 1 < 1000; decide, ?_⟩
    refine ⟨_, rfl, p, _, dx, _, rfl, upd_same, fa.cl, fa.n3, by show 2 < 1000; decide, ?_⟩
    refine ⟨_, rfl, p, _, dx, _, rfl, upd_same, fa.cl, fa.n4, by show 3 < 1000; decide, ?_⟩
    rw [put_all]
    have kk : Kp p H (upd (upd (upd (upd H p (.ins C.Account dx (putF "_credit" (.int cr) []))) p (.ins C.Account dx (putF "_rule" (.ref ra) (putF "_credit" (.int cr) [])))) p (.ins C.Account dx (putF "_unpassed" (.int 0) (putF "_rule" (.ref ra) (putF "_credit" (.int cr) []))))) p (.ins C.Account dx (accF cr (.ref ra) 0 0))) := kp_put.put.put.put
    refine k _ kk ⟨p, dx, _, rfl, upd_same, hr.keep hp (fun d x z => ?_) (fun _ z => nomatch z) (fun _ _ z => nomatch z) kk, fa⟩
    exact nomatch (HO.ins.inj z).2.2
  · have raise : ∀ D : Ends, tRaise C.Wrong (rOneI K C.Wrong "place") (tCons (tC (.int 0)) tNil) E D [some (.ref p), some c, some r] H := fun D => made_err fw.ox fw.nf kE
    rcases no with ⟨i, rfl, lt⟩ | no
    · refine ⟨_, rfl, 1, _, rfl, .inl ⟨i, rfl, _, rfl, ?_⟩⟩
      rw [decide_eq_false (by omega)]
      exact raise (EndsOf Q)
    · exact ⟨_, rfl, 1, _, rfl, .inr ⟨no, false, rfl, raise (EndsOf Q)⟩⟩
  · refine ⟨_, rfl, 1, _, rfl, .inl ⟨cr, rfl, _, rfl, ?_⟩⟩
    rw [decide_eq_true c1]
    refine ⟨_, rfl, _, _, _, _, false, rfl, .own _, ty, ik, false, rfl, ?_⟩
    exact made_err fw.ox fw.nf kE
/-! ### == of Accounts -/
def AccSame (cr u w : Int) (T : Tr) (cr' u' w' : Int) (T' : Tr) : Prop := (cr = cr' ∧ u = u' ∧ w = w') ∧ T.alike T'
def sp_AccEq (K : PySem.W.Frag) (C : Cs) : Sp := fun vs H Q _ => ∃ x y cr T u w, vs = [x, y] ∧ AccAt K C H x cr T u w ∧ ((∃ cr' T' u' w', AccAt K C H y cr' T' u' w' ∧ ∀ (b : Bool) H', (b = true ↔ AccSame cr u w T cr' u' w' T') → Same H H' → Q (.bl b) H') ∨
  (∃ t, TyX K H y t ∧ PySem.W.kitOne K t (.ref C.Account) = some false ∧ Q (.bl false) H))
def t_AccEq (K : PySem.W.Frag) (C : Cs) : TS :=
  (tSeq (tIfS (tNot (tB (tCB (rIsi K) (tCons (tVar 1) (tCons (tC (.ref C.Account)) tNil))))) (tRet (tC (.bl false))) tNext)
    (tSeq (tAsg (tTup (tCons (tFld K (tVar 0) "_credit") (tCons (tFld K (tVar 0) "_unpassed") (tCons (tFld K (tVar 0) "_withheld") tNil)))) (gName 2))
    (tRet (tAndV (tOp (rEqU K) (tVar 2) (tTup (tCons (tFld K (tVar 1) "_credit") (tCons (tFld K (tVar 1) "_unpassed") (tCons (tFld K (tVar 1) "_withheld") tNil))))) (tOp (rEqA K C.Rule (sp_RuleEq K C) E0) (tFld K (tVar 0) "_rule") (tFld K (tVar 1) "_rule"))))))
theorem ln_AccEq (h : sp_AccEq K C vs H Q E) : vs.length = 2 := by obtain ⟨_, _, _, _, _, _, rfl, _⟩ := h; rfl
theorem three_shaped (x y z : Int) : SeqAt.shaped (.tuple [.int x, .int y, .int z]) = true := shaped_iff.mpr ⟨by simp only [PyData.canLay0, PyData.canLayAll0]; decide, by simp [PyData.depth, PyData.depthAll]⟩
theorem rd_AccEq (h : sp_AccEq K C vs H Q E) : t_AccEq K C (EndsOf Q) (start ["", "", ""] vs) H := by
  obtain ⟨x, y, cr, T, u, w, rfl, ⟨a, dx, r, rfl, ha, hr, fa⟩, ⟨cr', T', u', w', ⟨b, dy, r2, rfl, hb, hr2, _⟩, k⟩ | ⟨t, ty, ik, k⟩⟩ := h
  · refine ⟨_, rfl, _, _, _, _, true, rfl, .own _, .base (.ins hb fa.ic.cl fa.ic.ha fa.ic.hn fa.ic.htk fa.ic.hm), fa.ic.me, true, rfl, ?_⟩
    refine ⟨_, rfl, a, _, dx, _, _, rfl, ha, fa.cl, fa.n1, lk_cr, _, rfl, a, _, dx, _, _, rfl, ha, fa.cl, fa.n3, lk_un, _, rfl, a, _, dx, _, _, rfl, ha, fa.cl, fa.n4, lk_wi, two_fit.2.2.1, fun p hp => ?_⟩
    have s1 := same_new (o := .tup [.int cr, .int u, .int w]) hp
    have hb1 := s1 _ _ hb
    refine ⟨_, rfl, _, rfl, b, _, dy, _, _, rfl, hb1, fa.cl, fa.n1, lk_cr, _, rfl, b, _, dy, _, _, rfl, hb1, fa.cl, fa.n3, lk_un, _, rfl, b, _, dy, _, _, rfl, hb1, fa.cl, fa.n4, lk_wi, two_fit.2.2.1, fun q hq => ?_⟩
    have s2 := same_new (o := .tup [.int cr', .int u', .int w']) hq
    have s := s1.trans s2
    refine .inr ⟨_, _, dp3' (SqT.of (s2 _ _ upd_same)), dp3' (SqT.of upd_same), three_shaped cr u w, three_shaped cr' u' w', ?_⟩
    have ee : PyData.eqv (.tuple [.int cr, .int u, .int w]) (.tuple [.int cr', .int u', .int w']) = decide (cr = cr' ∧ u = u' ∧ w = w') := by
      rw [Bool.eq_iff_iff, decide_eq_true_eq]
      simp only [PyData.eqv, PyData.eqvAll, Bool.and_eq_true, beq_iff_eq]
      exact ⟨fun z => ⟨z.1, z.2.1, z.2.2.1⟩, fun z => ⟨z.1, z.2.1, z.2.2, trivial⟩⟩
    rw [ee]
    by_cases c : cr = cr' ∧ u = u' ∧ w = w'
    · rw [decide_eq_true c]
      obtain ⟨ra, rd, ru, rfl, hra, _⟩ := id (hr.same s)
      obtain ⟨rb, re, rv, rfl, hrb, hx⟩ := id (hr2.same s)
      have ic := hx.2.2.2.ic
      refine ⟨true, rfl, ?_⟩
      refine ⟨_, rfl, a, _, dx, _, _, rfl, s _ _ ha, fa.cl, fa.n2, lk_ru, _, rfl, b, _, dy, _, _, rfl, s _ _ hb, fa.cl, fa.n2, lk_ru, ?_⟩
      refine ⟨ra, rd, _, _, rfl, hra, .base (.ins hrb ic.cl ic.ha ic.hn ic.htk ic.hm), by unfold PySem.W.notFirst; simp, _, _, T, rfl, hr.same s, .inl ⟨T', hr2.same s, fun e H' he g => ⟨e, rfl, ?_⟩⟩⟩
      exact k e H' (he.trans ⟨fun z => ⟨c, z⟩, fun z => z.2⟩) (s.trans g)
    · rw [decide_eq_false c]
      exact ⟨false, rfl, k false _ ⟨fun z => (nomatch z), fun z => absurd z.1 c⟩ s⟩
  · exact ⟨_, rfl, _, _, _, _, false, rfl, .own _, ty, ik, false, rfl, k⟩
end
end Pk
set_option Elab.async false
set_option linter.all false
set_option maxRecDepth 100000
set_option maxHeartbeats 2000000
namespace Pk
open PySem PySem.Spec L2 PyProof.Rows
/-! ### values that law k19 draws; what a tree is, of any value -/
inductive Vd where
  | int (i : Int)
  | bl (b : Bool)
  | non
  | str (s : Str)
  | tup (xs : List Vd)
  | lst (xs : List Vd)
  | dic
  | obj (a : Addr)
/-- a number from 1 on, to a greatest one perhaps -/
def Vd.num (most : Option Int) : Vd → Bool
  | .int i => decide (1 ≤ i) && (match most with | none => true | some m => decide (i ≤ m))
  | _ => false
def Vd.leaf : Vd → Bool
  | .tup [.str w, x, y] => decide (w = "at") && x.num none && y.num (some 6)
  | _ => false
def Vd.fork : Vd → Option (Vd × Vd)
  | .tup [.str w, x, y] => if w = "or" ∨ w = "and" then some (x, y) else none
  | _ => none
theorem Vd.fork_lt {d x y : Vd} (h : d.fork = some (x, y)) : sizeOf x + sizeOf y < sizeOf d := by
  unfold Vd.fork at h
  split at h
  · rename_i w a b
    split at h
    · cases h
      simp
      omega
    · cases h
  · cases h
theorem Vd.fork_leaf {d x y : Vd} (h : d.fork = some (x, y)) : d.leaf = false := by
  unfold Vd.fork at h
  split at h
  · rename_i w a b
    split at h
    · rename_i c
      unfold Vd.leaf
      have : w ≠ "at" := by
        rcases c with rfl | rfl <;> decide
      simp [this]
    · cases h
  · cases h
/-- the law's own count -/
def Vd.atoms (d : Vd) : Nat := match h : d.fork with
  | some (x, y) => x.atoms + y.atoms
  | none => if d.leaf = true then 1 else 100
termination_by sizeOf d
decreasing_by
  all_goals
    have := Vd.fork_lt h
    omega
theorem Vd.atoms_fork {d x y : Vd} (h : d.fork = some (x, y)) : d.atoms = x.atoms + y.atoms := by
  rw [Vd.atoms]
  split
  · rename_i a b e
    rw [h] at e
    cases e
    rfl
  · rename_i e
    rw [h] at e
    cases e
theorem Vd.atoms_no {d : Vd} (h : d.fork = none) : d.atoms = if d.leaf = true then 1 else 100 := by
  rw [Vd.atoms]
  split
  · rename_i a b e
    rw [h] at e
    cases e
  · rfl
theorem Vd.atoms_pos (d : Vd) : 1 ≤ d.atoms := by
  cases h : d.fork with
  | none =>
    rw [Vd.atoms_no h]
    split <;> omega
  | some p =>
    obtain ⟨x, y⟩ := p
    have := Vd.fork_lt h
    have q := Vd.atoms_pos x
    rw [Vd.atoms_fork h]
    omega
termination_by sizeOf d
def sumA : List Vd → Nat
  | [] => 0
  | d :: r => d.atoms + sumA r
theorem sumA_len : ∀ l : List Vd, l.length ≤ sumA l
  | [] => Nat.le_refl _
  | d :: r => by
    have := sumA_len r
    have := d.atoms_pos
    show r.length + 1 ≤ d.atoms + sumA r
    omega
/-- what the program does with what waits (the next one first), and the leaves seen -/
inductive Waits : List Vd → Nat → Bool → Prop where
  | done (n : Nat) : Waits [] n true
  | leaf {d : Vd} {r : List Vd} {n : Nat} {b : Bool} (h : d.leaf = true) (few : n + 1 + r.length ≤ 6) (k : Waits r (n + 1) b) : Waits (d :: r) n b
  | leafs {d : Vd} {r : List Vd} {n : Nat} (h : d.leaf = true) (many : 6 < n + 1 + r.length) : Waits (d :: r) n false
  | fork {d x y : Vd} {r : List Vd} {n : Nat} {b : Bool} (h : d.fork = some (x, y)) (few : n + (r.length + 2) ≤ 6) (k : Waits (y :: x :: r) n b) : Waits (d :: r) n b
  | forks {d x y : Vd} {r : List Vd} {n : Nat} (h : d.fork = some (x, y)) (many : 6 < n + (r.length + 2)) : Waits (d :: r) n false
  | other {d : Vd} {r : List Vd} {n : Nat} (h : d.leaf = false) (g : d.fork = none) : Waits (d :: r) n false
theorem Waits.tells {l : List Vd} {n : Nat} {b : Bool} (w : Waits l n b) (few : n + l.length ≤ 6 ∨ l.length = 1) : b = decide (n + sumA l < 7) ∨ (l = [] ∧ 6 < n) := by
  induction w with
  | done n =>
    by_cases h : 6 < n
    · exact .inr ⟨rfl, h⟩
    · exact .inl (by rw [decide_eq_true (show n + sumA [] < 7 by show n + 0 < 7; omega)])
  | @leaf d r n b h fw k ih =>
    have a1 : d.atoms = 1 := by
      cases hf : d.fork with
      | none => rw [Vd.atoms_no hf, if_pos h]
      | some p => rw [Vd.fork_leaf (x := p.1) (y := p.2) hf] at h; cases h
    have e : n + 1 + sumA r = n + sumA (d :: r) := by
      show _ = n + (d.atoms + sumA r)
      omega
    rcases ih (.inl fw) with ih | ⟨_, ih⟩
    · exact .inl (by rw [ih, e])
    · omega
  | @leafs d r n h many =>
    have := sumA_len r
    have := d.atoms_pos
    exact .inl (decide_eq_false (show ¬ n + (d.atoms + sumA r) < 7 by omega)).symm
  | @fork d x y r n b h fw k ih =>
    have e : n + sumA (y :: x :: r) = n + sumA (d :: r) := by
      show n + (y.atoms + (x.atoms + sumA r)) = n + (d.atoms + sumA r)
      rw [Vd.atoms_fork h]
      omega
    rcases ih (.inl (by show n + (r.length + 1 + 1) ≤ 6; omega)) with ih | ⟨z, _⟩
    · exact .inl (by rw [ih, e])
    · cases z
  | @forks d x y r n h many =>
    have := sumA_len r
    have := x.atoms_pos
    have := y.atoms_pos
    have e := Vd.atoms_fork h
    exact .inl (decide_eq_false (show ¬ n + (d.atoms + sumA r) < 7 by omega)).symm
  | @other d r n h g =>
    have e : d.atoms = 100 := by rw [Vd.atoms_no g, h]; rfl
    exact .inl (decide_eq_false (show ¬ n + (d.atoms + sumA r) < 7 by omega)).symm
/-- is_tree's answer is the law's -/
theorem Waits.one {d : Vd} {b : Bool} (w : Waits [d] 0 b) : b = decide (d.atoms < 7) := by
  rcases w.tells (.inr rfl) with h | ⟨h, _⟩
  · have e : 0 + sumA [d] = d.atoms := by show 0 + (d.atoms + 0) = _; omega
    rw [h, e]
  · cases h
end Pk
set_option Elab.async false
set_option linter.all false
set_option maxRecDepth 100000
set_option maxHeartbeats 2000000
namespace Pk
open PySem PySem.Spec L2 PyProof.Rows
/-! ### values of any kind in the heap; their texts -/
mutual
def Vd.pd : Vd → PyData
  | .int i => .int i
  | .bl c => .bool c
  | .non => .none
  | .str s => .str s
  | .tup xs => .tuple (Vd.pds xs)
  | .lst xs => .list (Vd.pds xs)
  | .dic => .dict []
  | .obj _ => .none
def Vd.pds : List Vd → List PyData
  | [] => []
  | d :: r => d.pd :: Vd.pds r
end
mutual
def Vd.sz : Vd → Nat
  | .int _ => 2000
  | .bl _ => 8
  | .non => 8
  | .str x => 10 * x.length + 8
  | .tup xs => 8 + Vd.szs xs
  | .lst xs => 8 + Vd.szs xs
  | .dic => 8
  | .obj _ => 8
def Vd.szs : List Vd → Nat
  | [] => 0
  | d :: r => d.sz + 4 + Vd.szs r
end
mutual
def Vd.hasL : Vd → Bool
  | .tup xs => Vd.hasLs xs
  | .lst _ => true
  | _ => false
def Vd.hasLs : List Vd → Bool
  | [] => false
  | d :: r => d.hasL || Vd.hasLs r
end
mutual
def Vd.hasD : Vd → Bool
  | .tup xs => Vd.hasDs xs
  | .lst xs => Vd.hasDs xs
  | .dic => true
  | _ => false
def Vd.hasDs : List Vd → Bool
  | [] => false
  | d :: r => d.hasD || Vd.hasDs r
end
/-! numbers and texts that can be shown, no objects -/
mutual
def Vd.fine : Vd → Prop
  | .int i => i.natAbs ≤ 10 ^ 50
  | .str x => PyData.strOk x = true
  | .tup xs => Vd.fines xs
  | .lst xs => Vd.fines xs
  | .obj _ => False
  | _ => True
def Vd.fines : List Vd → Prop
  | [] => True
  | d :: r => d.fine ∧ Vd.fines r
end
mutual
theorem Vd.hasD_pd : ∀ d : Vd, d.pd.hasDict = d.hasD
  | .int i => rfl
  | .bl c => rfl
  | .non => rfl
  | .str s => rfl
  | .tup xs => by show PyData.hasDictAll (Vd.pds xs) = Vd.hasDs xs; exact Vd.hasD_pds xs
  | .lst xs => by show PyData.hasDictAll (Vd.pds xs) = Vd.hasDs xs; exact Vd.hasD_pds xs
  | .dic => rfl
  | .obj _ => rfl
theorem Vd.hasD_pds : ∀ ds : List Vd, PyData.hasDictAll (Vd.pds ds) = Vd.hasDs ds
  | [] => rfl
  | d :: r => by show (d.pd.hasDict || PyData.hasDictAll (Vd.pds r)) = (d.hasD || Vd.hasDs r); rw [Vd.hasD_pd d, Vd.hasD_pds r]
end
theorem log_fit {i : Int} (h : i.natAbs ≤ 10 ^ 50) : i.natAbs.log2 < 1920 := by
  have z2 : (10 : Nat) ^ 50 < 2 ^ 1920 := by decide +kernel
  by_cases e : i.natAbs = 0
  · rw [e]; decide
  · exact (Nat.log2_lt e).mpr (by omega)
mutual
theorem Vd.shows : ∀ d : Vd, d.fine → d.pd.showable = true ∧ d.pd.shown.length ≤ d.sz
  | .int i, h => by
    have hw : (PyData.int i).showable = true := decide_eq_true (log_fit h)
    exact ⟨hw, shown_le (.int i) hw rfl⟩
  | .bl c, _ => ⟨rfl, shown_le (.bool c) rfl rfl⟩
  | .non, _ => ⟨rfl, shown_le .none rfl rfl⟩
  | .str x, h => ⟨rfl, shown_le (.str x) rfl h⟩
  | .tup xs, h => by
    have q := Vd.showsAll xs h
    have q2 := tupleText_size (PyData.shownAll (Vd.pds xs))
    refine ⟨q.1, ?_⟩
    show (tupleText (PyData.shownAll (Vd.pds xs))).length ≤ 8 + Vd.szs xs
    have := q.2
    omega
  | .lst xs, h => by
    have q := Vd.showsAll xs h
    have q2 := listText_size (PyData.shownAll (Vd.pds xs))
    refine ⟨q.1, ?_⟩
    show (listText (PyData.shownAll (Vd.pds xs))).length ≤ 8 + Vd.szs xs
    have := q.2
    omega
  | .dic, _ => ⟨by decide +kernel, by decide +kernel⟩
  | .obj _, h => h.elim
theorem Vd.showsAll : ∀ ds : List Vd, Vd.fines ds → PyData.showableAll (Vd.pds ds) = true ∧ piled (PyData.shownAll (Vd.pds ds)) ≤ Vd.szs ds
  | [], _ => ⟨rfl, by show piled [] ≤ 0; simp [piled]⟩
  | d :: r, h => by
    have q1 := Vd.shows d h.1
    have q2 := Vd.showsAll r h.2
    refine ⟨?_, ?_⟩
    · show (d.pd.showable && PyData.showableAll (Vd.pds r)) = true
      rw [q1.1, q2.1]
      rfl
    · show piled (d.pd.shown :: PyData.shownAll (Vd.pds r)) ≤ d.sz + 4 + Vd.szs r
      rw [piled_cons]
      have := q1.2
      have := q2.2
      omega
end
/-! in the heap; P: lists that may be written -/
mutual
def VA (K : PySem.W.Frag) (C : Cs) (P : Addr → Prop) (H : Hp) : Vd → V → Prop
  | .int i, v => v = .int i
  | .bl c, v => v = .bl c
  | .non, v => v = .non
  | .str s, v => v = .str s
  | .tup ds, v => ∃ a xs, v = .ref a ∧ SqT K H a xs ∧ VAs K C P H ds xs
  | .lst ds, v => ∃ a xs, v = .ref a ∧ H a = some (.lst xs) ∧ ¬ P a ∧ VAs K C P H ds xs
  | .dic, v => ∃ a, v = .ref a ∧ H a = some (.dK [])
  | .obj a, v => v = .ref a ∧ ∃ dx fs, H a = some (.ins C.Rule dx fs)
def VAs (K : PySem.W.Frag) (C : Cs) (P : Addr → Prop) (H : Hp) : List Vd → List V → Prop
  | [], xs => xs = []
  | d :: r, xs => ∃ x ys, xs = x :: ys ∧ VA K C P H d x ∧ VAs K C P H r ys
end
structure VKeep (K : PySem.W.Frag) (C : Cs) (P : Addr → Prop) (H H' : Hp) : Prop where
  tp : Tups K H H'
  ls : ∀ a xs, H a = some (.lst xs) → ¬ P a → H' a = some (.lst xs)
  dk : ∀ a, H a = some (.dK []) → H' a = some (.dK [])
  ob : ∀ a dx fs, H a = some (.ins C.Rule dx fs) → H' a = some (.ins C.Rule dx fs)
section
variable {K : PySem.W.Frag} {C : Cs} {b a l : Addr} {P : Addr → Prop} {H H' : Hp} {d : Vd} {ds : List Vd} {v : V} {xs : List V}
theorem VKeep.same (s : Same H H') : VKeep K C P H H' := ⟨Tups.same s, fun a xs h _ => s _ _ h, fun a h => s _ _ h, fun a dx fs h => s _ _ h⟩
theorem VKeep.kp {ys : List V} (pb : P b) (k : Kp b H H') (hb : H b = some (.lst ys)) : VKeep K C P H H' :=
  ⟨Tups.kp k hb, fun a xs h n => k _ _ h (fun e => n (e ▸ pb)), fun a h => k _ _ h (ne_of h hb fun z => nomatch z), fun a dx fs h => k _ _ h (ne_of h hb fun z => nomatch z)⟩
theorem VKeep.bag (pb : P b) (B : Bag H b l) (k : Kp b H H') : VKeep K C P H H' := by
  obtain ⟨ys, hb⟩ := B.at
  exact VKeep.kp pb k hb
mutual
theorem VA.mono (s : VKeep K C P H H') : ∀ (d : Vd) (v : V), VA K C P H d v → VA K C P H' d v
  | .int i, _, h => h
  | .bl c, _, h => h
  | .non, _, h => h
  | .str x, _, h => h
  | .tup ds, v, h => by
    obtain ⟨a, xs, e, h1, h2⟩ := h
    exact ⟨a, xs, e, s.tp _ _ h1, VAs.mono s ds xs h2⟩
  | .lst ds, v, h => by
    obtain ⟨a, xs, e, h1, n, h2⟩ := h
    exact ⟨a, xs, e, s.ls _ _ h1 n, n, VAs.mono s ds xs h2⟩
  | .dic, v, h => by
    obtain ⟨a, e, h1⟩ := h
    exact ⟨a, e, s.dk _ h1⟩
  | .obj a, v, h => by
    obtain ⟨e, dx, fs, h1⟩ := h
    exact ⟨e, dx, fs, s.ob _ _ _ h1⟩
theorem VAs.mono (s : VKeep K C P H H') : ∀ (ds : List Vd) (xs : List V), VAs K C P H ds xs → VAs K C P H' ds xs
  | [], _, h => h
  | d :: r, xs, h => by
    obtain ⟨x, ys, e, h1, h2⟩ := h
    exact ⟨x, ys, e, VA.mono s d x h1, VAs.mono s r ys h2⟩
end
theorem VA.same (h : VA K C P H d v) (s : Same H H') : VA K C P H' d v := VA.mono (VKeep.same s) d v h
theorem VAs.same (h : VAs K C P H ds xs) (s : Same H H') : VAs K C P H' ds xs := VAs.mono (VKeep.same s) ds xs h
theorem VA.bag (h : VA K C P H d v) (pb : P b) (B : Bag H b l) (k : Kp b H H') : VA K C P H' d v := VA.mono (VKeep.bag pb B k) d v h
theorem VAs.length : ∀ {ds : List Vd} {xs : List V}, VAs K C P H ds xs → xs.length = ds.length
  | [], _, h => by cases h; rfl
  | d :: r, xs, h => by
    obtain ⟨x, ys, rfl, _, h2⟩ := h
    show ys.length + 1 = r.length + 1
    rw [h2.length]
theorem VAs.get : ∀ {ds : List Vd} {xs : List V}, VAs K C P H ds xs → ∀ {i : Nat} {x : V}, xs[i]? = some x → ∃ d, ds[i]? = some d ∧ VA K C P H d x
  | [], _, h, i, x, e => by cases h; simp at e
  | d :: r, xs, h, i, x, e => by
    obtain ⟨y, ys, rfl, h1, h2⟩ := h
    cases i with
    | zero =>
      cases e
      exact ⟨d, rfl, h1⟩
    | succ i => exact h2.get (i := i) e
theorem VAs.app : ∀ {ds es : List Vd} {xs ys : List V}, VAs K C P H ds xs → VAs K C P H es ys → VAs K C P H (ds ++ es) (xs ++ ys)
  | [], _, _, _, h, g => by cases h; exact g
  | d :: r, _, xs, _, h, g => by
    obtain ⟨x, zs, rfl, h1, h2⟩ := h
    exact ⟨x, _, rfl, h1, h2.app g⟩
theorem VAs.one (h : VA K C P H d v) : VAs K C P H [d] [v] := ⟨v, [], rfl, h, rfl⟩
theorem VAs.take : ∀ {ds : List Vd} {xs : List V} (n : Nat), VAs K C P H ds xs → VAs K C P H (ds.take n) (xs.take n)
  | _, _, 0, _ => by
    show VAs K C P H (List.take 0 _) (List.take 0 _)
    rw [List.take_zero, List.take_zero]
    rfl
  | [], _, n + 1, h => by cases h; rfl
  | d :: r, xs, n + 1, h => by
    obtain ⟨x, zs, rfl, h1, h2⟩ := h
    exact ⟨x, _, rfl, h1, h2.take n⟩
theorem VAs.drop : ∀ {ds : List Vd} {xs : List V} (n : Nat), VAs K C P H ds xs → VAs K C P H (ds.drop n) (xs.drop n)
  | _, _, 0, h => h
  | [], _, n + 1, h => by cases h; rfl
  | d :: r, xs, n + 1, h => by
    obtain ⟨x, zs, rfl, h1, h2⟩ := h
    exact h2.drop n
/-! what kind a value is -/
structure Fx19 (K : PySem.W.Frag) (C : Cs) : Prop where
  ru : FxRule K C
  wr : FxWr K C
  ki : PySem.W.kitOne K (.ref C.Rule) (.type "int") = some false
  kt : PySem.W.kitOne K (.ref C.Rule) (.type "tuple") = some false
  ks : PySem.W.kitOne K (.ref C.Rule) (.type "str") = some false
  kw : PySem.W.kitOne K (.ref C.Wrong) (.ref C.TooMany) = some false
theorem kit_own {D : Addr} {t : String} (m : PySem.W.kitMeta t = true) (s : PySem.W.subIn K (.ref D) (.type t) = some false) : PySem.W.kitOne K (.ref D) (.type t) = some false := by
  unfold PySem.W.kitOne
  rw [show (Value.ref D == Value.type t) = false from beq_eq_false_iff_ne.mpr (by intro z; cases z), if_neg (by decide)]
  unfold PySem.W.kitCls
  dsimp only
  rw [if_pos m]
  exact s
theorem Fx19.ty (fo : Fx19 K C) {dx : Addr} {fs : List (Str × V)} (h : H a = some (.ins C.Rule dx fs)) : TyX K H (.ref a) (.ref C.Rule) :=
  .base (.ins h fo.ru.ic.cl fo.ru.ic.ha fo.ru.ic.hn fo.ru.ic.htk fo.ru.ic.hm)
theorem VA.num (fo : Fx19 K C) (h : VA K C P H d v) : (∃ i, d = .int i ∧ v = .int i) ∨ (NoInt K H v ∧ ∀ m, d.num m = false) := by
  cases d with
  | int i => exact .inl ⟨i, rfl, h⟩
  | bl c => exact .inr ⟨.inl ⟨c, h⟩, fun m => rfl⟩
  | non => cases h; exact .inr ⟨.inr ⟨_, .base .non, kit_ty (by decide +kernel)⟩, fun m => rfl⟩
  | str x => cases h; exact .inr ⟨.inr ⟨_, .base (.str x), kit_ty (by decide +kernel)⟩, fun m => rfl⟩
  | tup ds =>
    obtain ⟨a, xs, rfl, h1, _⟩ := h
    exact .inr ⟨.inr ⟨_, sqt_ty h1, kit_ty (by decide +kernel)⟩, fun m => rfl⟩
  | lst ds =>
    obtain ⟨a, xs, rfl, h1, _⟩ := h
    exact .inr ⟨.inr ⟨_, .base (.lst h1), kit_ty (by decide +kernel)⟩, fun m => rfl⟩
  | dic =>
    obtain ⟨a, rfl, h1⟩ := h
    exact .inr ⟨.inr ⟨_, .base (.dK h1), kit_ty (by decide +kernel)⟩, fun m => rfl⟩
  | obj a =>
    obtain ⟨rfl, dx, fs, h1⟩ := h
    exact .inr ⟨.inr ⟨_, fo.ty h1, fo.ki⟩, fun m => rfl⟩
theorem VA.tuple (fo : Fx19 K C) (h : VA K C P H d v) : (∃ ds a xs, d = .tup ds ∧ v = .ref a ∧ SqT K H a xs ∧ VAs K C P H ds xs) ∨ ((∃ t, TyX K H v t ∧ PySem.W.kitOne K t (.type "tuple") = some false) ∧ ∀ ds, d ≠ .tup ds) := by
  cases d with
  | int i => cases h; exact .inr ⟨⟨_, .base (.int i), kit_ty (by decide +kernel)⟩, fun _ z => nomatch z⟩
  | bl c => cases h; exact .inr ⟨⟨_, .base (.bl c), kit_ty (by decide +kernel)⟩, fun _ z => nomatch z⟩
  | non => cases h; exact .inr ⟨⟨_, .base .non, kit_ty (by decide +kernel)⟩, fun _ z => nomatch z⟩
  | str x => cases h; exact .inr ⟨⟨_, .base (.str x), kit_ty (by decide +kernel)⟩, fun _ z => nomatch z⟩
  | tup ds =>
    obtain ⟨a, xs, rfl, h1, h2⟩ := h
    exact .inl ⟨ds, a, xs, rfl, rfl, h1, h2⟩
  | lst ds =>
    obtain ⟨a, xs, rfl, h1, _⟩ := h
    exact .inr ⟨⟨_, .base (.lst h1), kit_ty (by decide +kernel)⟩, fun _ z => nomatch z⟩
  | dic =>
    obtain ⟨a, rfl, h1⟩ := h
    exact .inr ⟨⟨_, .base (.dK h1), kit_ty (by decide +kernel)⟩, fun _ z => nomatch z⟩
  | obj a =>
    obtain ⟨rfl, dx, fs, h1⟩ := h
    exact .inr ⟨⟨_, fo.ty h1, fo.kt⟩, fun _ z => nomatch z⟩
theorem VA.text (fo : Fx19 K C) (h : VA K C P H d v) : (∃ x, d = .str x ∧ v = .str x) ∨ ((∃ t, TyX K H v t ∧ PySem.W.kitOne K t (.type "str") = some false) ∧ ∀ x, d ≠ .str x) := by
  cases d with
  | int i => cases h; exact .inr ⟨⟨_, .base (.int i), kit_ty (by decide +kernel)⟩, fun _ z => nomatch z⟩
  | bl c => cases h; exact .inr ⟨⟨_, .base (.bl c), kit_ty (by decide +kernel)⟩, fun _ z => nomatch z⟩
  | non => cases h; exact .inr ⟨⟨_, .base .non, kit_ty (by decide +kernel)⟩, fun _ z => nomatch z⟩
  | str x => exact .inl ⟨x, rfl, h⟩
  | tup ds =>
    obtain ⟨a, xs, rfl, h1, h2⟩ := h
    exact .inr ⟨⟨_, sqt_ty h1, kit_ty (by decide +kernel)⟩, fun _ z => nomatch z⟩
  | lst ds =>
    obtain ⟨a, xs, rfl, h1, _⟩ := h
    exact .inr ⟨⟨_, .base (.lst h1), kit_ty (by decide +kernel)⟩, fun _ z => nomatch z⟩
  | dic =>
    obtain ⟨a, rfl, h1⟩ := h
    exact .inr ⟨⟨_, .base (.dK h1), kit_ty (by decide +kernel)⟩, fun _ z => nomatch z⟩
  | obj a =>
    obtain ⟨rfl, dx, fs, h1⟩ := h
    exact .inr ⟨⟨_, fo.ty h1, fo.ks⟩, fun _ z => nomatch z⟩
end
/-! repr of such a value -/
section
variable {X : Cx} {pins : List (Addr × Obj)} {σ : L2.St} {H : Hp} {s : Shared} {C : Cs} {P : Addr → Prop}
mutual
theorem VA.reads (I : Inv X pins σ H s) : ∀ (d : Vd) (v : V) (u : Value), VA X.K C P H d v → d.fine → RelV v u → ∃ as, Reads s.heap u d.pd as ∧ (d.hasL = false → sysModules ∉ as)
  | .int i, _, _, h, _, r => by
    cases h
    obtain ⟨t, rfl⟩ := r
    exact ⟨_, Reads.int i t, fun _ z => nomatch z⟩
  | .bl c, _, _, h, _, r => by
    cases h
    cases r
    exact ⟨_, Reads.bool c, fun _ z => nomatch z⟩
  | .non, _, _, h, _, r => by
    cases h
    cases r
    exact ⟨_, Reads.none, fun _ z => nomatch z⟩
  | .str x, _, _, h, _, r => by
    cases h
    obtain ⟨t, rfl⟩ := r
    exact ⟨_, Reads.str x t, fun _ z => nomatch z⟩
  | .tup ds, _, _, h, g, r => by
    obtain ⟨a, xs, rfl, h1, h2⟩ := h
    cases r
    obtain ⟨its, rv, ⟨o, ho, hc, n, hd⟩, _⟩ := I.tuple h1
    obtain ⟨as, hr, ns⟩ := VA.readsAll I ds _ its h2 g rv
    exact ⟨_, Reads.tuple ho hc hd hr, ns⟩
  | .lst ds, _, _, h, g, r => by
    obtain ⟨a, xs, rfl, h1, _, h2⟩ := h
    cases r
    obtain ⟨its, rv, ⟨o, n, ho, hc, _, hd⟩, _⟩ := I.list (SqL.of h1)
    obtain ⟨as, hr, ns⟩ := VA.readsAll I ds _ its h2 g rv
    exact ⟨_, Reads.list ho hc hd hr, fun z => nomatch z⟩
  | .dic, _, _, h, _, r => by
    obtain ⟨a, rfl, ha⟩ := h
    cases r
    obtain ⟨_, hd, vs, kv, o, es, ep, e1, e2, e3, _, pr, _⟩ := dk_of I.hok ha
    obtain rfl : vs = [] := by cases kv; rfl
    have hl : es.toList = [] := by
      generalize es.toList = l at pr
      cases pr
      rfl
    refine ⟨_, Reads.dict (as := []) (bs := []) (kvs := []) e1 e2.1 e3 (by rw [hl]; exact .nil) (by rw [hl]; exact .nil), fun _ m => ?_⟩
    have e0 : sysModules = a := by simpa using m
    rw [← e0] at hd
    exact absurd hd (by decide)
  | .obj _, _, _, _, g, _ => g.elim
theorem VA.readsAll (I : Inv X pins σ H s) : ∀ (ds : List Vd) (vs : List V) (us : List Value), VAs X.K C P H ds vs → Vd.fines ds → Vals vs us → ∃ as, ReadsAll s.heap us (Vd.pds ds) as ∧ (Vd.hasLs ds = false → sysModules ∉ as)
  | [], _, _, h, _, r => by
    cases h
    cases r
    exact ⟨_, ReadsAll.nil, fun _ z => nomatch z⟩
  | d :: ds, _, _, h, g, r => by
    obtain ⟨x, ys, rfl, h1, h2⟩ := h
    cases r with
    | cons r1 r2 =>
      obtain ⟨as, q1, n1⟩ := VA.reads I d _ _ h1 g.1 r1
      obtain ⟨bs, q2, n2⟩ := VA.readsAll I ds _ _ h2 g.2 r2
      refine ⟨_, ReadsAll.cons q1 q2, fun z m => ?_⟩
      have z : (d.hasL || Vd.hasLs ds) = false := z
      rw [Bool.or_eq_false_iff] at z
      rcases List.mem_append.mp m with m | m
      · exact n1 z.1 m
      · exact n2 z.2 m
end
end
/-- a value whose text is known -/
structure Vd.Told (d : Vd) : Prop where
  fi : d.fine
  dep : d.pd.depth ≤ 60
  fit : d.pd.shown.length ≤ sizeLine
  or_ : d.hasL = false ∨ d.hasD = false
def rReprV (K : PySem.W.Frag) (C : Cs) : List V → Hp → VK → Prop := fun xs H Q => ∃ x d P, xs = [x] ∧ VA K C P H d x ∧ d.Told ∧ Q (.str d.pd.shown) H
theorem call_reprV {X : Cx} {C : Cs} (gd : X.A.guards = some []) (hu : X.A.units + 68 < cLine) : CallR X (.builtin "repr") (rReprV X.K C) := by
  intro pins s σ H xs us Q I r h
  obtain ⟨x, d, b, rfl, hd, g, q⟩ := h
  obtain ⟨u, rfl, rx⟩ := vals1 r
  obtain ⟨as, rd, ns⟩ := VA.reads I d x u hd g.fi rx
  have dep := g.dep
  have big := g.fit
  have wr := (d.shows g.fi).1
  have last : ∀ (h' : Heap) (tk : Nat) (t : Tok), (∀ b o, s.heap.get? b = some o → h'.get? b = some o) → EP X pins σ Q (.str d.pd.shown t) { s with heap := h', toks := tk } :=
    fun h' tk t k => ⟨.str d.pd.shown, H, I.kept k, ⟨_, rfl⟩, q⟩
  have hs : d.pd.hasDict = true → sysModules ∉ as := fun z => by
    rw [d.hasD_pd] at z
    rcases g.or_ with e | e
    · exact ns e
    · rw [e] at z; cases z
  have deep : ∀ a, u = .ref a → wpAny (model X.prog X.w) X.A (call (.builtin "repr") [u]) (EP X pins σ Q) X.xe s := by
    intro a e
    subst e
    exact repr_of_reads' rd wr hs gd (by omega) (fun _ _ z => z) (fun h' t tk k => last h' tk t k) big
  cases d with
  | int i =>
    cases hd
    obtain ⟨t, rfl⟩ := rx
    exact PySem.P.repr_of_int (of_decide_eq_true wr) (last s.heap _ _ fun _ _ z => z)
  | bl c =>
    cases hd
    cases rx
    refine PySem.P.repr_of_bool ?_
    have z := last s.heap (s.toks + 1) s.toks fun _ _ z => z
    cases c <;> exact z
  | non =>
    cases hd
    cases rx
    exact PySem.P.repr_of_none (last s.heap _ _ fun _ _ z => z)
  | str z =>
    cases hd
    obtain ⟨t, rfl⟩ := rx
    exact PySem.P.repr_of_str (last s.heap _ _ fun _ _ z => z) big
  | tup ds =>
    obtain ⟨a, _, rfl, _⟩ := hd
    exact deep a rx
  | lst ds =>
    obtain ⟨a, _, rfl, _⟩ := hd
    exact deep a rx
  | dic =>
    obtain ⟨a, rfl, _⟩ := hd
    exact deep a rx
  | obj a => exact g.fi.elim
end Pk
set_option Elab.async false
set_option linter.all false
set_option maxRecDepth 100000
set_option maxHeartbeats 2000000
namespace Pk
open PySem PySem.Spec L2 PyProof.Rows
/-! ### is_tree of any value -/
def Vd.word : Vd → Option Str
  | .tup [.str w, _, _] => some w
  | _ => none
def Vd.wIn (d : Vd) (ws : List Str) : Bool := match d.word with
  | some w => inV (.str w) (ws.map V.str)
  | none => false
/-- three parts, the first one a text -/
def Vd.three (d : Vd) : Prop := ∃ w x y, d = .tup [.str w, x, y]
theorem Vd.word_no {d : Vd} (h : ¬ d.three) : d.word = none := by
  unfold Vd.word
  split
  · exact absurd ⟨_, _, _, rfl⟩ h
  · rfl
theorem Vd.leaf_no {d : Vd} (h : ¬ d.three) : d.leaf = false := by
  unfold Vd.leaf
  split
  · exact absurd ⟨_, _, _, rfl⟩ h
  · rfl
theorem Vd.fork_no {d : Vd} (h : ¬ d.three) : d.fork = none := by
  unfold Vd.fork
  split
  · exact absurd ⟨_, _, _, rfl⟩ h
  · rfl
theorem inV1 {w z : Str} : inV (V.str w) [V.str z] = decide (w = z) := by
  show ((z == w) || false) = decide (w = z)
  rw [Bool.or_false]
  by_cases h : w = z
  · rw [h, decide_eq_true rfl]; simp
  · rw [decide_eq_false h]
    exact beq_eq_false_iff_ne.mpr fun e => h e.symm
theorem inV2 {w y z : Str} : inV (V.str w) [V.str y, V.str z] = decide (w = y ∨ w = z) := by
  show ((y == w) || ((z == w) || false)) = decide (w = y ∨ w = z)
  rw [Bool.or_false]
  by_cases h : w = y
  · rw [h, decide_eq_true (.inl rfl)]; simp
  · by_cases g : w = z
    · rw [g, decide_eq_true (.inr rfl)]; simp
    · rw [decide_eq_false (fun z => z.elim h g), beq_eq_false_iff_ne.mpr fun e => h e.symm, beq_eq_false_iff_ne.mpr fun e => g e.symm]; rfl
section
variable {K : PySem.W.Frag} {C : Cs} {vs : List V} {H H' G G' : Hp} {Q : VK} {E : XK} {n : Nat} {d e : Vd} {ds : List Vd} {v : V} {xs : List V} {a b l : Addr} {P : Addr → Prop}
theorem VAs.three (h : VAs K C P H ds xs) (e : xs.length = 3) : ∃ d0 d1 d2 x0 x1 x2, ds = [d0, d1, d2] ∧ xs = [x0, x1, x2] ∧ VA K C P H d0 x0 ∧ VA K C P H d1 x1 ∧ VA K C P H d2 x2 := by
  match ds, h with
  | [], h => cases h; cases e
  | d0 :: [], ⟨x0, _, r, _, h2⟩ => cases h2; subst r; cases e
  | d0 :: d1 :: [], ⟨x0, _, r, _, x1, _, r1, _, h2⟩ => cases h2; subst r1; subst r; cases e
  | [d0, d1, d2], ⟨x0, _, r, h0, x1, _, r1, h1, x2, _, r2, h2, h3⟩ =>
    cases h3
    subst r2
    subst r1
    subst r
    exact ⟨d0, d1, d2, x0, x1, x2, rfl, rfl, h0, h1, h2⟩
  | d0 :: d1 :: d2 :: d3 :: r, ⟨x0, _, r0, h0, x1, _, r1, h1, x2, _, r2, h2, x3, _, r3, _⟩ =>
    subst r3
    subst r2
    subst r1
    subst r0
    simp at e
/-- a tuple of three whose first part is a text, or none -/
theorem VA.shape (fo : Fx19 K C) (h : VA K C P H d v) :
    (∃ w x y a u z, d = .tup [.str w, x, y] ∧ v = .ref a ∧ SqT K H a [.str w, u, z] ∧ VA K C P H x u ∧ VA K C P H y z) ∨
    (¬ d.three ∧ ((∃ t, TyX K H v t ∧ PySem.W.kitOne K t (.type "tuple") = some false) ∨ (∃ a xs, v = .ref a ∧ SqT K H a xs ∧ xs.length ≠ 3) ∨
      (∃ a x0 x1 x2 t, v = .ref a ∧ SqT K H a [x0, x1, x2] ∧ TyX K H x0 t ∧ PySem.W.kitOne K t (.type "str") = some false))) := by
  rcases h.tuple fo with ⟨ds, a, xs, rfl, rfl, s, al⟩ | ⟨t, no⟩
  · by_cases c : xs.length = 3
    · obtain ⟨d0, d1, d2, x0, x1, x2, rfl, rfl, h0, h1, h2⟩ := al.three c
      rcases h0.text fo with ⟨w, rfl, rfl⟩ | ⟨⟨t, ty, kt⟩, no⟩
      · exact .inl ⟨w, d1, d2, a, x1, x2, rfl, rfl, s, h1, h2⟩
      · refine .inr ⟨?_, .inr (.inr ⟨a, x0, x1, x2, t, rfl, s, ty, kt⟩)⟩
        rintro ⟨w, x, y, e⟩
        cases e
        exact no w rfl
    · refine .inr ⟨?_, .inr (.inl ⟨a, xs, rfl, s, c⟩)⟩
      rintro ⟨w, x, y, e⟩
      cases e
      exact c al.length
  · refine .inr ⟨?_, .inl t⟩
    rintro ⟨w, x, y, e⟩
    exact no _ e
def sp_Word19 (K : PySem.W.Frag) (C : Cs) : Sp := fun vs H Q _ => ∃ v d P p ws, vs = [v, .ref p] ∧ VA K C P H d v ∧ Fx19 K C ∧ SqT K H p (ws.map V.str) ∧ Q (.bl (d.wIn ws)) H
def sp_By19 (K : PySem.W.Frag) (C : Cs) : Sp := fun vs H Q _ => ∃ v d P, vs = [v] ∧ VA K C P H d v ∧ Fx19 K C ∧ Q (.bl (d.num (some 6))) H
def t_Word19 (K : PySem.W.Frag) : TS :=
  (tSeq (tIfS (tOr (tNot (tB (tCB (rIsi K) (tCons (tVar 0) (tCons (tC (.ty "tuple")) tNil))))) (tTest (tOp (rNeU K) (tCB (rLenU K) (tCons (tVar 0) tNil)) (tC (.int 3))))) (tRet (tC (.bl false))) tNext)
    (tRet (tAndV (tCB (rIsi K) (tCons (tOp (rIx K) (tVar 0) (tC (.int 0))) (tCons (tC (.ty "str")) tNil))) (tOp (rInU K) (tOp (rIx K) (tVar 0) (tC (.int 0))) (tVar 1)))))
def t_By19 (K : PySem.W.Frag) : TS :=
  (tRet (tAndV (tCall (sp_IsNum K) [] E0 (tCons (tC (.int 1)) (tCons (tVar 0) tNil))) (tOp (rLeU) (tVar 0) (tC (.int 6)))))
theorem ln_Word19 (h : sp_Word19 K C vs H Q E) : vs.length = 2 := by obtain ⟨_, _, _, _, _, rfl, _⟩ := h; rfl
theorem ln_By19 (h : sp_By19 K C vs H Q E) : vs.length = 1 := by obtain ⟨_, _, _, rfl, _⟩ := h; rfl
theorem rd_Word19 (h : sp_Word19 K C vs H Q E) : t_Word19 K (EndsOf Q) (start ["", ""] vs) H := by
  obtain ⟨v, d, P, p, ws, rfl, hd, fo, hp, k⟩ := h
  rcases hd.shape fo with ⟨w, x, y, a, u, z, rfl, rfl, s, _, _⟩ | ⟨no, ⟨t, ty, kt⟩ | ⟨a, xs, rfl, s, ne⟩ | ⟨a, x0, x1, x2, t, rfl, s, ty, kt⟩⟩
  · refine ⟨_, rfl, _, _, _, _, true, rfl, .ty _, sqt_ty s, kit_tt, true, rfl, ?_⟩
    refine ⟨_, rfl, .inl ⟨_, 3, rfl, .inr ⟨_, s, rfl⟩, .inl ⟨rfl, _, rfl, ?_⟩⟩⟩
    refine iteF' (by decide) ?_
    refine ⟨_, rfl, .inr (.inl ⟨a, _, 0, _, rfl, rfl, s, rfl, ?_⟩)⟩
    refine ⟨_, _, _, _, true, rfl, .ty _, .base (.str _), kit_ss, true, rfl, ?_⟩
    refine ⟨_, rfl, .inr (.inl ⟨a, _, 0, _, rfl, rfl, s, rfl, ?_⟩)⟩
    exact ⟨_, rfl, .inl ⟨p, _, rfl, .inr hp, rfl, flat_strs ws, k⟩⟩
  · unfold Vd.wIn at k
    rw [Vd.word_no no] at k
    exact ⟨_, rfl, _, _, _, _, false, rfl, .ty _, ty, kt, false, rfl, iteT' rfl k⟩
  · unfold Vd.wIn at k
    rw [Vd.word_no no] at k
    refine ⟨_, rfl, _, _, _, _, true, rfl, .ty _, sqt_ty s, kit_tt, true, rfl, ?_⟩
    refine ⟨_, rfl, .inl ⟨_, xs.length, rfl, .inr ⟨_, s, rfl⟩, .inl ⟨rfl, _, rfl, ?_⟩⟩⟩
    refine iteT' ?_ k
    rw [decide_eq_false fun z => ne (by have := V.int.inj z; omega)]
    rfl
  · unfold Vd.wIn at k
    rw [Vd.word_no no] at k
    refine ⟨_, rfl, _, _, _, _, true, rfl, .ty _, sqt_ty s, kit_tt, true, rfl, ?_⟩
    refine ⟨_, rfl, .inl ⟨_, 3, rfl, .inr ⟨_, s, rfl⟩, .inl ⟨rfl, _, rfl, ?_⟩⟩⟩
    refine iteF' (by decide) ?_
    refine ⟨_, rfl, .inr (.inl ⟨a, _, 0, _, rfl, rfl, s, rfl, ?_⟩)⟩
    exact ⟨_, _, _, _, false, rfl, .ty _, ty, kt, false, rfl, k⟩
theorem Vd.num6 {i : Int} : (Vd.int i).num (some 6) = (decide (1 ≤ i) && decide (i ≤ 6)) := rfl
theorem Vd.numN {i : Int} : (Vd.int i).num none = decide (1 ≤ i) := by
  show (decide (1 ≤ i) && true) = _
  rw [Bool.and_true]
theorem rd_By19 (h : sp_By19 K C vs H Q E) : t_By19 K (EndsOf Q) (start [""] vs) H := by
  obtain ⟨v, d, P, rfl, hd, fo, k⟩ := h
  rcases hd.num fo with ⟨i, rfl, rfl⟩ | ⟨no, e⟩
  · rw [Vd.num6] at k
    refine ⟨_, rfl, 1, _, rfl, .inl ⟨i, rfl, _, rfl, ?_⟩⟩
    cases hb : decide ((1 : Int) ≤ i) with
    | false => rw [hb] at k; exact k
    | true => rw [hb] at k; exact ⟨_, rfl, .inl ⟨_, _, rfl, rfl, k⟩⟩
  · rw [e] at k
    exact ⟨_, rfl, 1, _, rfl, .inr ⟨no, false, rfl, k⟩⟩
def sp_Leaf19 (K : PySem.W.Frag) (C : Cs) : Sp := fun vs H Q _ => ∃ v d P, vs = [v] ∧ VA K C P H d v ∧ Fx19 K C ∧ ∀ H', Same H H' → Q (.bl d.leaf) H'
def t_Leaf19 (K : PySem.W.Frag) (C : Cs) : TS :=
  (tRet (tAndV (tCall (sp_Word19 K C) [] E0 (tCons (tVar 0) (tCons (tTup (tCons (tC (.str "at")) tNil)) tNil))) (tAndV (tCall (sp_IsNum K) [] E0 (tCons (tC (.int 1)) (tCons (tOp (rIx K) (tVar 0) (tC (.int 1))) tNil))) (tCall (sp_By19 K C) [] E0 (tCons (tOp (rIx K) (tVar 0) (tC (.int 2))) tNil)))))
theorem ln_Leaf19 (h : sp_Leaf19 K C vs H Q E) : vs.length = 1 := by obtain ⟨_, _, _, rfl, _⟩ := h; rfl
theorem Vd.leaf3 {w : Str} {x y : Vd} : (Vd.tup [.str w, x, y]).leaf = (decide (w = "at") && x.num none && y.num (some 6)) := rfl
theorem rd_Leaf19 (h : sp_Leaf19 K C vs H Q E) : t_Leaf19 K C (EndsOf Q) (start [""] vs) H := by
  obtain ⟨v, d, P, rfl, hd, fo, k⟩ := h
  refine ⟨_, rfl, two_fit.1, fun p hp => ?_⟩
  have s := same_new (o := .tup [.str "at"]) hp
  have hd := hd.same s
  have k := k _ s
  refine ⟨v, d, P, p, ["at"], rfl, hd, fo, SqT.of upd_same, _, rfl, ?_⟩
  by_cases th : d.three
  · rcases hd.shape fo with ⟨w, x, y, a, u, z, rfl, rfl, sq, hx, hy⟩ | ⟨no, _⟩
    · have ew : (Vd.tup [.str w, x, y]).wIn ["at"] = decide (w = "at") := inV1
      rw [ew]
      rw [Vd.leaf3] at k
      by_cases c : w = "at"
      · rw [decide_eq_true c] at k ⊢
        refine iteT' rfl ?_
        refine ⟨_, rfl, .inr (.inl ⟨a, _, 1, _, rfl, rfl, sq, rfl, ?_⟩)⟩
        rcases hx.num fo with ⟨i, rfl, rfl⟩ | ⟨nx, ex⟩
        · rw [Vd.numN] at k
          refine ⟨1, _, rfl, .inl ⟨i, rfl, _, rfl, ?_⟩⟩
          by_cases c1 : 1 ≤ i
          · rw [decide_eq_true c1] at k ⊢
            refine iteT' rfl ?_
            exact ⟨_, rfl, .inr (.inl ⟨a, _, 2, _, rfl, rfl, sq, rfl, z, y, P, rfl, hy, fo, k⟩)⟩
          · rw [decide_eq_false c1] at k ⊢
            exact k
        · rw [ex] at k
          exact ⟨1, _, rfl, .inr ⟨nx, false, rfl, k⟩⟩
      · rw [decide_eq_false c] at k ⊢
        exact k
    · exact absurd th no
  · rw [Vd.leaf_no th] at k
    have ew : d.wIn ["at"] = false := by unfold Vd.wIn; rw [Vd.word_no th]
    rw [ew]
    exact k
def sp_Tree19 (K : PySem.W.Frag) (C : Cs) : Sp := fun vs H Q _ => ∃ v d P, vs = [v] ∧ VA K C P H d v ∧ Fx19 K C ∧ ∀ H', Same H H' → Q (.bl (decide (d.atoms < 7))) H'
def t_Tree19 (K : PySem.W.Frag) (C : Cs) : TS :=
  (tSeq (tAsg (tLst (tCons (tVar 0) tNil)) (gName 1))
    (tSeq (tAsg (tC (.int 0)) (gName 2))
    (tSeq (tWhile (tTest (tOp (rGtI) (tCB (rLenU K) (tCons (tVar 1) tNil)) (tC (.int 0)))) (tSeq (tAsg (tBM0 K "list" rPop (tVar 1)) (gName 3))
    (Evl.tCut (tIfS (tB (tCall (sp_Leaf19 K C) [] E0 (tCons (tVar 3) tNil))) (tAsg (tOp (rAddU K) (tVar 2) (tC (.int 1))) (gName 2)) (tIfS (tB (tCall (sp_Word19 K C) [] E0 (tCons (tVar 3) (tCons (tTup (tCons (tC (.str "or")) (tCons (tC (.str "and")) tNil))) tNil)))) (tSeq (tDrop (tBM K "list" rAppend (tVar 1) (tCons (tOp (rIx K) (tVar 3) (tC (.int 1))) tNil)))
    (tDrop (tBM K "list" rAppend (tVar 1) (tCons (tOp (rIx K) (tVar 3) (tC (.int 2))) tNil)))) (tRet (tC (.bl false)))))
    (tIfS (tTest (tOp (rGtI) (tOp (rAddU K) (tVar 2) (tCB (rLenU K) (tCons (tVar 1) tNil))) (tC (.int 6)))) (tRet (tC (.bl false))) tNext))))
    (tRet (tC (.bl true))))))
theorem ln_Tree19 (h : sp_Tree19 K C vs H Q E) : vs.length = 1 := by obtain ⟨_, _, _, rfl, _⟩ := h; rfl
abbrev Zs := List (V × Vd)
def Zs.ws (zs : Zs) : List Vd := (zs.map (·.2)).reverse
noncomputable def Zs.big (zs : Zs) : Nat := (zs.map fun z => sizeOf z.2).sum
theorem Zs.big_app (x y : Zs) : Zs.big (x ++ y) = Zs.big x + Zs.big y := by unfold Zs.big; rw [List.map_append, List.sum_append]
theorem Zs.ws_one (rs : Zs) (u : V) (e : Vd) : Zs.ws (rs ++ [(u, e)]) = e :: Zs.ws rs := by unfold Zs.ws; rw [List.map_append, List.reverse_append]; rfl
theorem Zs.ws_two (rs : Zs) (u u' : V) (e e' : Vd) : Zs.ws (rs ++ [(u, e), (u', e')]) = e' :: e :: Zs.ws rs := by unfold Zs.ws; rw [List.map_append, List.reverse_append]; rfl
theorem Zs.ws_len (rs : Zs) : (Zs.ws rs).length = rs.length := by unfold Zs.ws; rw [List.length_reverse, List.length_map]
theorem rd_Tree19 (h : sp_Tree19 K C vs H Q E) : t_Tree19 K C (EndsOf Q) (start ["", "", "", ""] vs) H := by
  obtain ⟨v, d, P, rfl, hd, fo, k⟩ := h
  have end_ : ∀ {r : Bool} {H' : Hp}, Waits [d] 0 r → Same H H' → Q (.bl r) H' := fun {r H'} w s => by rw [w.one]; exact k H' s
  refine ⟨_, rfl, two_fit.1, fun w hw => ?_⟩
  have s0 := same_new (o := .lst [v]) hw
  refine ⟨fun m σ' H' => ∃ (zs : Zs) (lf : Nat) (pt : Option V), σ' = [some v, some (.ref w), some (.int lf), pt] ∧ H' w = some (.lst (zs.map (·.1))) ∧ (∀ z ∈ zs, VA K C P H z.2 z.1) ∧ (∀ r, Waits zs.ws lf r → Waits [d] 0 r) ∧ Same H H' ∧ zs.length ≤ 6 ∧ m = zs.big,
    ⟨_, [(v, d)], 0, none, rfl, upd_same, fun z hz => ?_, fun r q => q, s0, by show 1 ≤ 6; decide, rfl⟩, ?_⟩
  · rw [List.mem_singleton.mp hz]
    exact hd
  rintro m σ' H' ⟨zs, lf, pt, rfl, hwl, hz, hl, s, l6, rfl⟩
  refine ⟨_, rfl, .inl ⟨_, _, rfl, .inl ⟨_, SqL.of hwl, rfl⟩, _, _, rfl, rfl, _, rfl, ?_⟩⟩
  rw [List.length_map]
  rcases nil_or_last zs with rfl | ⟨rs, ⟨u, e⟩, rfl⟩
  · refine iteF' (by decide) ?_
    exact end_ (hl true (.done lf)) s
  refine iteT' (decide_eq_true (by rw [List.length_append, List.length_singleton]; omega)) ?_
  have hu : VA K C P H e u := hz (u, e) (List.mem_append_right _ (List.mem_singleton.mpr rfl))
  have hrs : ∀ z ∈ rs, VA K C P H z.2 z.1 := fun z q => hz z (List.mem_append_left _ q)
  have e1 : (rs ++ [(u, e)]).map (·.1) = rs.map (·.1) ++ [u] := by rw [List.map_append]; rfl
  rw [e1] at hwl
  rw [Zs.ws_one] at hl
  rw [List.length_append, List.length_singleton] at l6
  have hN : Zs.big [(u, e)] = sizeOf e := by show sizeOf e + 0 = _; omega
  refine ⟨fun σ2 H2 => ∃ (zs : Zs) (lf : Nat) (pt : Option V), σ2 = [some v, some (.ref w), some (.int lf), pt] ∧ H2 w = some (.lst (zs.map (·.1))) ∧ (∀ z ∈ zs, VA K C P H z.2 z.1) ∧ (∀ r, Waits zs.ws lf r → Waits [d] 0 r) ∧ Same H H2 ∧ zs.length ≤ 6 ∧ zs.big < Zs.big (rs ++ [(u, e)]),
    fun σ2 H2 ⟨zs, lf, pt, a1, a2, a3, a4, a5, a6, a7⟩ => ⟨_, a7, zs, lf, pt, a1, a2, a3, a4, a5, a6, rfl⟩, ?_⟩
  rw [Zs.big_app, hN]
  -- part = waiting.pop()
  refine ⟨_, rfl, .inl ⟨rfl, _, SqL.of hwl⟩, w, _, u, rfl, rfl, hwl, ?_, ?_⟩
  · rw [List.length_append, List.length_singleton, Nat.add_sub_cancel, List.getElem?_append_right (Nat.le_refl _), Nat.sub_self]
    rfl
  rw [List.dropLast_concat]
  have s1 : Same H (upd H' w (.lst (rs.map (·.1)))) := fun b o e => by rw [upd_ne (ne_of_none e hw)]; exact s b o e
  have hw1 : (upd H' w (.lst (rs.map (·.1)))) w = some (.lst (rs.map (·.1))) := upd_same
  generalize upd H' w (.lst (rs.map (·.1))) = G at s1 hw1 ⊢
  -- what it is
  refine ⟨fun σ2 H2 => ∃ (zs : Zs) (lf : Nat), σ2 = [some v, some (.ref w), some (.int lf), some u] ∧ H2 w = some (.lst (zs.map (·.1))) ∧ (∀ z ∈ zs, VA K C P H z.2 z.1) ∧ (6 < lf + zs.length → Waits [d] 0 false) ∧ (lf + zs.length ≤ 6 → ∀ r, Waits zs.ws lf r → Waits [d] 0 r) ∧ Same H H2 ∧ zs.big < Zs.big rs + sizeOf e, ?_, ?_⟩
  · refine ⟨_, rfl, u, e, P, rfl, hu.same s1, fo, fun G1 g1 => ⟨_, rfl, ?_⟩⟩
    have s2 := s1.trans g1
    have hw2 := g1 _ _ hw1
    have se : 0 < sizeOf e := by cases e <;> simp <;> omega
    cases cl : e.leaf with
    | true =>
      refine iteT' rfl ?_
      refine ⟨_, rfl, .inl ⟨_, _, rfl, rfl, ?_⟩⟩
      refine ⟨rs, lf + 1, rfl, hw2, hrs, fun many => hl false (.leafs cl (by rw [Zs.ws_len]; omega)), fun few r q => hl r (.leaf cl (by rw [Zs.ws_len]; omega) q), s2, by omega⟩
    | false =>
      refine iteF' rfl ?_
      refine ⟨_, rfl, two_fit.2.1, fun p hp => ?_⟩
      have g2 := same_new (o := .tup [.str "or", .str "and"]) hp
      have s3 := s2.trans g2
      have hw3 := g2 _ _ hw2
      refine ⟨_, e, P, p, ["or", "and"], rfl, hu.same s3, fo, SqT.of upd_same, _, rfl, ?_⟩
      generalize upd G1 p (.tup [.str "or", .str "and"]) = G2 at s3 hw3 ⊢
      rcases (hu.same s3).shape fo with ⟨wd, x, y, a, p1, p2, rfl, rfl, sq, _, _⟩ | ⟨no, _⟩
      · have ew : (Vd.tup [.str wd, x, y]).wIn ["or", "and"] = decide (wd = "or" ∨ wd = "and") := inV2
        rw [ew]
        have ef : (Vd.tup [.str wd, x, y]).fork = if wd = "or" ∨ wd = "and" then some (x, y) else none := rfl
        by_cases c : wd = "or" ∨ wd = "and"
        · rw [if_pos c] at ef
          refine iteT' (decide_eq_true c) ?_
          have nw : H w = none := hw
          obtain ⟨a0, xs0, e0, sq0, al0⟩ := hu
          cases e0
          obtain ⟨_, d1, d2, _, y1, y2, ed, rfl, _, hx, hy⟩ := al0.three (by have := al0.length; simpa using this)
          cases ed
          have sq1 := Tups.same (K := K) s3 _ _ sq0
          refine ⟨_, rfl, .inl ⟨rfl, _, SqL.of hw3⟩, _, rfl, .inr (.inl ⟨a, _, 1, _, rfl, rfl, sq1, rfl, ?_⟩)⟩
          refine ⟨w, _, _, rfl, rfl, hw3, small1000 (by rw [List.length_map]; omega), ?_⟩
          have t3 : Tups K G2 (upd G2 w (.lst (rs.map (·.1) ++ [y1]))) := Tups.put hw3 (fun _ z => nomatch z) fun _ _ z => nomatch z
          refine ⟨_, rfl, .inl ⟨rfl, _, SqL.of upd_same⟩, _, rfl, .inr (.inl ⟨a, _, 2, _, rfl, rfl, t3 _ _ sq1, rfl, ?_⟩)⟩
          refine ⟨w, _, _, rfl, rfl, upd_same, small1000 (by rw [List.length_append, List.length_singleton, List.length_map]; omega), ?_⟩
          rw [upd_upd]
          have lt := Vd.fork_lt ef
          refine ⟨rs ++ [(y1, x), (y2, y)], lf, rfl, ?_, fun z q => ?_, fun many => hl false (.forks ef ?_), fun few r q => hl r (.fork ef ?_ (by rw [Zs.ws_two] at q; exact q)), fun b o e => ?_, ?_⟩
          · rw [upd_same, List.map_append, List.append_assoc]
            rfl
          · rcases List.mem_append.mp q with q | q
            · exact hrs z q
            · rcases List.mem_cons.mp q with rfl | q
              · exact hx
              · rw [List.mem_singleton.mp q]
                exact hy
          · rw [Zs.ws_len]
            rw [List.length_append] at many
            have : ([(y1, x), (y2, y)] : Zs).length = 2 := rfl
            omega
          · rw [Zs.ws_len]
            rw [List.length_append] at few
            have : ([(y1, x), (y2, y)] : Zs).length = 2 := rfl
            omega
          · rw [upd_ne (ne_of_none e hw)]
            exact s3 b o e
          · rw [Zs.big_app]
            have : Zs.big [(y1, x), (y2, y)] = sizeOf x + sizeOf y := by show sizeOf x + (sizeOf y + 0) = _; omega
            omega
        · rw [if_neg c] at ef
          refine iteF' (decide_eq_false c) ?_
          exact end_ (hl false (.other cl ef)) s3
      · have ew : e.wIn ["or", "and"] = false := by unfold Vd.wIn; rw [Vd.word_no no]
        rw [ew]
        exact end_ (hl false (.other cl (Vd.fork_no no))) s3
  rintro σ2 H2 ⟨zs2, lf2, rfl, b2, b3, many, few, b5, b6⟩
  -- not too many
  refine ⟨_, rfl, _, rfl, .inl ⟨_, _, rfl, .inl ⟨_, SqL.of b2, rfl⟩, .inl ⟨_, _, rfl, rfl, _, _, rfl, rfl, _, rfl, ?_⟩⟩⟩
  rw [List.length_map]
  refine ifD (fun c => ?_) (fun c => ?_)
  · exact end_ (many (by omega)) b5
  · exact ⟨zs2, lf2, _, rfl, b2, b3, few (by omega), b5, by omega, b6⟩
end
end Pk
set_option Elab.async false
set_option linter.all false
set_option maxRecDepth 100000
set_option maxHeartbeats 2000000
namespace Pk
open PySem PySem.Spec L2 PyProof.Rows
/-! ### trees among values of any kind -/
def Tr.vd : Tr → Vd
  | .at t q => .tup [.str "at", .int t, .int q]
  | .or a b => .tup [.str "or", a.vd, b.vd]
  | .and a b => .tup [.str "and", a.vd, b.vd]
theorem Tr.vd_pd : ∀ T : Tr, T.vd.pd = T.pd
  | .at t q => rfl
  | .or a b => by show PyData.tuple [.str "or", a.vd.pd, b.vd.pd] = .tuple [.str "or", a.pd, b.pd]; rw [a.vd_pd, b.vd_pd]
  | .and a b => by show PyData.tuple [.str "and", a.vd.pd, b.vd.pd] = .tuple [.str "and", a.pd, b.pd]; rw [a.vd_pd, b.vd_pd]
theorem Vd.fork_at {x y : Vd} : (Vd.tup [.str "at", x, y]).fork = none := by
  show (if (("at" : Str) = "or" ∨ ("at" : Str) = "and") then some (x, y) else none) = none
  rw [if_neg (by decide +kernel)]
theorem Vd.fork_or {x y : Vd} : (Vd.tup [.str "or", x, y]).fork = some (x, y) := by
  show (if (("or" : Str) = "or" ∨ ("or" : Str) = "and") then some (x, y) else none) = some (x, y)
  rw [if_pos (.inl rfl)]
theorem Vd.fork_and {x y : Vd} : (Vd.tup [.str "and", x, y]).fork = some (x, y) := by
  show (if (("and" : Str) = "or" ∨ ("and" : Str) = "and") then some (x, y) else none) = some (x, y)
  rw [if_pos (.inr rfl)]
theorem Tr.vd_atoms : ∀ T : Tr, T.ok → T.vd.atoms = T.lv
  | .at t q, h => by
    obtain ⟨h1, h2, h3, h4⟩ := h
    show (Vd.tup [.str "at", .int t, .int q]).atoms = 1
    rw [Vd.atoms_no Vd.fork_at, Vd.leaf3, Vd.numN, Vd.num6, decide_eq_true h1, decide_eq_true h3, decide_eq_true h4]
    rfl
  | .or a b, h => by
    show (Vd.tup [.str "or", a.vd, b.vd]).atoms = a.lv + b.lv
    rw [Vd.atoms_fork Vd.fork_or, a.vd_atoms h.1, b.vd_atoms h.2]
  | .and a b, h => by
    show (Vd.tup [.str "and", a.vd, b.vd]).atoms = a.lv + b.lv
    rw [Vd.atoms_fork Vd.fork_and, a.vd_atoms h.1, b.vd_atoms h.2]
/-- fine, of what size, how deep; no list or no dict in it -/
structure Vd.Sp (d : Vd) (s p : Nat) : Prop where
  fi : d.fine
  sz : d.sz ≤ s
  dep : d.pd.depth ≤ p
  or_ : d.hasL = false ∨ d.hasD = false
/-- and neither a list nor a dict -/
structure Vd.Tp (d : Vd) (s p : Nat) : Prop where
  fi : d.fine
  sz : d.sz ≤ s
  dep : d.pd.depth ≤ p
  nl : d.hasL = false
  nd : d.hasD = false
theorem Vd.Tp.sp {d : Vd} {s p : Nat} (h : d.Tp s p) : d.Sp s p := ⟨h.fi, h.sz, h.dep, .inl h.nl⟩
theorem Vd.Tp.le {d : Vd} {s p s' p' : Nat} (h : d.Tp s p) (hs : s ≤ s') (hp : p ≤ p') : d.Tp s' p' := ⟨h.fi, Nat.le_trans h.sz hs, Nat.le_trans h.dep hp, h.nl, h.nd⟩
theorem Vd.Sp.le {d : Vd} {s p s' p' : Nat} (h : d.Sp s p) (hs : s ≤ s') (hp : p ≤ p') : d.Sp s' p' := ⟨h.fi, Nat.le_trans h.sz hs, Nat.le_trans h.dep hp, h.or_⟩
theorem Vd.Sp.told {d : Vd} {s p : Nat} (h : d.Sp s p) (hs : s ≤ 16000000) (hp : p ≤ 60) : d.Told :=
  ⟨h.fi, Nat.le_trans h.dep hp, by have := (d.shows h.fi).2; have := h.sz; rw [sizeLine_eq]; omega, h.or_⟩
theorem Vd.Tp.text {x : Str} (h : x.length ≤ 10) (g : PyData.strOk x = true) : (Vd.str x).Tp 108 0 := ⟨g, by show 10 * x.length + 8 ≤ 108; omega, by simp [Vd.pd, PyData.depth], rfl, rfl⟩
theorem Vd.Tp.num {i : Int} (h : i.natAbs ≤ 10 ^ 50) : (Vd.int i).Tp 2000 0 := ⟨h, Nat.le_refl _, by simp [Vd.pd, PyData.depth], rfl, rfl⟩
/-- a tuple of parts, at most one of which may hold a list or a dict -/
theorem Vd.Tp.tup3 {x y z : Vd} {s1 s2 s3 p : Nat} (h1 : x.Tp s1 p) (h2 : y.Tp s2 p) (h3 : z.Tp s3 p) : (Vd.tup [x, y, z]).Tp (s1 + s2 + s3 + 20) (p + 1) := by
  refine ⟨⟨h1.fi, h2.fi, h3.fi, trivial⟩, ?_, ?_, ?_, ?_⟩
  · show 8 + (x.sz + 4 + (y.sz + 4 + (z.sz + 4 + 0))) ≤ _
    have := h1.sz; have := h2.sz; have := h3.sz
    omega
  · show (PyData.tuple [x.pd, y.pd, z.pd]).depth ≤ p + 1
    simp only [PyData.depth, PyData.depthAll]
    have := h1.dep; have := h2.dep; have := h3.dep
    omega
  · show (x.hasL || (y.hasL || (z.hasL || false))) = false
    rw [h1.nl, h2.nl, h3.nl]; rfl
  · show (x.hasD || (y.hasD || (z.hasD || false))) = false
    rw [h1.nd, h2.nd, h3.nd]; rfl
/-- a list of parts: all but one are plain -/
theorem Vd.Sp.mix {pre post : List Vd} {e : Vd} {s p n : Nat} (he : e.Sp s p) (h1 : ∀ d ∈ pre ++ post, d.Tp n p) : (Vd.tup (pre ++ [e] ++ post)).Sp (8 + (pre ++ post).length * (n + 4) + (s + 4)) (p + 1) := by
  have all : ∀ (l : List Vd) (q : ∀ d ∈ l, d.Tp n p), Vd.fines l ∧ Vd.szs l ≤ l.length * (n + 4) ∧ PyData.depthAll (Vd.pds l) ≤ p ∧ Vd.hasLs l = false ∧ Vd.hasDs l = false := by
    intro l
    induction l with
    | nil => exact fun _ => ⟨trivial, Nat.zero_le _, by show PyData.depthAll [] ≤ p; simp [PyData.depthAll], rfl, rfl⟩
    | cons d r ih =>
      intro q
      obtain ⟨i1, i2, i3, i4, i5⟩ := ih fun x hx => q x (List.mem_cons_of_mem _ hx)
      have h := q d (List.mem_cons_self ..)
      refine ⟨⟨h.fi, i1⟩, ?_, ?_, ?_, ?_⟩
      · show d.sz + 4 + Vd.szs r ≤ (r.length + 1) * (n + 4)
        have := h.sz
        rw [Nat.add_mul]
        omega
      · show PyData.depthAll (d.pd :: Vd.pds r) ≤ p
        simp only [PyData.depthAll]
        have := h.dep
        omega
      · show (d.hasL || Vd.hasLs r) = false
        rw [h.nl, i4]; rfl
      · show (d.hasD || Vd.hasDs r) = false
        rw [h.nd, i5]; rfl
  have app : ∀ (l m : List Vd), (Vd.fines (l ++ m) ↔ Vd.fines l ∧ Vd.fines m) ∧ Vd.szs (l ++ m) = Vd.szs l + Vd.szs m ∧ PyData.depthAll (Vd.pds (l ++ m)) = max (PyData.depthAll (Vd.pds l)) (PyData.depthAll (Vd.pds m)) ∧ Vd.hasLs (l ++ m) = (Vd.hasLs l || Vd.hasLs m) ∧ Vd.hasDs (l ++ m) = (Vd.hasDs l || Vd.hasDs m) := by
    intro l m
    induction l with
    | nil => exact ⟨⟨fun h => ⟨trivial, h⟩, fun h => h.2⟩, by show Vd.szs m = 0 + Vd.szs m; omega, by show PyData.depthAll (Vd.pds m) = max (PyData.depthAll []) _; simp [PyData.depthAll], rfl, rfl⟩
    | cons d r ih =>
      obtain ⟨i1, i2, i3, i4, i5⟩ := ih
      refine ⟨⟨fun h => ⟨⟨h.1, (i1.mp h.2).1⟩, (i1.mp h.2).2⟩, fun h => ⟨h.1.1, i1.mpr ⟨h.1.2, h.2⟩⟩⟩, ?_, ?_, ?_, ?_⟩
      · show d.sz + 4 + Vd.szs (r ++ m) = d.sz + 4 + Vd.szs r + Vd.szs m
        omega
      · show PyData.depthAll (d.pd :: Vd.pds (r ++ m)) = max (PyData.depthAll (d.pd :: Vd.pds r)) _
        simp only [PyData.depthAll]
        omega
      · show (d.hasL || Vd.hasLs (r ++ m)) = ((d.hasL || Vd.hasLs r) || Vd.hasLs m)
        rw [i4, Bool.or_assoc]
      · show (d.hasD || Vd.hasDs (r ++ m)) = ((d.hasD || Vd.hasDs r) || Vd.hasDs m)
        rw [i5, Bool.or_assoc]
  obtain ⟨p1, p2, p3, p4, p5⟩ := all pre fun d hd => h1 d (List.mem_append_left _ hd)
  obtain ⟨q1, q2, q3, q4, q5⟩ := all post fun d hd => h1 d (List.mem_append_right _ hd)
  obtain ⟨a1, a2, a3, a4, a5⟩ := app (pre ++ [e]) post
  obtain ⟨b1, b2, b3, b4, b5⟩ := app pre [e]
  have e2 : Vd.szs [e] = e.sz + 4 := rfl
  have e3 : PyData.depthAll (Vd.pds [e]) = e.pd.depth := by show PyData.depthAll [e.pd] = _; simp [PyData.depthAll]
  have e4 : Vd.hasLs [e] = e.hasL := by show (e.hasL || false) = _; rw [Bool.or_false]
  have e5 : Vd.hasDs [e] = e.hasD := by show (e.hasD || false) = _; rw [Bool.or_false]
  refine ⟨a1.mpr ⟨b1.mpr ⟨p1, he.fi, trivial⟩, q1⟩, ?_, ?_, ?_⟩
  · show 8 + Vd.szs (pre ++ [e] ++ post) ≤ _
    have := he.sz
    rw [a2, b2, e2, List.length_append, Nat.add_mul]
    omega
  · show (PyData.tuple (Vd.pds (pre ++ [e] ++ post))).depth ≤ p + 1
    have := he.dep
    simp only [PyData.depth]
    rw [a3, b3, e3]
    omega
  · rcases he.or_ with o | o
    · refine .inl ?_
      show Vd.hasLs (pre ++ [e] ++ post) = false
      rw [a4, b4, e4, p4, q4, o]; rfl
    · refine .inr ?_
      show Vd.hasDs (pre ++ [e] ++ post) = false
      rw [a5, b5, e5, p5, q5, o]; rfl
/-- a tree: its parts, their sizes -/
def Tr.Pa (T : Tr) : Prop := T.vd.Tp (5000 * T.lv - 200) T.dp ∧ ∃ w x y, T.vd = .tup [.str w, x, y] ∧ (Vd.str w).Tp 45000 (T.dp - 1) ∧ x.Tp (5000 * T.lv) (T.dp - 1) ∧ y.Tp (5000 * T.lv) (T.dp - 1)
theorem Tr.pa2 {a b : Tr} {w : Str} (hw : (Vd.str w).Tp 108 0) (p : a.vd.Tp (5000 * a.lv - 200) a.dp) (q : b.vd.Tp (5000 * b.lv - 200) b.dp) :
    (Vd.tup [.str w, a.vd, b.vd]).Tp (5000 * (a.lv + b.lv) - 200) (max a.dp b.dp + 1) ∧ (Vd.str w).Tp 45000 (max a.dp b.dp) ∧ a.vd.Tp (5000 * (a.lv + b.lv)) (max a.dp b.dp) ∧ b.vd.Tp (5000 * (a.lv + b.lv)) (max a.dp b.dp) := by
  have := a.lv_pos
  have := b.lv_pos
  have h1 : max a.dp b.dp ≥ a.dp := by omega
  have h2 : max a.dp b.dp ≥ b.dp := by omega
  generalize max a.dp b.dp = m at h1 h2 ⊢
  have r := Vd.Tp.tup3 (hw.le (Nat.le_refl _) (Nat.zero_le m)) (p.le (Nat.le_refl _) h1) (q.le (Nat.le_refl _) h2)
  exact ⟨r.le (by omega) (Nat.le_refl _), hw.le (by omega) (Nat.zero_le _), p.le (by omega) h1, q.le (by omega) h2⟩
theorem Tr.parts : ∀ {T : Tr}, T.ok → T.Pa
  | .at t q, h => by
    obtain ⟨h1, h2, h3, h4⟩ := h
    have w := Vd.Tp.text (x := "at") (by decide) (by decide +kernel)
    have x := Vd.Tp.num (i := t) (by omega)
    have y := Vd.Tp.num (i := q) (by omega)
    exact ⟨(w.tup3 x y).le (by show _ ≤ 5000 * 1 - 200; omega) (by show _ ≤ 1; omega), _, _, _, rfl, w.le (by omega) (Nat.zero_le _), x.le (by show _ ≤ 5000 * 1; omega) (Nat.zero_le _), y.le (by show _ ≤ 5000 * 1; omega) (Nat.zero_le _)⟩
  | .or a b, h => by
    obtain ⟨r1, r2, r3, r4⟩ := Tr.pa2 (Vd.Tp.text (x := "or") (by decide) (by decide +kernel)) (Tr.parts (T := a) h.1).1 (Tr.parts (T := b) h.2).1
    exact ⟨r1, _, _, _, rfl, r2, r3, r4⟩
  | .and a b, h => by
    obtain ⟨r1, r2, r3, r4⟩ := Tr.pa2 (Vd.Tp.text (x := "and") (by decide) (by decide +kernel)) (Tr.parts (T := a) h.1).1 (Tr.parts (T := b) h.2).1
    exact ⟨r1, _, _, _, rfl, r2, r3, r4⟩
section
variable {K : PySem.W.Frag} {C : Cs} {vs : List V} {H H' G G' : Hp} {Q : VK} {E : XK} {n : Nat} {d e : Vd} {ds : List Vd} {v : V} {xs : List V} {a b l : Addr} {P : Addr → Prop}
theorem TrAt.va : ∀ {T : Tr} {v : V}, TrAt K H v T → VA K C P H T.vd v
  | .at t q, _, ⟨a, e, h⟩ => ⟨a, _, e, h, _, _, rfl, rfl, _, _, rfl, rfl, _, _, rfl, rfl, rfl⟩
  | .or x y, _, ⟨a, u, w, e, h, h1, h2⟩ => ⟨a, _, e, h, _, _, rfl, rfl, _, _, rfl, TrAt.va h1, _, _, rfl, TrAt.va h2, rfl⟩
  | .and x y, _, ⟨a, u, w, e, h, h1, h2⟩ => ⟨a, _, e, h, _, _, rfl, rfl, _, _, rfl, TrAt.va h1, _, _, rfl, TrAt.va h2, rfl⟩
/-! ### Rules and at_least of any values -/
def sp_Rule___init__X (K : PySem.W.Frag) (C : Cs) : Sp := fun vs H Q E => ∃ p dx u d P, vs = [.ref p, u] ∧ H p = some (.ins C.Rule dx []) ∧ VA K C P H d u ∧ Fx19 K C ∧
  (d.atoms < 7 → ∀ H', H' p = some (.ins C.Rule dx [("_tree", u)]) → (∀ c o, H c = some o → c ≠ p → H' c = some o) → Q .non H') ∧ (¬ d.atoms < 7 → LetsW C 0 H E)
def t_Rule___init__X (K : PySem.W.Frag) (C : Cs) (E : XK) : TS :=
  (tSeq (tIfS (tNot (tB (tCall (sp_Tree19 K C) [] E0 (tCons (tVar 1) tNil)))) (tRaise C.Wrong (rOneI K C.Wrong "place") (tCons (tC (.int 0)) tNil) E) tNext)
    (sFld K (tVar 0) (tVar 1) "_tree"))
theorem ln_Rule___init__X (h : sp_Rule___init__X K C vs H Q E) : vs.length = 2 := by obtain ⟨_, _, _, _, _, rfl, _⟩ := h; rfl
theorem LetsW.same {m : Int} (h : LetsW C m H E) (s : Same H G) : LetsW C m G E := fun d H' hd s2 e => h d H' (s.free hd) (s.trans s2) e
theorem rd_Rule___init__X (h : sp_Rule___init__X K C vs H Q E) : t_Rule___init__X K C E (EndsOf Q) (start ["", ""] vs) H := by
  obtain ⟨p, dx, u, d, P, rfl, hp, hd, fo, k, kE⟩ := h
  refine ⟨_, rfl, u, d, P, rfl, hd, fo, fun H1 s => ⟨_, rfl, ?_⟩⟩
  by_cases c : d.atoms < 7
  · rw [decide_eq_true c]
    refine ⟨_, rfl, _, rfl, p, _, dx, _, rfl, s _ _ hp, fo.ru.cl, fo.ru.no, by show 0 < 1000; decide, ?_⟩
    refine k c _ upd_same fun b o e n => ?_
    rw [upd_ne n]
    exact s b o e
  · rw [decide_eq_false c]
    exact made_err fo.wr.ox fo.wr.nf ((kE c).same s)
theorem weak_Rule___init__ (fo : Fx19 K C) (h : sp_Rule___init__ K C vs H Q E) : sp_Rule___init__X K C vs H Q E := by
  obtain ⟨p, dx, u, T, rfl, hp, hT, ok, l6, fx, k⟩ := h
  refine ⟨p, dx, u, T.vd, fun _ => False, rfl, hp, hT.va, fo, fun _ H' h1 h2 => k H' h1 h2, fun c => absurd ?_ c⟩
  rw [T.vd_atoms ok]
  omega
def sp_at_leastX (K : PySem.W.Frag) (C : Cs) : Sp := fun vs H Q E => ∃ x y d e P, vs = [x, y] ∧ VA K C P H d x ∧ VA K C P H e y ∧ Fx19 K C ∧ (∀ t, d = .int t → t ≤ 10 ^ 50) ∧
  (∀ t q, d = .int t → e = .int q → 1 ≤ t → 1 ≤ q → q ≤ 6 → ∀ r H', H r = none → Same H H' → RuleAt K C H' (.ref r) (.at t q) → Q (.ref r) H') ∧
  (d.num none = false → LetsW C 0 H E) ∧ (d.num none = true → e.num (some 6) = false → LetsW C 1 H E)
def t_at_leastX (K : PySem.W.Frag) (C : Cs) (E : XK) : TS :=
  (tSeq (tIfS (tNot (tB (tCall (sp_IsNum K) [] E0 (tCons (tC (.int 1)) (tCons (tVar 0) tNil))))) (tRaise C.Wrong (rOneI K C.Wrong "place") (tCons (tC (.int 0)) tNil) E) tNext)
    (tSeq (tIfS (tNot (tB (tCall (sp_By19 K C) [] E0 (tCons (tVar 1) tNil)))) (tRaise C.Wrong (rOneI K C.Wrong "place") (tCons (tC (.int 1)) tNil) E) tNext)
    (tRet (tMake C.Rule (sp_Rule___init__ K C) [] E0 (tCons (tTup (tCons (tC (.str "at")) (tCons (tVar 0) (tCons (tVar 1) tNil)))) tNil)))))
theorem ln_at_leastX (h : sp_at_leastX K C vs H Q E) : vs.length = 2 := by obtain ⟨_, _, _, _, _, rfl, _⟩ := h; rfl
theorem rd_at_leastX (h : sp_at_leastX K C vs H Q E) : t_at_leastX K C E (EndsOf Q) (start ["", ""] vs) H := by
  obtain ⟨x, y, d, e, P, rfl, hd, he, fo, big, k, k0, k1⟩ := h
  have no0 : d.num none = false → ∀ D : Ends, tRaise C.Wrong (rOneI K C.Wrong "place") (tCons (tC (.int 0)) tNil) E D [some x, some y] H := fun c D => made_err fo.wr.ox fo.wr.nf (k0 c)
  rcases hd.num fo with ⟨t, rfl, rfl⟩ | ⟨nx, ex⟩
  · refine ⟨_, rfl, 1, _, rfl, .inl ⟨t, rfl, _, rfl, ?_⟩⟩
    rw [Vd.numN] at no0 k1
    by_cases c1 : 1 ≤ t
    · rw [decide_eq_true c1] at k1 ⊢
      have no1 : e.num (some 6) = false → ∀ D : Ends, tRaise C.Wrong (rOneI K C.Wrong "place") (tCons (tC (.int 1)) tNil) E D [some (.int t), some y] H := fun c D => made_err fo.wr.ox fo.wr.nf (k1 rfl c)
      refine ⟨_, rfl, _, e, P, rfl, he, fo, _, rfl, ?_⟩
      rcases he.num fo with ⟨q, rfl, rfl⟩ | ⟨ny, ey⟩
      · rw [Vd.num6] at no1 ⊢
        by_cases c2 : 1 ≤ q ∧ q ≤ 6
        · rw [decide_eq_true c2.1, decide_eq_true c2.2]
          refine ⟨_, rfl, _, rfl, two_fit.2.2.1, fun p hp => ?_⟩
          have s := same_new (o := .tup [.str "at", .int t, .int q]) hp
          exact make_rule (t := tNil) (σ := []) (T := .at t q) fo.ru ⟨c1, big t rfl, c2.1, c2.2⟩ (by show 1 ≤ 6; decide) ⟨p, rfl, SqT.of upd_same⟩ fun r H' hx s2 R => k t q rfl rfl c1 c2.1 c2.2 r H' (s.free hx) (s.trans s2) R
        · have z : (decide (1 ≤ q) && decide (q ≤ 6)) = false := by
            rw [Bool.and_eq_false_iff]
            by_cases c3 : 1 ≤ q
            · exact .inr (decide_eq_false fun z => c2 ⟨c3, z⟩)
            · exact .inl (decide_eq_false c3)
          rw [z]
          exact no1 z (EndsOf Q)
      · rw [ey]
        exact no1 (ey _) (EndsOf Q)
    · rw [decide_eq_false c1]
      exact no0 (decide_eq_false c1) (EndsOf Q)
  · exact ⟨_, rfl, 1, _, rfl, .inr ⟨nx, false, rfl, no0 (ex _) (EndsOf Q)⟩⟩
theorem weak_at_least (fo : Fx19 K C) (h : sp_at_least K C vs H Q E) : sp_at_leastX K C vs H Q E := by
  obtain ⟨t, q, rfl, ⟨o1, o2, o3, o4⟩, fx, k⟩ := h
  refine ⟨_, _, .int t, .int q, fun _ => False, rfl, rfl, rfl, fo, fun t' e => by cases e; exact o2, fun t' q' e1 e2 _ _ _ => by cases e1; cases e2; exact k, fun z => ?_, fun _ z => ?_⟩
  · rw [Vd.numN, decide_eq_true o1] at z
    cases z
  · rw [Vd.num6, decide_eq_true o3, decide_eq_true o4] at z
    cases z
/-! ### the law's own look -/
theorem Vd.numS {i m : Int} : (Vd.int i).num (some m) = (decide (1 ≤ i) && decide (i ≤ m)) := rfl
def optV : Option Int → V
  | none => .non
  | some m => .int m
def sp_law_is_number (K : PySem.W.Frag) (C : Cs) : Sp := fun vs H Q _ => ∃ x d P m, vs = [x, optV m] ∧ VA K C P H d x ∧ Fx19 K C ∧ Q (.bl (d.num m)) H
def t_law_is_number (K : PySem.W.Frag) : TS :=
  (tSeq (tIfS (tOr (tNot (tB (tCB (rIsi K) (tCons (tVar 0) (tCons (tC (.ty "int")) tNil))))) (tOr (tB (tCB (rIsi K) (tCons (tVar 0) (tCons (tC (.ty "bool")) tNil)))) (tTest (tOp (rLtI) (tVar 0) (tC (.int 1)))))) (tRet (tC (.bl false))) tNext)
    (tRet (tOrV (tOp (rIsNn) (tVar 1) (tC .non)) (tOp (rLeU) (tVar 0) (tVar 1)))))
theorem ln_law_is_number (h : sp_law_is_number K C vs H Q E) : vs.length = 2 := by obtain ⟨_, _, _, _, rfl, _⟩ := h; rfl
theorem rd_law_is_number (h : sp_law_is_number K C vs H Q E) : t_law_is_number K (EndsOf Q) (start ["", ""] vs) H := by
  obtain ⟨x, d, P, m, rfl, hd, fo, k⟩ := h
  rcases hd.num fo with ⟨i, rfl, rfl⟩ | ⟨⟨c, rfl⟩ | ⟨t, ty, e⟩, ex⟩
  · refine ⟨_, rfl, _, _, _, _, true, rfl, .ty _, .base (.int i), kit_ii, true, rfl, ?_⟩
    refine ⟨_, rfl, _, _, _, _, false, rfl, .ty _, .base (.int i), kit_ib, false, rfl, ?_⟩
    refine ⟨_, rfl, _, _, rfl, rfl, _, rfl, ?_⟩
    refine ifD (fun c => ?_) (fun c => ?_)
    · have z : decide (1 ≤ i) = false := decide_eq_false (by omega)
      cases m with
      | none => rw [Vd.numN, z] at k; exact k
      | some m => rw [Vd.numS, z] at k; exact k
    · have z : decide (1 ≤ i) = true := decide_eq_true (by omega)
      cases m with
      | none => rw [Vd.numN, z] at k; exact ⟨_, rfl, rfl, _, rfl, iteT' rfl k⟩
      | some m => rw [Vd.numS, z] at k; exact ⟨_, rfl, rfl, _, rfl, iteF' (decide_eq_false (by intro z; cases z)) ⟨_, rfl, _, rfl, .inl ⟨_, _, rfl, rfl, k⟩⟩⟩
  · rw [ex] at k
    refine ⟨_, rfl, _, _, _, _, true, rfl, .ty _, .base (.bl c), kit_bi, true, rfl, ?_⟩
    exact ⟨_, rfl, _, _, _, _, true, rfl, .ty _, .base (.bl c), kit_same, true, rfl, k⟩
  · rw [ex] at k
    exact ⟨_, rfl, _, _, _, _, false, rfl, .ty _, ty, e, false, rfl, k⟩
def sp_law_atoms (K : PySem.W.Frag) (C : Cs) (n : Nat) : Sp := fun vs H Q _ => ∃ x d P, vs = [x] ∧ VA K C P H d x ∧ Fx19 K C ∧ d.pd.depth < n ∧ ∀ H', Same H H' → Q (.int d.atoms) H'
def t_law_atoms (K : PySem.W.Frag) (C : Cs) (n : Nat) : TS :=
  (tSeq (tIfS (tOr (tNot (tB (tCB (rIsi K) (tCons (tVar 0) (tCons (tC (.ty "tuple")) tNil))))) (tOr (tTest (tOp (rNeU K) (tCB (rLenU K) (tCons (tVar 0) tNil)) (tC (.int 3)))) (tNot (tB (tCB (rIsi K) (tCons (tOp (rIx K) (tVar 0) (tC (.int 0))) (tCons (tC (.ty "str")) tNil))))))) (tRet (tC (.int 100))) tNext)
    (tSeq (tIfS (tTest (tOp (rInU K) (tOp (rIx K) (tVar 0) (tC (.int 0))) (tTup (tCons (tC (.str "or")) (tCons (tC (.str "and")) tNil))))) (tRet (tOp (rAddU K) (tCall (sp_law_atoms K C n) [] E0 (tCons (tOp (rIx K) (tVar 0) (tC (.int 1))) tNil)) (tCall (sp_law_atoms K C n) [] E0 (tCons (tOp (rIx K) (tVar 0) (tC (.int 2))) tNil)))) tNext)
    (tSeq (tAsg (tAndV (tOp (rEqU K) (tOp (rIx K) (tVar 0) (tC (.int 0))) (tC (.str "at"))) (tAndV (tCall (sp_law_is_number K C) [] E0 (tCons (tOp (rIx K) (tVar 0) (tC (.int 1))) (tCons (tC .non) tNil))) (tCall (sp_law_is_number K C) [] E0 (tCons (tOp (rIx K) (tVar 0) (tC (.int 2))) (tCons (tC (.int 6)) tNil))))) (gName 1))
    (tRet (tIf (tB (tVar 1)) (tC (.int 1)) (tC (.int 100)))))))
theorem ln_law_atoms (h : sp_law_atoms K C n vs H Q E) : vs.length = 1 := by obtain ⟨_, _, _, rfl, _⟩ := h; rfl
theorem no_law_atoms (h : sp_law_atoms K C 0 vs H Q E) : False := by
  obtain ⟨_, _, _, _, _, _, h, _⟩ := h
  omega
theorem rd_law_atoms (h : sp_law_atoms K C (n + 1) vs H Q E) : t_law_atoms K C n (EndsOf Q) (start ["", ""] vs) H := by
  obtain ⟨v, d, P, rfl, hd, fo, dep, k⟩ := h
  rcases hd.shape fo with ⟨w, x, y, a, u, z, rfl, rfl, s, hx, hy⟩ | ⟨no, ns⟩
  · refine ⟨_, rfl, _, _, _, _, true, rfl, .ty _, sqt_ty s, kit_tt, true, rfl, ?_⟩
    refine ⟨_, rfl, .inl ⟨_, 3, rfl, .inr ⟨_, s, rfl⟩, .inl ⟨rfl, _, rfl, ?_⟩⟩⟩
    refine iteF' (by decide) ?_
    refine ⟨_, rfl, .inr (.inl ⟨a, _, 0, _, rfl, rfl, s, rfl, ?_⟩)⟩
    refine ⟨_, _, _, _, true, rfl, .ty _, .base (.str _), kit_ss, true, rfl, ?_⟩
    refine ⟨_, rfl, .inr (.inl ⟨a, _, 0, _, rfl, rfl, s, rfl, ?_⟩)⟩
    refine ⟨two_fit.2.1, fun p hp => ?_⟩
    have s1 := same_new (o := .tup [.str "or", .str "and"]) hp
    refine .inl ⟨p, _, rfl, .inr (SqT.of upd_same), rfl, rfl, _, rfl, ?_⟩
    have hx := hx.same s1
    have hy := hy.same s1
    have s := Tups.same (K := K) s1 _ _ s
    have kk := fun H' (q : Same (upd H p (.tup [.str "or", .str "and"])) H') => k H' (s1.trans q)
    clear k
    generalize upd H p (.tup [.str "or", .str "and"]) = G at s1 hx hy s kk
    have ef : (Vd.tup [.str w, x, y]).fork = if w = "or" ∨ w = "and" then some (x, y) else none := rfl
    have dd : (Vd.tup [.str w, x, y]).pd.depth = max x.pd.depth y.pd.depth + 1 := by
      show (PyData.tuple [.str w, x.pd, y.pd]).depth = _
      simp only [PyData.depth, PyData.depthAll]
      omega
    rw [dd] at dep
    show if inV (V.str w) [V.str "or", V.str "and"] = true then _ else _
    rw [inV2]
    refine ifD (fun c => ?_) (fun c => ?_)
    · rw [if_pos c] at ef
      refine ⟨_, rfl, .inr (.inl ⟨a, _, 1, _, rfl, rfl, s, rfl, ?_⟩)⟩
      refine ⟨_, x, P, rfl, hx, fo, by omega, fun G1 g1 => ?_⟩
      refine ⟨_, rfl, .inr (.inl ⟨a, _, 2, _, rfl, rfl, Tups.same (K := K) g1 _ _ s, rfl, ?_⟩)⟩
      refine ⟨_, y, P, rfl, hy.same g1, fo, by omega, fun G2 g2 => .inl ⟨_, _, rfl, rfl, ?_⟩⟩
      have kk := kk G2 (g1.trans g2)
      rw [Vd.atoms_fork ef, Int.natCast_add] at kk
      exact kk
    · rw [if_neg c] at ef
      have kk := kk G (Same.refl G)
      rw [Vd.atoms_no ef, Vd.leaf3] at kk
      refine ⟨_, rfl, .inr (.inl ⟨a, _, 0, _, rfl, rfl, s, rfl, ?_⟩)⟩
      refine .inl ⟨rfl, _, rfl, ?_⟩
      refine ifS (fun c1 => ?_) (fun c1 => ?_)
      · rw [decide_eq_true c1] at kk
        refine ⟨_, rfl, .inr (.inl ⟨a, _, 1, _, rfl, rfl, s, rfl, ?_⟩)⟩
        refine ⟨_, x, P, none, rfl, hx, fo, _, rfl, ?_⟩
        cases q1 : x.num none with
        | false =>
          rw [q1] at kk
          exact ⟨_, rfl, _, rfl, kk⟩
        | true =>
          rw [q1] at kk
          refine ⟨_, rfl, .inr (.inl ⟨a, _, 2, _, rfl, rfl, s, rfl, ?_⟩)⟩
          refine ⟨_, y, P, some 6, rfl, hy, fo, ?_⟩
          cases q2 : y.num (some 6) with
          | false => rw [q2] at kk; exact ⟨_, rfl, _, rfl, kk⟩
          | true => rw [q2] at kk; exact ⟨_, rfl, _, rfl, kk⟩
      · rw [decide_eq_false c1] at kk
        exact ⟨_, rfl, _, rfl, kk⟩
  · have kk := k H (Same.refl H)
    rw [Vd.atoms_no (Vd.fork_no no), Vd.leaf_no no] at kk
    rcases ns with ⟨t, ty, kt⟩ | ⟨a, xs, rfl, s, ne⟩ | ⟨a, x0, x1, x2, t, rfl, s, ty, kt⟩
    · exact ⟨_, rfl, _, _, _, _, false, rfl, .ty _, ty, kt, false, rfl, kk⟩
    · refine ⟨_, rfl, _, _, _, _, true, rfl, .ty _, sqt_ty s, kit_tt, true, rfl, ?_⟩
      refine ⟨_, rfl, .inl ⟨_, xs.length, rfl, .inr ⟨_, s, rfl⟩, .inl ⟨rfl, _, rfl, ?_⟩⟩⟩
      refine iteT' ?_ kk
      rw [decide_eq_false fun z => ne (by have := V.int.inj z; omega)]
      rfl
    · refine ⟨_, rfl, _, _, _, _, true, rfl, .ty _, sqt_ty s, kit_tt, true, rfl, ?_⟩
      refine ⟨_, rfl, .inl ⟨_, 3, rfl, .inr ⟨_, s, rfl⟩, .inl ⟨rfl, _, rfl, ?_⟩⟩⟩
      refine iteF' (by decide) ?_
      refine ⟨_, rfl, .inr (.inl ⟨a, _, 0, _, rfl, rfl, s, rfl, ?_⟩)⟩
      exact ⟨_, _, _, _, false, rfl, .ty _, ty, kt, false, rfl, kk⟩
end
end Pk
set_option Elab.async false
set_option linter.all false
set_option maxRecDepth 100000
set_option maxHeartbeats 2000000
namespace Pk
open PySem PySem.Spec L2 PyProof.Rows
/-- a def with a default that may let an error out, called in a try's body -/
theorem pe_calDS {X : Cx} {CX : CXT} {k j : Nat} {x : Str} {ps : List Str} {ds : List Value} {dvs : List V} {sp : Sp} {E : L2.St → XK} {p pos : Pos} {e : Expr} {es : List Expr} {t : TA} (F : Cal X.prog X.w X.K X.mg X.base CX k x ps ds sp) (hd : Vals dvs ds) (hr : Room j X.A) (hx : ∀ σ, PassesAt CX X σ (E σ)) (ha : PA X (e :: es) t) (hj : k ≤ j := by first | decide | omega) (hg : Gl X x := by rfl)
    (h1 : (x == ("__debug__" : Str)) = false := by decide) (h2 : starEach (e :: es) X.env = (false, eval e X.env) :: starEach es X.env := by rfl) (h3 : (backTo pos (starEach es X.env)).any (·.1) = false := by rfl) :
    PE X (.Call (.Name x p) (e :: es) [] pos) (tCallSD sp dvs E t) := by
  obtain ⟨f, fd, F, hm, hk, hb⟩ := F.ex
  exact pe_callSD F (hr.mono hj) hg hm hk hb hd hx ha h1 h2 h3
/-- a def that may let an error out, called in a try's body -/
theorem pe_calS {X : Cx} {CX : CXT} {k j : Nat} {x : Str} {ps : List Str} {sp : Sp} {E : L2.St → XK} {p pos : Pos} {e : Expr} {es : List Expr} {t : TA} (F : Cal X.prog X.w X.K X.mg X.base CX k x ps [] sp) (hr : Room j X.A) (hx : ∀ σ, PassesAt CX X σ (E σ)) (ha : PA X (e :: es) t) (hj : k ≤ j := by first | decide | omega) (hg : Gl X x := by rfl)
    (h1 : (x == ("__debug__" : Str)) = false := by decide) (h2 : starEach (e :: es) X.env = (false, eval e X.env) :: starEach es X.env := by rfl) (h3 : (backTo pos (starEach es X.env)).any (·.1) = false := by rfl) :
    PE X (.Call (.Name x p) (e :: es) [] pos) (tCallS sp E t) := by
  obtain ⟨f, fd, F, hm, hk, hb⟩ := F.ex
  exact pe_callS F (hr.mono hj) hg hm hk hb hx ha h1 h2 h3
section
variable {K : PySem.W.Frag} {C : Cs} {vs : List V} {H H' G G' : Hp} {Q : VK} {E : XK} {n : Nat} {d e : Vd} {ds : List Vd} {v : V} {xs : List V} {a b l : Addr}
/-! ### odd values -/
def sp_law_odd (K : PySem.W.Frag) (C : Cs) : Sp := fun vs H Q _ => ∃ b l P, vs = [.ref b] ∧ Bag H b l ∧ P b ∧ (∀ a, P a → H a ≠ none) ∧ ∀ v d H', VA K C P H' d v → d.Sp 5000 1 → Bag H' b l → Kp b H H' → Q v H'
def t_law_odd (K : PySem.W.Frag) : TS :=
  (tSeq (tAsg (tLst (tCons (tC (.int 0)) (tCons (tUn (rU fun i => .int (-i)) (tC (.int 1))) (tCons (tC (.bl true)) (tCons (tC .non) (tCons (tC (.str "1")) (tCons (tC (.int 7)) (tCons (tC (.int 6)) (tCons (tTup (tCons (tC (.int 1)) tNil)) (tCons (tLst (tCons (tC (.int 2)) tNil)) (tCons (tOp (rPowI) (tC (.int 10)) (tC (.int 30))) (tCons (tC (.bl false)) (tCons (tC (.str "at")) (tCons (tTup (tCons (tC (.str "at")) (tCons (tC (.int 1)) (tCons (tC (.int 1)) tNil)))) (tCons tDNewK tNil))))))))))))))) (gName 1))
    (tRet (tOp (rIx K) (tVar 1) (tCall (sp_law_take K) [] E0 (tCons (tVar 0) (tCons (tC (.int 14)) tNil))))))
theorem ln_law_odd (h : sp_law_odd K C vs H Q E) : vs.length = 1 := by obtain ⟨_, _, _, rfl, _⟩ := h; rfl
abbrev Is (b : Addr) : Addr → Prop := fun a => a = b
theorem Is.old (B : Bag H b l) : ∀ a, Is b a → H a ≠ none := fun a e z => by
  obtain ⟨xs, h⟩ := B.at
  rw [show a = b from e, h] at z
  cases z
theorem one_at : (Tr.at 1 1).ok := ⟨by decide, by decide, by decide, by decide⟩
theorem odd_pick {P : Addr → Prop} {p1 p2 p3 p4 : Addr} {j : Int} (j0 : 0 ≤ j) (j1 : j < 14) (e1 : SqT K G p1 [.int 1]) (e2 : G p2 = some (.lst [.int 2])) (n2 : ¬ P p2) (e3 : SqT K G p3 [.str "at", .int 1, .int 1]) (e4 : G p4 = some (.dK [])) :
    ∃ z d, atI [V.int 0, .int (-1), .bl true, .non, .str "1", .int 7, .int 6, .ref p1, .ref p2, .int (10 ^ (30 : Int).toNat), .bl false, .str "at", .ref p3, .ref p4] j = some z ∧ VA K C P G d z ∧ d.Sp 5000 1 := by
  have num : ∀ i : Int, i.natAbs ≤ 10 ^ 50 → (Vd.int i).Sp 5000 1 := fun i h => (Vd.Tp.num h).sp.le (by decide) (by decide)
  have txt : ∀ x : Str, x.length ≤ 10 → PyData.strOk x = true → (Vd.str x).Sp 5000 1 := fun x h g => (Vd.Tp.text h g).sp.le (by decide) (by decide)
  have bool : ∀ c : Bool, (Vd.bl c).Sp 5000 1 := fun c => ⟨trivial, by show 8 ≤ 5000; decide, by simp [Vd.pd, PyData.depth], .inl rfl⟩
  rcases (by omega : j = 0 ∨ j = 1 ∨ j = 2 ∨ j = 3 ∨ j = 4 ∨ j = 5 ∨ j = 6 ∨ j = 7 ∨ j = 8 ∨ j = 9 ∨ j = 10 ∨ j = 11 ∨ j = 12 ∨ j = 13) with rfl | rfl | rfl | rfl | rfl | rfl | rfl | rfl | rfl | rfl | rfl | rfl | rfl | rfl
  · exact ⟨_, .int 0, rfl, rfl, num _ (by decide)⟩
  · exact ⟨_, .int (-1), rfl, rfl, num _ (by decide)⟩
  · exact ⟨_, .bl true, rfl, rfl, bool _⟩
  · exact ⟨_, .non, rfl, rfl, trivial, by show 8 ≤ 5000; decide, by simp [Vd.pd, PyData.depth], .inl rfl⟩
  · exact ⟨_, .str "1", rfl, rfl, txt _ (by decide) (by decide +kernel)⟩
  · exact ⟨_, .int 7, rfl, rfl, num _ (by decide)⟩
  · exact ⟨_, .int 6, rfl, rfl, num _ (by decide)⟩
  · refine ⟨_, .tup [.int 1], rfl, ⟨p1, _, rfl, e1, _, _, rfl, rfl, rfl⟩, ⟨by show (1 : Int).natAbs ≤ 10 ^ 50; decide, trivial⟩, by show 8 + (2000 + 4 + 0) ≤ 5000; decide, ?_, .inl rfl⟩
    show (PyData.tuple [.int 1]).depth ≤ 1
    simp [PyData.depth, PyData.depthAll]
  · refine ⟨_, .lst [.int 2], rfl, ⟨p2, _, rfl, e2, n2, _, _, rfl, rfl, rfl⟩, ⟨by show (2 : Int).natAbs ≤ 10 ^ 50; decide, trivial⟩, by show 8 + (2000 + 4 + 0) ≤ 5000; decide, ?_, .inr rfl⟩
    show (PyData.list [.int 2]).depth ≤ 1
    simp [PyData.depth, PyData.depthAll]
  · exact ⟨_, .int (10 ^ (30 : Int).toNat), rfl, rfl, num _ (by decide +kernel)⟩
  · exact ⟨_, .bl false, rfl, rfl, bool _⟩
  · exact ⟨_, .str "at", rfl, rfl, txt _ (by decide) (by decide +kernel)⟩
  · have t : TrAt K G (.ref p3) (.at 1 1) := ⟨p3, rfl, e3⟩
    exact ⟨_, (Tr.at 1 1).vd, rfl, t.va, (Tr.parts one_at).1.sp.le (by decide) (by decide)⟩
  · exact ⟨_, .dic, rfl, ⟨p4, rfl, e4⟩, trivial, by show 8 ≤ 5000; decide, by show (PyData.dict []).depth ≤ 1; decide +kernel, .inl rfl⟩
theorem rd_law_odd (h : sp_law_odd K C vs H Q E) : t_law_odd K (EndsOf Q) (start ["", ""] vs) H := by
  obtain ⟨b, l, P, rfl, B, pb, old, k⟩ := h
  refine ⟨1, rfl, two_fit.1, fun p1 h1 => ?_⟩
  have s1 := same_new (o := .tup [.int 1]) h1
  have e1 : (upd H p1 (.tup [.int 1])) p1 = some (.tup [.int 1]) := upd_same
  generalize upd H p1 (.tup [.int 1]) = H1 at s1 e1 ⊢
  refine ⟨two_fit.1, fun p2 h2 => ?_⟩
  have s2 := same_new (o := .lst [.int 2]) h2
  have e2 : (upd H1 p2 (.lst [.int 2])) p2 = some (.lst [.int 2]) := upd_same
  have n2 : ¬ P p2 := fun z => old p2 z (s1.free h2)
  generalize upd H1 p2 (.lst [.int 2]) = H2 at s2 e2 ⊢
  refine ⟨_, _, rfl, rfl, ⟨by decide, by decide, by decide⟩, two_fit.2.2.1, fun p3 h3 => ?_⟩
  have s3 := same_new (o := .tup [.str "at", .int 1, .int 1]) h3
  have e3 : (upd H2 p3 (.tup [.str "at", .int 1, .int 1])) p3 = some (.tup [.str "at", .int 1, .int 1]) := upd_same
  generalize upd H2 p3 (.tup [.str "at", .int 1, .int 1]) = H3 at s3 e3 ⊢
  intro p4 h4
  have s4 := same_new (o := .dK []) h4
  have e4 : (upd H3 p4 (.dK [])) p4 = some (.dK []) := upd_same
  generalize upd H3 p4 (.dK []) = H4 at s4 e4 ⊢
  refine ⟨Nat.le_of_lt (small1000 (show 14 ≤ 1000 by decide)), fun p hp => ?_⟩
  have s5 := same_new (o := .lst [V.int 0, .int (-1), .bl true, .non, .str "1", .int 7, .int 6, .ref p1, .ref p2, .int (10 ^ (30 : Int).toNat), .bl false, .str "at", .ref p3, .ref p4]) hp
  have s := (s1.trans (s2.trans (s3.trans (s4.trans s5))))
  have B5 := B.same s
  refine ⟨_, rfl, _, rfl, b, l, 14, rfl, B5, by decide, by decide, fun j G j0 j1 B6 k6 => ?_⟩
  obtain ⟨z, d, hz, va, q⟩ := odd_pick (K := K) (C := C) (P := P) j0 j1 (SqT.of (s5 _ _ (s4 _ _ (s3 _ _ (s2 _ _ e1))))) (s5 _ _ (s4 _ _ (s3 _ _ e2))) n2 (SqT.of (s5 _ _ (s4 _ _ e3))) (s5 _ _ e4)
  have np := (B.same (s1.trans (s2.trans (s3.trans s4)))).nb hp
  exact .inl ⟨p, _, j, z, rfl, rfl, SqL.of (k6 _ _ upd_same np), hz, k z d _ (va.bag pb B5 k6) q B6 ((Kp.of s).trans k6)⟩
/-! ### spoilt trees -/
theorem cat_any {p q : Addr} {xs ys : List V} (ha : SqT K H p xs) (hb : SqT K H q ys) (few : xs.length + ys.length ≤ 1000) (k : ∀ r H', SqT K H' r (xs ++ ys) → Same H H' → Q (.ref r) H') : rAddU K (.ref p) (.ref q) H Q := by
  refine .inr (.inr (.inr ⟨p, q, xs, ys, rfl, rfl, ha, hb, Nat.le_of_lt (small1000 few), fun e => ?_, fun _ e => ?_, fun _ _ r hr => k r _ (SqT.of upd_same) (same_new hr)⟩))
  · subst e
    exact k q H hb (Same.refl H)
  · subst e
    exact k p H (by rw [List.append_nil]; exact ha) (Same.refl H)
theorem cut_to {xs : List V} {i : Nat} (ha : SqT K H a xs) (k : ∀ r H', SqT K H' r (xs.take i) → Same H H' → Q (.ref r) H') : rSlA K (.ref a) none (some (i : Int)) H Q := by
  have e := cutV_to xs i
  refine ⟨a, xs, rfl, ha, fun w => k a H ?_ (Same.refl H), fun _ r hr => k r _ (SqT.of (by rw [e]; exact upd_same)) (by rw [e]; exact same_new hr)⟩
  have e2 : cutV xs none (some (i : Int)) = xs := by
    unfold cutV
    rw [w.1, w.2, List.drop_zero, Nat.sub_zero, List.take_length]
  rw [← e, e2]
  exact ha
theorem cut_from {xs : List V} {i : Nat} (ha : SqT K H a xs) (k : ∀ r H', SqT K H' r (xs.drop i) → Same H H' → Q (.ref r) H') : rSlA K (.ref a) (some (i : Int)) none H Q := by
  have e := cutV_from xs i
  refine ⟨a, xs, rfl, ha, fun w => k a H ?_ (Same.refl H), fun _ r hr => k r _ (SqT.of (by rw [e]; exact upd_same)) (by rw [e]; exact same_new hr)⟩
  have e2 : cutV xs (some (i : Int)) none = xs := by
    unfold cutV
    rw [w.1, w.2, List.drop_zero, Nat.sub_zero, List.take_length]
  rw [← e, e2]
  exact ha
/-- a value put between two cuts of a tuple of three -/
theorem put_rest {P : Addr → Prop} {σ : L2.St} {tl : TO} {p1 : Addr} {i j s p n : Nat} {u : V} (hσ : σ[1]? = some (some (.ref a))) (hl : ∀ H R, R (some (j : Int)) H → tl σ H R) (ij : i ≤ j)
    (h1 : SqT K H p1 (xs.take i)) (ha : SqT K H a xs) (l3 : xs.length = 3) (al : VAs K C P H ds xs) (pl : ∀ d ∈ ds, d.Tp n p) (he : VA K C P H e u) (es : e.Sp s p)
    (k : ∀ w d H', VA K C P H' d w → d.Sp (8 + 3 * (n + 4) + (s + 4)) (p + 1) → Same H H' → Q w H') :
    ∀ q, H q = none → rAddU K (.ref p1) (.ref q) (upd H q (.tup [u])) fun x H1 => tSl (rSlA K) (tVar 1) tl tNoPart σ H1 fun y H2 => rAddU K x y H2 Q := by
  intro q hq
  have g1 := same_new (o := .tup [u]) hq
  refine cat_any (Tups.same g1 _ _ h1) (SqT.of upd_same) (by rw [List.length_take, List.length_singleton]; omega) fun r G2 hr g2 => ?_
  refine ⟨_, hσ, hl _ _ ?_⟩
  have g12 := g1.trans g2
  show rSlA K (V.ref a) (some (j : Int)) none G2 fun y H2 => rAddU K (.ref r) y H2 Q
  refine cut_from (i := j) (Tups.same g12 _ _ ha) fun r2 G3 hr2 g3 => ?_
  refine cat_any (Tups.same g3 _ _ hr) hr2 (by rw [List.length_append, List.length_take, List.length_drop, List.length_singleton]; omega) fun r3 G4 hr3 g4 => ?_
  have g := g12.trans (g3.trans g4)
  have ld := al.length
  refine k _ (.tup (ds.take i ++ [e] ++ ds.drop j)) G4 ⟨r3, _, rfl, hr3, VAs.app (VAs.app (VAs.take i (al.same g)) (VAs.one (he.same g))) (VAs.drop j (al.same g))⟩ ?_ g
  have few : (ds.take i ++ ds.drop j).length ≤ 3 := by
    rw [List.length_append, List.length_take, List.length_drop]
    omega
  refine (Vd.Sp.mix (pre := ds.take i) (post := ds.drop j) (n := n) es fun d hd => ?_).le ?_ (Nat.le_refl _)
  · rcases List.mem_append.mp hd with z | z
    · exact pl d (List.mem_of_mem_take z)
    · exact pl d (List.mem_of_mem_drop z)
  · have : (ds.take i ++ ds.drop j).length * (n + 4) ≤ 3 * (n + 4) := Nat.mul_le_mul_right _ few
    omega
theorem two_parts {d e : Vd} {n p : Nat} (h1 : d.Tp n p) (h2 : e.Tp n p) : (Vd.tup [d, e]).Sp (8 + (n + 4) + (n + 4)) (p + 1) := by
  have q := Vd.Sp.mix (pre := []) (post := [e]) (n := n) h1.sp (fun z hz => by rw [List.mem_singleton.mp hz]; exact h2)
  have l1 : (([] : List Vd) ++ [e]).length = 1 := rfl
  rw [l1, Nat.one_mul] at q
  exact q
/-- a tree in the heap: its tuple, its parts -/
theorem TrAt.kids {P : Addr → Prop} {T : Tr} (h : TrAt K H v T) (ok : T.ok) : ∃ a w x y X Y, v = .ref a ∧ SqT K H a [.str w, x, y] ∧ VA K C P H X x ∧ VA K C P H Y y ∧ (Vd.str w).Tp 45000 (T.dp - 1) ∧ X.Tp (5000 * T.lv) (T.dp - 1) ∧ Y.Tp (5000 * T.lv) (T.dp - 1) ∧ T.vd = .tup [.str w, X, Y] ∧
    (w = "at" ∨ (w ≠ "at" ∧ ∃ A B, TrAt K H x A ∧ TrAt K H y B ∧ A.ok ∧ B.ok ∧ A.lv ≤ T.lv ∧ B.lv ≤ T.lv ∧ A.dp + 1 ≤ T.dp ∧ B.dp + 1 ≤ T.dp)) := by
  obtain ⟨_, w, X, Y, ev, pw, px, py⟩ := Tr.parts ok
  cases T with
  | «at» t q =>
    obtain ⟨a, e, s⟩ := h
    cases ev
    exact ⟨a, _, _, _, .int t, .int q, e, s, rfl, rfl, pw, px, py, rfl, .inl rfl⟩
  | or A B =>
    obtain ⟨a, u, z, e, s, h1, h2⟩ := h
    cases ev
    exact ⟨a, _, _, _, _, _, e, s, h1.va, h2.va, pw, px, py, rfl, .inr ⟨or_at, A, B, h1, h2, ok.1, ok.2, Nat.le_add_right _ _, Nat.le_add_left _ _, by show A.dp + 1 ≤ max A.dp B.dp + 1; omega, by show B.dp + 1 ≤ max A.dp B.dp + 1; omega⟩⟩
  | and A B =>
    obtain ⟨a, u, z, e, s, h1, h2⟩ := h
    cases ev
    exact ⟨a, _, _, _, _, _, e, s, h1.va, h2.va, pw, px, py, rfl, .inr ⟨and_at, A, B, h1, h2, ok.1, ok.2, Nat.le_add_right _ _, Nat.le_add_left _ _, by show A.dp + 1 ≤ max A.dp B.dp + 1; omega, by show B.dp + 1 ≤ max A.dp B.dp + 1; omega⟩⟩
def sp_law_spoilt (K : PySem.W.Frag) (C : Cs) (n : Nat) : Sp := fun vs H Q _ => ∃ b l v T, vs = [.ref b, v] ∧ Bag H b l ∧ TrAt K H v T ∧ T.ok ∧ T.lv ≤ 9 ∧ T.dp ≤ n ∧ ∀ u d H', VA K C (Is b) H' d u → d.Sp (10000 + 200000 * T.dp) (T.dp + 2) → Bag H' b l → Kp b H H' → Q u H'
def t_law_spoilt (K : PySem.W.Frag) (C : Cs) (n : Nat) : TS :=
  (tSeq (tPar 2 3 (tCons (tCall (sp_law_take K) [] E0 (tCons (tVar 0) (tCons (tC (.int 8)) tNil))) (tCons (tCall (sp_law_take K) [] E0 (tCons (tVar 0) (tCons (tC (.int 3)) tNil))) tNil)))
    (tSeq (tIfS (tAnd (tTest (tOp (rNeU K) (tOp (rIx K) (tVar 1) (tC (.int 0))) (tC (.str "at")))) (tTest (tOp (rLtI) (tVar 2) (tC (.int 4))))) (tSeq (tAsg (tOp (rAddU K) (tC (.int 1)) (tCall (sp_law_take K) [] E0 (tCons (tVar 0) (tCons (tC (.int 2)) tNil)))) (gName 3))
    (tRet (tOp (rAddU K) (tOp (rAddU K) (tSl (rSlA K) (tVar 1) tNoPart (tPart (tVar 3))) (tTup (tCons (tCall (sp_law_spoilt K C n) [] E0 (tCons (tVar 0) (tCons (tOp (rIx K) (tVar 1) (tVar 3)) tNil))) tNil))) (tSl (rSlA K) (tVar 1) (tPart (tOp (rAddU K) (tVar 3) (tC (.int 1)))) tNoPart)))) tNext)
    (tSeq (tIfS (tTest (tOp (rEqU K) (tVar 2) (tC (.int 4)))) (tRet (tCB (rListOf K) (tCons (tVar 1) tNil))) tNext)
    (tSeq (tIfS (tTest (tOp (rEqU K) (tVar 2) (tC (.int 5)))) (tRet (tOp (rAddU K) (tSl (rSlA K) (tVar 1) tNoPart (tPart (tVar 3))) (tSl (rSlA K) (tVar 1) (tPart (tOp (rAddU K) (tVar 3) (tC (.int 1)))) tNoPart))) tNext)
    (tSeq (tIfS (tTest (tOp (rEqU K) (tVar 2) (tC (.int 6)))) (tRet (tOp (rAddU K) (tOp (rAddU K) (tSl (rSlA K) (tVar 1) tNoPart (tPart (tVar 3))) (tTup (tCons (tCall (sp_law_odd K C) [] E0 (tCons (tVar 0) tNil)) tNil))) (tSl (rSlA K) (tVar 1) (tPart (tVar 3)) tNoPart))) tNext)
    (tSeq (tAsg (tOp (rIx K) (tLst (tCons (tC (.str "at")) (tCons (tC (.str "or")) (tCons (tC (.str "and")) (tCons (tC (.str "At")) (tCons (tC (.str "not")) (tCons (tC (.str "")) (tCons (tC (.int 0)) (tCons (tC .non) tNil))))))))) (tCall (sp_law_take K) [] E0 (tCons (tVar 0) (tCons (tC (.int 8)) tNil)))) (gName 4))
    (tRet (tOp (rAddU K) (tOp (rAddU K) (tSl (rSlA K) (tVar 1) tNoPart (tPart (tVar 3))) (tTup (tCons (tIf (tTest (tOp (rEqU K) (tVar 3) (tC (.int 0)))) (tVar 4) (tCall (sp_law_odd K C) [] E0 (tCons (tVar 0) tNil))) tNil))) (tSl (rSlA K) (tVar 1) (tPart (tOp (rAddU K) (tVar 3) (tC (.int 1)))) tNoPart)))))))))
def spo_tail (K : PySem.W.Frag) (C : Cs) (n : Nat) : TS :=
  (tSeq (tIfS (tTest (tOp (rEqU K) (tVar 2) (tC (.int 4)))) (tRet (tCB (rListOf K) (tCons (tVar 1) tNil))) tNext)
    (tSeq (tIfS (tTest (tOp (rEqU K) (tVar 2) (tC (.int 5)))) (tRet (tOp (rAddU K) (tSl (rSlA K) (tVar 1) tNoPart (tPart (tVar 3))) (tSl (rSlA K) (tVar 1) (tPart (tOp (rAddU K) (tVar 3) (tC (.int 1)))) tNoPart))) tNext)
    (tSeq (tIfS (tTest (tOp (rEqU K) (tVar 2) (tC (.int 6)))) (tRet (tOp (rAddU K) (tOp (rAddU K) (tSl (rSlA K) (tVar 1) tNoPart (tPart (tVar 3))) (tTup (tCons (tCall (sp_law_odd K C) [] E0 (tCons (tVar 0) tNil)) tNil))) (tSl (rSlA K) (tVar 1) (tPart (tVar 3)) tNoPart))) tNext)
    (tSeq (tAsg (tOp (rIx K) (tLst (tCons (tC (.str "at")) (tCons (tC (.str "or")) (tCons (tC (.str "and")) (tCons (tC (.str "At")) (tCons (tC (.str "not")) (tCons (tC (.str "")) (tCons (tC (.int 0)) (tCons (tC .non) tNil))))))))) (tCall (sp_law_take K) [] E0 (tCons (tVar 0) (tCons (tC (.int 8)) tNil)))) (gName 4))
    (tRet (tOp (rAddU K) (tOp (rAddU K) (tSl (rSlA K) (tVar 1) tNoPart (tPart (tVar 3))) (tTup (tCons (tIf (tTest (tOp (rEqU K) (tVar 3) (tC (.int 0)))) (tVar 4) (tCall (sp_law_odd K C) [] E0 (tCons (tVar 0) tNil))) tNil))) (tSl (rSlA K) (tVar 1) (tPart (tOp (rAddU K) (tVar 3) (tC (.int 1)))) tNoPart)))))))
theorem ln_law_spoilt (h : sp_law_spoilt K C n vs H Q E) : vs.length = 2 := by obtain ⟨_, _, _, _, rfl, _⟩ := h; rfl
theorem no_law_spoilt (h : sp_law_spoilt K C 0 vs H Q E) : False := by
  obtain ⟨_, _, _, T, _, _, _, _, _, h, _⟩ := h
  have := T.dp_pos
  omega
theorem part_at {i : Nat} {σ : L2.St} (h3 : σ[3]? = some (some (.int (i : Int)))) : ∀ H R, R (some (i : Int)) H → tPart (tVar 3) σ H R := fun H R h => ⟨_, h3, _, rfl, h⟩
theorem part_next {i : Nat} {σ : L2.St} (h3 : σ[3]? = some (some (.int (i : Int)))) : ∀ H R, R (some ((i + 1 : Nat) : Int)) H → tPart (tOp (rAddU K) (tVar 3) (tC (.int 1))) σ H R := fun H R h => ⟨_, h3, .inl ⟨_, _, rfl, rfl, _, rfl, h⟩⟩
theorem rd_spo_tail {T : Tr} {w : Str} {x y : V} {X Y : Vd} {c : Int} {i : Nat} (B : Bag H b l) (s : SqT K H a [.str w, x, y]) (hX : VA K C (Is b) H X x) (hY : VA K C (Is b) H Y y) (pw : (Vd.str w).Tp 45000 (T.dp - 1)) (pX : X.Tp (5000 * T.lv) (T.dp - 1)) (pY : Y.Tp (5000 * T.lv) (T.dp - 1))
    (tv : T.vd = .tup [.str w, X, Y]) (ok : T.ok) (l9 : T.lv ≤ 9) (i2 : i ≤ 2) (k : ∀ u d H', VA K C (Is b) H' d u → d.Sp (10000 + 200000 * T.dp) (T.dp + 2) → Bag H' b l → Kp b H H' → Q u H') :
    spo_tail K C n (EndsOf Q) [some (.ref b), some (.ref a), some (.int c), some (.int (i : Int)), none] H := by
  have d1 := T.dp_pos
  have al : VAs K C (Is b) H [.str w, X, Y] [.str w, x, y] := ⟨_, _, rfl, rfl, _, _, rfl, hX, _, _, rfl, hY, rfl⟩
  have pl : ∀ d ∈ ([.str w, X, Y] : List Vd), d.Tp 45000 (T.dp + 1) := by
    intro d hd
    rcases List.mem_cons.mp hd with rfl | hd
    · exact pw.le (Nat.le_refl _) (by omega)
    rcases List.mem_cons.mp hd with rfl | hd
    · exact pX.le (by omega) (by omega)
    · rw [List.mem_singleton.mp hd]
      exact pY.le (by omega) (by omega)
  have put : ∀ {u : V} {e : Vd} {G : Hp} {p1 : Addr} {j : Nat} {tl : TO} {σ : L2.St}, σ[1]? = some (some (.ref a)) → (∀ H R, R (some (j : Int)) H → tl σ H R) → i ≤ j → SqT K G p1 ([V.str w, x, y].take i) → Kp b H G → Bag G b l → VA K C (Is b) G e u → e.Sp 5000 1 →
      ∀ q, G q = none → rAddU K (.ref p1) (.ref q) (upd G q (.tup [u])) fun x H1 => tSl (rSlA K) (tVar 1) tl tNoPart σ H1 fun y H2 => rAddU K x y H2 Q := by
    intro u e G p1 j tl σ hσ hl ij h1 kG BG he es
    refine put_rest (C := C) (P := Is b) (e := e) (ds := [.str w, X, Y]) (n := 45000) (p := T.dp + 1) hσ hl ij h1 (B.tups kG _ _ s) rfl (VAs.mono (VKeep.bag (P := Is b) rfl B kG) _ _ al) pl he (es.le (Nat.le_refl _) (by omega)) fun z d H' hd hs g => ?_
    exact k z d H' hd (hs.le (by omega) (by omega)) (BG.same g) (kG.trans (Kp.of g))
  refine ⟨_, rfl, .inl ⟨rfl, _, rfl, ?_⟩⟩
  refine ifI (fun _ => ?_) (fun _ => ?_)
  · refine ⟨_, rfl, a, _, rfl, .inr s, fun D hD => ?_⟩
    have g := same_new (o := .lst [.str w, x, y]) hD
    have q := (Tr.parts ok).1
    rw [tv] at q
    exact k _ (.lst [.str w, X, Y]) _ ⟨D, _, rfl, upd_same, B.nb hD, al.same g⟩ ⟨q.fi, Nat.le_trans q.sz (by omega), Nat.le_trans q.dep (by omega), .inr q.nd⟩ (B.same g) (Kp.of g)
  refine ⟨_, rfl, .inl ⟨rfl, _, rfl, ?_⟩⟩
  refine ifI (fun _ => ?_) (fun _ => ?_)
  · refine ⟨_, rfl, _, rfl, _, rfl, cut_to s fun p1 H1 h1 g1 => ?_⟩
    refine ⟨_, rfl, part_next rfl _ _ ?_⟩
    show rSlA K (V.ref a) (some ((i + 1 : Nat) : Int)) none H1 fun y H2 => rAddU K (.ref p1) y H2 Q
    refine cut_from (i := i + 1) (Tups.same g1 _ _ s) fun p2 H2 h2 g2 => ?_
    refine cat_any (Tups.same g2 _ _ h1) h2 (by rw [List.length_take, List.length_drop]; have : [V.str w, x, y].length = 3 := rfl; omega) fun p3 H3 h3 g3 => ?_
    have g := g1.trans (g2.trans g3)
    refine k _ (.tup (([.str w, X, Y] : List Vd).take i ++ ([.str w, X, Y] : List Vd).drop (i + 1))) _ ⟨p3, _, rfl, h3, VAs.app (VAs.take i (al.same g)) (VAs.drop (i + 1) (al.same g))⟩ ?_ (B.same g) (Kp.of g)
    have two : ∀ {d e : Vd}, d.Tp 45000 (T.dp + 1) → e.Tp 45000 (T.dp + 1) → (Vd.tup [d, e]).Sp (10000 + 200000 * T.dp) (T.dp + 2) := fun {d e} p q =>
      (two_parts p q).le (by omega) (by omega)
    have p0 := pl _ (List.mem_cons_self ..)
    have p1 := pl _ (List.mem_cons_of_mem _ (List.mem_cons_self ..))
    have p2 := pl _ (List.mem_cons_of_mem _ (List.mem_cons_of_mem _ (List.mem_cons_self ..)))
    rcases (by omega : i = 0 ∨ i = 1 ∨ i = 2) with rfl | rfl | rfl
    · exact two p1 p2
    · exact two p0 p2
    · exact two p0 p1
  refine ⟨_, rfl, .inl ⟨rfl, _, rfl, ?_⟩⟩
  refine ifI (fun _ => ?_) (fun _ => ?_)
  · refine ⟨_, rfl, _, rfl, _, rfl, cut_to s fun p1 H1 h1 g1 => ?_⟩
    refine ⟨_, rfl, b, l, Is b, rfl, B.same g1, rfl, Is.old (B.same g1), fun u e G he es BG kG => ⟨two_fit.1, ?_⟩⟩
    exact put rfl (part_at rfl) (Nat.le_refl _) ((B.same g1).tups kG _ _ h1) ((Kp.of g1).trans kG) BG he es
  -- another word, an odd value
  refine ⟨Nat.le_of_lt (small1000 (show 8 ≤ 1000 by decide)), fun p hp => ?_⟩
  have g0 := same_new (o := .lst [V.str "at", .str "or", .str "and", .str "At", .str "not", .str "", .int 0, .non]) hp
  refine ⟨_, rfl, b, l, 8, rfl, B.same g0, by decide, by decide, fun j G0 j0 j1 B1 k1 => ?_⟩
  obtain ⟨z, e, hz, ve, se⟩ : ∃ z e, atI [V.str "at", .str "or", .str "and", .str "At", .str "not", .str "", .int 0, .non] j = some z ∧ (∀ G, VA K C (Is b) G e z) ∧ e.Sp 5000 1 := by
    have txt : ∀ x : Str, x.length ≤ 10 → PyData.strOk x = true → (Vd.str x).Sp 5000 1 := fun x h g => (Vd.Tp.text h g).sp.le (by decide) (by decide)
    rcases (by omega : j = 0 ∨ j = 1 ∨ j = 2 ∨ j = 3 ∨ j = 4 ∨ j = 5 ∨ j = 6 ∨ j = 7) with rfl | rfl | rfl | rfl | rfl | rfl | rfl | rfl
    · exact ⟨_, .str "at", rfl, fun _ => rfl, txt _ (by decide) (by decide +kernel)⟩
    · exact ⟨_, .str "or", rfl, fun _ => rfl, txt _ (by decide) (by decide +kernel)⟩
    · exact ⟨_, .str "and", rfl, fun _ => rfl, txt _ (by decide) (by decide +kernel)⟩
    · exact ⟨_, .str "At", rfl, fun _ => rfl, txt _ (by decide) (by decide +kernel)⟩
    · exact ⟨_, .str "not", rfl, fun _ => rfl, txt _ (by decide) (by decide +kernel)⟩
    · exact ⟨_, .str "", rfl, fun _ => rfl, txt _ (by decide) (by decide +kernel)⟩
    · exact ⟨_, .int 0, rfl, fun _ => rfl, (Vd.Tp.num (by decide)).sp.le (by decide) (by decide)⟩
    · exact ⟨_, .non, rfl, fun _ => rfl, trivial, by show 8 ≤ 5000; decide, by simp [Vd.pd, PyData.depth], .inl rfl⟩
  refine .inl ⟨p, _, j, z, rfl, rfl, SqL.of (k1 _ _ upd_same (B.nb hp)), hz, ?_⟩
  have k2 := (Kp.of g0).trans k1
  refine ⟨_, rfl, _, rfl, _, rfl, cut_to (B.tups k2 _ _ s) fun p1 H1 h1 g1 => ?_⟩
  refine ⟨_, rfl, .inl ⟨rfl, _, rfl, ?_⟩⟩
  refine ifI (fun _ => ?_) (fun _ => ?_)
  · exact ⟨_, rfl, two_fit.1, put rfl (part_next rfl) (Nat.le_succ _) h1 (k2.trans (Kp.of g1)) (B1.same g1) (ve _) se⟩
  · refine ⟨_, rfl, b, l, Is b, rfl, B1.same g1, rfl, Is.old (B1.same g1), fun u e G he es BG kG => ⟨two_fit.1, ?_⟩⟩
    exact put rfl (part_next rfl) (Nat.le_succ _) ((B1.same g1).tups kG _ _ h1) ((k2.trans (Kp.of g1)).trans kG) BG he es
theorem rd_law_spoilt (h : sp_law_spoilt K C (n + 1) vs H Q E) : t_law_spoilt K C n (EndsOf Q) (start ["", "", "", "", ""] vs) H := by
  obtain ⟨b, l, v, T, rfl, B, hT, ok, l9, hd, k⟩ := h
  refine ⟨_, rfl, b, l, 8, rfl, B, by decide, by decide, fun c G1 c0 c1 B1 k1 => ?_⟩
  refine ⟨_, rfl, b, l, 3, rfl, B1, by decide, by decide, fun z G2 z0 z1 B2 k2 => ⟨_, _, rfl, ?_⟩⟩
  have kk := k1.trans k2
  have hT2 := (hT.mono (B.tups k1)).mono (B1.tups k2)
  obtain ⟨a, w, x, y, X, Y, rfl, s, hX, hY, pw, pX, pY, tv, cw⟩ := hT2.kids (C := C) (P := Is b) ok
  obtain ⟨i, rfl⟩ := Int.eq_ofNat_of_zero_le z0
  have k' : ∀ u d H', VA K C (Is b) H' d u → d.Sp (10000 + 200000 * T.dp) (T.dp + 2) → Bag H' b l → Kp b G2 H' → Q u H' := fun u d H' h1 h2 h3 h4 => k u d H' h1 h2 h3 (kk.trans h4)
  have tail := rd_spo_tail (n := n) (c := c) B2 s hX hY pw pX pY tv ok l9 (by omega : i ≤ 2) k'
  refine ⟨_, rfl, .inr (.inl ⟨a, _, 0, _, rfl, rfl, s, rfl, ?_⟩)⟩
  refine .inl ⟨rfl, _, rfl, ?_⟩
  rcases cw with rfl | ⟨nw, A, A', hA, hA', oA, oA', lA, lA', dA, dA'⟩
  · refine iteF' (by rw [decide_eq_true rfl]; rfl) ?_
    exact tail
  refine iteT' (by rw [decide_eq_false fun z => nw (V.str.inj z)]; rfl) ?_
  refine ⟨_, rfl, _, _, rfl, rfl, _, rfl, ?_⟩
  refine ifD (fun _ => ?_) (fun _ => tail)
  refine ⟨_, rfl, b, l, 2, rfl, B2, by decide, by decide, fun g G3 g0 g1 B3 k3 => .inl ⟨_, _, rfl, rfl, ?_⟩⟩
  have s3 := B2.tups k3 _ _ s
  obtain ⟨j, hj, j1⟩ : ∃ j : Nat, 1 + g = ((j : Nat) : Int) ∧ (j = 1 ∨ j = 2) := ⟨(1 + g).toNat, by omega, by omega⟩
  dsimp only [gName]
  rw [hj]
  refine ⟨_, rfl, _, rfl, _, rfl, cut_to s3 fun p1 H1 h1 q1 => ?_⟩
  have s4 := Tups.same (K := K) q1 _ _ s3
  have tp : Tups K G2 H1 := (B2.tups k3).trans (Tups.same q1)
  have fin : ∀ {u : V} {D : Tr}, TrAt K H1 u D → D.ok → D.lv ≤ T.lv → D.dp + 1 ≤ T.dp → sp_law_spoilt K C n ([.ref b, u] ++ []) H1 (fun u H2 => [u].length ≤ sizeLine ∧ ∀ q, H2 q = none → rAddU K (.ref p1) (.ref q) (upd H2 q (.tup [u])) fun x H3 => tSl (rSlA K) (tVar 1) (tPart (tOp (rAddU K) (tVar 3) (tC (.int 1)))) tNoPart [some (.ref b), some (.ref a), some (.int c), some (.int (j : Int)), none] H3 fun y H4 => rAddU K x y H4 Q) E0 := by
    intro u D hD oD lD dD
    refine ⟨b, l, u, D, rfl, B3.same q1, hD, oD, by omega, by omega, fun u e G he es BG kG => ⟨two_fit.1, ?_⟩⟩
    have kG' : Kp b G2 G := (k3.trans (Kp.of q1)).trans kG
    have al : VAs K C (Is b) G2 [.str w, X, Y] [.str w, x, y] := ⟨_, _, rfl, rfl, _, _, rfl, hX, _, _, rfl, hY, rfl⟩
    have pl : ∀ d ∈ ([.str w, X, Y] : List Vd), d.Tp 45000 (T.dp + 1) := by
      intro d hd
      rcases List.mem_cons.mp hd with rfl | hd
      · exact pw.le (Nat.le_refl _) (by omega)
      rcases List.mem_cons.mp hd with rfl | hd
      · exact pX.le (by omega) (by omega)
      · rw [List.mem_singleton.mp hd]
        exact pY.le (by omega) (by omega)
    refine put_rest (C := C) (P := Is b) (e := e) (ds := [.str w, X, Y]) (n := 45000) (p := T.dp + 1) rfl (part_next rfl) (Nat.le_succ _) ((B3.same q1).tups kG _ _ h1) ((B3.same q1).tups kG _ _ s4) rfl (VAs.mono (VKeep.bag (P := Is b) rfl B2 kG') _ _ al) pl he (es.le (Nat.le_refl _) (by omega)) fun z d H' hd hs g => ?_
    exact k' z d H' hd (hs.le (by omega) (by omega)) (BG.same g) (kG'.trans (Kp.of g))
  refine ⟨_, rfl, _, rfl, _, rfl, ?_⟩
  rcases j1 with rfl | rfl
  · exact .inr (.inl ⟨a, _, 1, _, rfl, rfl, s4, rfl, fin (hA.mono tp) oA lA dA⟩)
  · exact .inr (.inl ⟨a, _, 2, _, rfl, rfl, s4, rfl, fin (hA'.mono tp) oA' lA' dA'⟩)
/-! ### what is refused -/
def sp_law_refused (K : PySem.W.Frag) (C : Cs) : Sp := fun vs H Q _ => ∃ way x y, vs = [.int way, x, y] ∧ Fx19 K C ∧
  ((way = 0 ∧ ∃ d P, VA K C P H d x ∧ ∀ H', Same H H' → Q (if d.atoms < 7 then .non else .int 0) H') ∨
  (way = 1 ∧ ∃ d e P, VA K C P H d x ∧ VA K C P H e y ∧ (∀ t, d = .int t → t ≤ 10 ^ 50) ∧ ∀ H', Same H H' → Q (if d.num none = true then (if e.num (some 6) = true then .non else .int 1) else .int 0) H') ∨
  (way = 2 ∧ ∃ d P, VA K C P H d x ∧ (∀ t, d = .int t → t ≤ 10 ^ 50) ∧ ∀ H', Same H H' → Q (if d.num none = true then .non else .int 0) H'))
def t_law_refused (K : PySem.W.Frag) (C : Cs) : TS :=
  (tSeq (tTryAs K (.ref C.PipeError) 3 (fun W => (tIfS (tTest (tOp (rEqU K) (tVar 0) (tC (.int 0)))) (tDrop (tMakeS C.Rule (sp_Rule___init__X K C) (WE W) (tCons (tVar 1) tNil))) (tIfS (tTest (tOp (rEqU K) (tVar 0) (tC (.int 1)))) (tDrop (tCallS (sp_at_leastX K C) (WE W) (tCons (tVar 1) (tCons (tVar 2) tNil)))) (tDrop (tCallSD (sp_at_leastX K C) [.int 1] (WE W) (tCons (tVar 1) tNil)))))) (fun a cls d => (tRet (tIf (tAnd (tB (tCB (rIsD K C.Wrong a cls d) (tCons (tVar 3) (tCons (tC (.ref C.Wrong)) tNil)))) (tNot (tB (tCB (rIsD K C.Wrong a cls d) (tCons (tVar 3) (tCons (tC (.ref C.TooMany)) tNil)))))) (tXf a cls d C.Wrong "place" (tVar 3)) (tC (.str "other"))))))
    (tRet (tC .non)))
theorem ln_law_refused (h : sp_law_refused K C vs H Q E) : vs.length = 3 := by obtain ⟨_, _, _, rfl, _⟩ := h; rfl
theorem laid_same {x dx D : Addr} (hx : G x = none) (hd : G dx = none) : Same G (upd (upd G dx (.own x)) x (.ins D dx [])) := fun b o e => by
  rw [upd_ne (ne_of_none e hx), upd_ne (ne_of_none e hd)]
  exact e
theorem rd_law_refused (h : sp_law_refused K C vs H Q E) : t_law_refused K C (EndsOf Q) (start ["", "", "", ""] vs) H := by
  obtain ⟨way, x, y, rfl, fo, cs⟩ := h
  have out : ∀ {m : Int} {d : Addr} {G : Hp}, (∀ H', Same H H' → Q (.int m) H') → Same H G → G d = some (.xd [("place", .int m)]) →
      wAs K (.ref C.PipeError) 3 (fun a cls d => (tRet (tIf (tAnd (tB (tCB (rIsD K C.Wrong a cls d) (tCons (tVar 3) (tCons (tC (.ref C.Wrong)) tNil)))) (tNot (tB (tCB (rIsD K C.Wrong a cls d) (tCons (tVar 3) (tCons (tC (.ref C.TooMany)) tNil)))))) (tXf a cls d C.Wrong "place" (tVar 3)) (tC (.str "other")))))
        (fun _ _ _ _ => False) { nx := tRet (tC .non) (EndsOf Q), rt := (EndsOf Q).rt } (.ref C.Wrong) (some d) [some (.int way), some x, some y, none] G := by
    intro m d G k s hxd
    refine ⟨true, fo.wr.em, fun _ ea hea => ?_, fun z => nomatch z⟩
    refine ⟨_, rfl, ⟨_, _, true, d, _, rfl, rfl, rfl, hxd, fun u r => r, kit_same, true, rfl, ?_⟩⟩
    refine iteT' rfl ⟨_, rfl, ⟨_, _, false, d, _, rfl, rfl, rfl, hxd, fun u r => r, fo.kw, false, rfl, ?_⟩⟩
    exact iteT' rfl ⟨_, rfl, rfl, rfl, d, _, _, rfl, hxd, rfl, k _ s⟩
  rcases cs with ⟨rfl, d, P, hd, k⟩ | ⟨rfl, d, e, P, hd, he, big, k⟩ | ⟨rfl, d, P, hd, big, k⟩
  · refine ⟨_, rfl, .inl ⟨rfl, _, rfl, iteT' (decide_eq_true rfl) ?_⟩⟩
    refine ⟨_, rfl, fun p dx hp hdx ne => ⟨p, dx, x, d, P, rfl, upd_same, hd.same (laid_same hp hdx), fo, fun c H' e1 e2 => ⟨rfl, ?_⟩, fun c d2 G hd2 s hxd => out (fun H' s' => ?_) ((laid_same hp hdx).trans s) hxd⟩⟩
    · have q := k H' fun c o e => e2 c o (laid_same hp hdx c o e) (ne_of_none e hp)
      rw [if_pos c] at q
      exact q
    · have q := k H' s'
      rw [if_neg c] at q
      exact q
  · refine ⟨_, rfl, .inl ⟨rfl, _, rfl, iteF' (decide_eq_false (by intro z; cases z)) ?_⟩⟩
    refine ⟨_, rfl, .inl ⟨rfl, _, rfl, iteT' (decide_eq_true rfl) ?_⟩⟩
    refine ⟨_, rfl, _, rfl, x, y, d, e, P, rfl, hd, he, fo, big, fun t q e1 e2 c1 c2 c3 r H' hr s R => ?_, fun c d2 G hd2 s hxd => out (fun H' s' => ?_) s hxd, fun c c' d2 G hd2 s hxd => out (fun H' s' => ?_) s hxd⟩
    · have z := k H' s
      subst e1
      subst e2
      rw [Vd.numN, decide_eq_true c1, Vd.num6, decide_eq_true c2, decide_eq_true c3] at z
      exact z
    · have q := k H' s'
      rw [c] at q
      exact q
    · have q := k H' s'
      rw [c, c'] at q
      exact q
  · refine ⟨_, rfl, .inl ⟨rfl, _, rfl, iteF' (decide_eq_false (by intro z; cases z)) ?_⟩⟩
    refine ⟨_, rfl, .inl ⟨rfl, _, rfl, iteF' (decide_eq_false (by intro z; cases z)) ?_⟩⟩
    refine ⟨_, rfl, x, .int 1, d, .int 1, P, rfl, hd, rfl, fo, big, fun t q e1 e2 c1 c2 c3 r H' hr s R => ?_, fun c d2 G hd2 s hxd => out (fun H' s' => ?_) s hxd, fun c c' => ?_⟩
    · have z := k H' s
      subst e1
      rw [Vd.numN, decide_eq_true c1] at z
      exact z
    · have q := k H' s'
      rw [c] at q
      exact q
    · exact absurd c' (by rw [Vd.num6]; decide)
/-! ### the law -/
mutual
theorem VA.less {P P' : Addr → Prop} (s : ∀ a, P' a → P a) : ∀ (d : Vd) (v : V), VA K C P H d v → VA K C P' H d v
  | .int i, _, h => h
  | .bl c, _, h => h
  | .non, _, h => h
  | .str x, _, h => h
  | .tup ds, v, h => by
    obtain ⟨a, xs, e, h1, h2⟩ := h
    exact ⟨a, xs, e, h1, VAs.less s ds xs h2⟩
  | .lst ds, v, h => by
    obtain ⟨a, xs, e, h1, n, h2⟩ := h
    exact ⟨a, xs, e, h1, fun z => n (s _ z), VAs.less s ds xs h2⟩
  | .dic, v, h => h
  | .obj a, v, h => h
theorem VAs.less {P P' : Addr → Prop} (s : ∀ a, P' a → P a) : ∀ (ds : List Vd) (xs : List V), VAs K C P H ds xs → VAs K C P' H ds xs
  | [], _, h => h
  | d :: r, xs, h => by
    obtain ⟨x, ys, e, h1, h2⟩ := h
    exact ⟨x, ys, e, VA.less s d x h1, VAs.less s r ys h2⟩
end
/-- a plain answer -/
def Pl (v : V) : Prop := ∃ p, (∀ (K : PySem.W.Frag) (H : Hp), Dp K H v p) ∧ GoodTo 0 2000 p
theorem pl_non : Pl .non := ⟨_, fun _ _ => .non, gt_none.mono⟩
theorem pl_int {i : Int} (h : i.natAbs ≤ 10 ^ 100) : Pl (.int i) := ⟨_, fun _ _ => .int i, gt_int h⟩
theorem alike_1 {x : V} (hx : Pl x) : ∃ d, Dp K H x d ∧ Good d := by
  obtain ⟨p, h, g⟩ := hx
  exact ⟨p, h _ _, g.good⟩
theorem alike_2 {p q : Addr} {x y : V} (hx : Pl x) (hy : Pl y) (e : SqL K H p [x, y]) (e' : SqL K H q [x, y]) : ∃ d, Dp K H (.ref p) d ∧ Dp K H (.ref q) d ∧ Good d := by
  obtain ⟨d, h, g⟩ := hx
  obtain ⟨d', h', g'⟩ := hy
  exact ⟨.list [d, d'], .lst e (.cons (h _ _) (.cons (h' _ _) .nil)), .lst e' (.cons (h _ _) (.cons (h' _ _) .nil)), (gt_list (at_cons g (at_cons g' at_nil))).good⟩
theorem alike_3 {p q : Addr} {x : V} (hx : Pl x) (e : SqL K H p [x, x, x]) (e' : SqL K H q [x, x, x]) : ∃ d, Dp K H (.ref p) d ∧ Dp K H (.ref q) d ∧ Good d := by
  obtain ⟨d, h, g⟩ := hx
  exact ⟨.list [d, d, d], .lst e (.cons (h _ _) (.cons (h _ _) (.cons (h _ _) .nil))), .lst e' (.cons (h _ _) (.cons (h _ _) (.cons (h _ _) .nil))), (gt_list (at_cons g (at_cons g (at_cons g at_nil)))).good⟩
/-- [0] * n -/
def zeros (n : Nat) : Vd := .lst (List.replicate n (.int 0))
theorem VAs.rep {P : Addr → Prop} {d : Vd} {v : V} (h : VA K C P H d v) : ∀ n : Nat, VAs K C P H (List.replicate n d) (List.replicate n v)
  | 0 => rfl
  | n + 1 => ⟨v, _, rfl, h, VAs.rep h n⟩
theorem rep_facts {d : Vd} (fi : d.fine) (dp : d.pd.depth = 0) (nd : d.hasD = false) (c : Nat) (hc : d.pd.shown.length ≤ c) : ∀ n : Nat, Vd.fines (List.replicate n d) ∧ PyData.depthAll (Vd.pds (List.replicate n d)) = 0 ∧ Vd.hasDs (List.replicate n d) = false ∧ piled (PyData.shownAll (Vd.pds (List.replicate n d))) ≤ n * (c + 4)
  | 0 => ⟨trivial, by show PyData.depthAll [] = 0; simp [PyData.depthAll], rfl, by show piled [] ≤ _; simp [piled]⟩
  | n + 1 => by
    obtain ⟨i1, i2, i3, i4⟩ := rep_facts fi dp nd c hc n
    refine ⟨⟨fi, i1⟩, ?_, ?_, ?_⟩
    · show PyData.depthAll (d.pd :: Vd.pds (List.replicate n d)) = 0
      simp only [PyData.depthAll]
      omega
    · show (d.hasD || Vd.hasDs (List.replicate n d)) = false
      rw [nd, i3]
      rfl
    · show piled (d.pd.shown :: PyData.shownAll (Vd.pds (List.replicate n d))) ≤ (n + 1) * (c + 4)
      rw [piled_cons, Nat.add_mul]
      omega
theorem zeros_told {n : Nat} (few : n ≤ 9000) : (zeros n).Told := by
  obtain ⟨h1, h2, h3, h4⟩ := rep_facts (d := .int 0) (by show (0 : Int).natAbs ≤ 10 ^ 50; decide) (by simp [Vd.pd, PyData.depth]) rfl 1 (by decide +kernel) n
  refine ⟨h1, ?_, ?_, .inr h3⟩
  · show (PyData.list (Vd.pds (List.replicate n (.int 0)))).depth ≤ 60
    simp only [PyData.depth]
    omega
  · show (listText (PyData.shownAll (Vd.pds (List.replicate n (.int 0))))).length ≤ sizeLine
    have := listText_size (PyData.shownAll (Vd.pds (List.replicate n (.int 0))))
    rw [sizeLine_eq]
    omega
theorem flat_one {α : Type} (x : α) : ∀ n : Nat, (List.replicate n [x]).flatten = List.replicate n x
  | 0 => rfl
  | n + 1 => by rw [List.replicate_succ, List.replicate_succ, List.flatten_cons, flat_one x n]; rfl
def own19 (K : PySem.W.Frag) (C : Cs) : TS :=
  (tSeq (tAsg (tMake C.Rule (sp_Rule___init__ K C) [] E0 (tCons (tTup (tCons (tC (.str "at")) (tCons (tC (.int 2)) (tCons (tC (.int 1)) tNil)))) tNil)) (gName 14))
    (tSeq (tAsg (tLst (tCons (tCall (sp_law_refused K C) [] E0 (tCons (tC (.int 0)) (tCons (tVar 14) (tCons (tC .non) tNil)))) (tCons (tCall (sp_law_refused K C) [] E0 (tCons (tC (.int 0)) (tCons (tTup (tCons (tC (.str "or")) (tCons (tVar 14) (tCons (tVar 3) tNil)))) (tCons (tC .non) tNil)))) (tCons (tCall (sp_law_refused K C) [] E0 (tCons (tC (.int 1)) (tCons (tVar 14) (tCons (tC (.int 1)) tNil)))) tNil)))) (gName 15))
    (tIfS (tNot (tB (tCall (sp_law_alike K) [] E0 (tCons (tVar 15) (tCons (tLst (tCons (tC (.int 0)) (tCons (tC (.int 0)) (tCons (tC (.int 0)) tNil)))) tNil))))) (tRet (tC (.bl false))) tNext)))
def rest19 (K : PySem.W.Frag) (C : Cs) : TS :=
  (tSeq (tIfS (tAnd (tB (tVar 12)) (tTest (tOp (rNeU K) (tMeth C.Rule "tree" (sp_Rule_tree K C) [] E0 (tCall (sp_at_least K C) [.int 1] E0 (tCons (tVar 6) tNil)) tNil) (tTup (tCons (tC (.str "at")) (tCons (tVar 6) (tCons (tC (.int 1)) tNil))))))) (tRet (tC (.bl false))) tNext)
    (tSeq (tAsg (tMake C.Rule (sp_Rule___init__ K C) [] E0 (tCons (tTup (tCons (tC (.str "at")) (tCons (tC (.int 2)) (tCons (tC (.int 1)) tNil)))) tNil)) (gName 14))
    (tSeq (tAsg (tLst (tCons (tCall (sp_law_refused K C) [] E0 (tCons (tC (.int 0)) (tCons (tVar 14) (tCons (tC .non) tNil)))) (tCons (tCall (sp_law_refused K C) [] E0 (tCons (tC (.int 0)) (tCons (tTup (tCons (tC (.str "or")) (tCons (tVar 14) (tCons (tVar 3) tNil)))) (tCons (tC .non) tNil)))) (tCons (tCall (sp_law_refused K C) [] E0 (tCons (tC (.int 1)) (tCons (tVar 14) (tCons (tC (.int 1)) tNil)))) tNil)))) (gName 15))
    (tIfS (tNot (tB (tCall (sp_law_alike K) [] E0 (tCons (tVar 15) (tCons (tLst (tCons (tC (.int 0)) (tCons (tC (.int 0)) (tCons (tC (.int 0)) tNil)))) tNil))))) (tRet (tC (.bl false))) tNext))))
def mid19 (K : PySem.W.Frag) (C : Cs) : TS :=
  (tSeq (tIfS (tNot (tB (tCall (sp_law_alike K) [] E0 (tCons (tLst (tCons (tCall (sp_law_refused K C) [] E0 (tCons (tC (.int 1)) (tCons (tVar 6) (tCons (tVar 7) tNil)))) (tCons (tCall (sp_law_refused K C) [] E0 (tCons (tC (.int 2)) (tCons (tVar 6) (tCons (tVar 7) tNil)))) tNil))) (tCons (tLst (tCons (tVar 10) (tCons (tIf (tB (tVar 12)) (tC .non) (tC (.int 0))) tNil))) tNil))))) (tRet (tC (.bl false))) tNext)
    (tSeq (tIfS (tAnd (tB (tVar 12)) (tTest (tOp (rNeU K) (tMeth C.Rule "tree" (sp_Rule_tree K C) [] E0 (tCall (sp_at_least K C) [.int 1] E0 (tCons (tVar 6) tNil)) tNil) (tTup (tCons (tC (.str "at")) (tCons (tVar 6) (tCons (tC (.int 1)) tNil))))))) (tRet (tC (.bl false))) tNext)
    (tSeq (tAsg (tMake C.Rule (sp_Rule___init__ K C) [] E0 (tCons (tTup (tCons (tC (.str "at")) (tCons (tC (.int 2)) (tCons (tC (.int 1)) tNil)))) tNil)) (gName 14))
    (tSeq (tAsg (tLst (tCons (tCall (sp_law_refused K C) [] E0 (tCons (tC (.int 0)) (tCons (tVar 14) (tCons (tC .non) tNil)))) (tCons (tCall (sp_law_refused K C) [] E0 (tCons (tC (.int 0)) (tCons (tTup (tCons (tC (.str "or")) (tCons (tVar 14) (tCons (tVar 3) tNil)))) (tCons (tC .non) tNil)))) (tCons (tCall (sp_law_refused K C) [] E0 (tCons (tC (.int 1)) (tCons (tVar 14) (tCons (tC (.int 1)) tNil)))) tNil)))) (gName 15))
    (tIfS (tNot (tB (tCall (sp_law_alike K) [] E0 (tCons (tVar 15) (tCons (tLst (tCons (tC (.int 0)) (tCons (tC (.int 0)) (tCons (tC (.int 0)) tNil)))) tNil))))) (tRet (tC (.bl false))) tNext)))))
def end19 (K : PySem.W.Frag) (C : Cs) : TS :=
  (tSeq (tPar 12 13 (tCons (tCall (sp_law_is_number K C) [] E0 (tCons (tVar 6) (tCons (tC .non) tNil))) (tCons (tCall (sp_law_is_number K C) [] E0 (tCons (tVar 7) (tCons (tC (.int 6)) tNil))) tNil)))
    (tSeq (tAsg (tIf (tB (tVar 12)) (tIf (tB (tVar 13)) (tC .non) (tC (.int 1))) (tC (.int 0))) (gName 10))
    (tSeq (tIfS (tNot (tB (tCall (sp_law_alike K) [] E0 (tCons (tLst (tCons (tCall (sp_law_refused K C) [] E0 (tCons (tC (.int 1)) (tCons (tVar 6) (tCons (tVar 7) tNil)))) (tCons (tCall (sp_law_refused K C) [] E0 (tCons (tC (.int 2)) (tCons (tVar 6) (tCons (tVar 7) tNil)))) tNil))) (tCons (tLst (tCons (tVar 10) (tCons (tIf (tB (tVar 12)) (tC .non) (tC (.int 0))) tNil))) tNil))))) (tRet (tC (.bl false))) tNext)
    (tSeq (tIfS (tAnd (tB (tVar 12)) (tTest (tOp (rNeU K) (tMeth C.Rule "tree" (sp_Rule_tree K C) [] E0 (tCall (sp_at_least K C) [.int 1] E0 (tCons (tVar 6) tNil)) tNil) (tTup (tCons (tC (.str "at")) (tCons (tVar 6) (tCons (tC (.int 1)) tNil))))))) (tRet (tC (.bl false))) tNext)
    (tSeq (tAsg (tMake C.Rule (sp_Rule___init__ K C) [] E0 (tCons (tTup (tCons (tC (.str "at")) (tCons (tC (.int 2)) (tCons (tC (.int 1)) tNil)))) tNil)) (gName 14))
    (tSeq (tAsg (tLst (tCons (tCall (sp_law_refused K C) [] E0 (tCons (tC (.int 0)) (tCons (tVar 14) (tCons (tC .non) tNil)))) (tCons (tCall (sp_law_refused K C) [] E0 (tCons (tC (.int 0)) (tCons (tTup (tCons (tC (.str "or")) (tCons (tVar 14) (tCons (tVar 3) tNil)))) (tCons (tC .non) tNil)))) (tCons (tCall (sp_law_refused K C) [] E0 (tCons (tC (.int 1)) (tCons (tVar 14) (tCons (tC (.int 1)) tNil)))) tNil)))) (gName 15))
    (tIfS (tNot (tB (tCall (sp_law_alike K) [] E0 (tCons (tVar 15) (tCons (tLst (tCons (tC (.int 0)) (tCons (tC (.int 0)) (tCons (tC (.int 0)) tNil)))) tNil))))) (tRet (tC (.bl false))) tNext)))))))
def inn19 (K : PySem.W.Frag) (C : Cs) : TS :=
  (tFor (iRng1 (tCons (tC (.int 2)) tNil)) (gName 11) (tIfS (tOr (tNot (tB (tCall (sp_law_alike K) [] E0 (tCons (tCall (sp_law_refused K C) [] E0 (tCons (tC (.int 0)) (tCons (tVar 8) (tCons (tC .non) tNil)))) (tCons (tVar 10) tNil))))) (tTest (tOp (rNeU K) (tCB (rReprV K C) (tCons (tVar 8) tNil)) (tVar 9)))) (tRet (tC (.bl false))) tNext))
def loop19 (K : PySem.W.Frag) (C : Cs) : TS :=
  (tSeq (tAsg (tCB (rReprV K C) (tCons (tVar 8) tNil)) (gName 9))
    (tSeq (tAsg (tIf (tTest (tOp (rLtI) (tCall (sp_law_atoms K C 70) [] E0 (tCons (tVar 8) tNil)) (tC (.int 7)))) (tC .non) (tC (.int 0))) (gName 10))
    (tFor (iRng1 (tCons (tC (.int 2)) tNil)) (gName 11) (tIfS (tOr (tNot (tB (tCall (sp_law_alike K) [] E0 (tCons (tCall (sp_law_refused K C) [] E0 (tCons (tC (.int 0)) (tCons (tVar 8) (tCons (tC .non) tNil)))) (tCons (tVar 10) tNil))))) (tTest (tOp (rNeU K) (tCB (rReprV K C) (tCons (tVar 8) tNil)) (tVar 9)))) (tRet (tC (.bl false))) tNext))))
theorem rd_own19 {T : Tr} {x0 x1 : V} {s2 s4 s5 s6 s7 s8 s9 s10 s11 s12 s13 s14 s15 : Option V} {D : Ends} (fo : Fx19 K C) (tr : TrAt K G v T) (ok : T.ok)
    (done : ∀ s14 s15 G', Same G G' → D.nx [some x0, some x1, s2, some v, s4, s5, s6, s7, s8, s9, s10, s11, s12, s13, s14, s15] G') : own19 K C D [some x0, some x1, s2, some v, s4, s5, s6, s7, s8, s9, s10, s11, s12, s13, s14, s15] G := by
  refine ⟨two_fit.2.2.1, fun p hp => ?_⟩
  have g1 := same_new (o := .tup [.str "at", .int 2, .int 1]) hp
  have t1 : TrAt K (upd G p (.tup [.str "at", .int 2, .int 1])) (.ref p) (.at 2 1) := ⟨p, rfl, SqT.of upd_same⟩
  generalize upd G p (.tup [.str "at", .int 2, .int 1]) = G1 at g1 t1 ⊢
  intro r1 d1 h3 h3' _
  refine ⟨r1, d1, .ref p, .at 2 1, rfl, upd_same, t1.mono (Tups.same (laid_same h3 h3')), ⟨by decide, by decide, by decide, by decide⟩, by show 1 ≤ 6; decide, fo.ru, fun G2 e2 o2 => ⟨rfl, ?_⟩⟩
  have g2 : Same G1 G2 := fun c o e => o2 c o (laid_same h3 h3' c o e) (ne_of_none e h3)
  have tr2 := tr.mono (Tups.same (g1.trans g2))
  have oa : (Vd.obj r1).atoms = 100 := Vd.atoms_no rfl
  refine ⟨_, rfl, 0, _, .non, rfl, fo, .inl ⟨rfl, .obj r1, fun _ => False, ⟨rfl, d1, _, e2⟩, fun G3 g3 => ?_⟩⟩
  rw [if_neg (by rw [oa]; decide)]
  refine ⟨_, rfl, _, rfl, two_fit.2.2.1, fun p2 hp2 => ?_⟩
  have g4 := same_new (o := .tup [.str "or", .ref r1, v]) hp2
  refine ⟨0, _, .non, rfl, fo, .inl ⟨rfl, .tup [.str "or", .obj r1, T.vd], fun _ => False, ⟨p2, _, rfl, SqT.of upd_same, _, _, rfl, rfl, _, _, rfl, ⟨rfl, d1, _, g4 _ _ (g3 _ _ e2)⟩, _, _, rfl, (tr2.mono (Tups.same (g3.trans g4))).va, rfl⟩, fun G5 g5 => ?_⟩⟩
  rw [if_neg (by rw [Vd.atoms_fork Vd.fork_or, oa]; omega)]
  refine ⟨_, rfl, 1, _, .int 1, rfl, fo, .inr (.inl ⟨rfl, .obj r1, .int 1, fun _ => False, ⟨rfl, d1, _, g5 _ _ (g4 _ _ (g3 _ _ e2))⟩, rfl, (fun t e => (nomatch e)), fun G6 g6 => ?_⟩)⟩
  rw [if_neg (by intro z; cases z)]
  refine ⟨two_fit.2.2.1, fun p3 hp3 => ?_⟩
  have g7 := same_new (o := .lst [.int 0, .int 0, .int 0]) hp3
  refine ⟨_, rfl, two_fit.2.2.1, fun p4 hp4 => ?_⟩
  have g8 := same_new (o := .lst [.int 0, .int 0, .int 0]) hp4
  obtain ⟨dd, dx, dy, gd⟩ := alike_3 (pl_int (by decide)) (SqL.of (g8 _ _ upd_same)) (SqL.of upd_same)
  refine ⟨_, _, dd, rfl, dx, dy, gd, true, rfl, iteF' rfl ?_⟩
  exact done _ _ _ ((g1.trans g2).trans ((g3.trans g4).trans ((g5.trans g6).trans (g7.trans g8))))
theorem rd_rest19 {P : Addr → Prop} {T : Tr} {x0 x1 one : V} {f : Bool} {d1 : Vd} {s2 s4 s5 s7 s8 s9 s10 s11 s13 s14 s15 : Option V} {D : Ends} (fo : Fx19 K C) (tr : TrAt K G v T) (ok : T.ok) (h1 : VA K C P G d1 one) (big : ∀ t, d1 = .int t → t ≤ 10 ^ 50) (hf : d1.num none = f)
    (done : ∀ s14 s15 G', Same G G' → D.nx [some x0, some x1, s2, some v, s4, s5, some one, s7, s8, s9, s10, s11, some (.bl f), s13, s14, s15] G') : rest19 K C D [some x0, some x1, s2, some v, s4, s5, some one, s7, s8, s9, s10, s11, some (.bl f), s13, s14, s15] G := by
  cases f with
  | false => exact ⟨_, rfl, false, rfl, iteF' rfl (iteF' rfl (rd_own19 fo tr ok done))⟩
  | true =>
    rcases h1.num fo with ⟨t, rfl, rfl⟩ | ⟨_, no⟩
    · rw [Vd.numN] at hf
      have c1 := of_decide_eq_true hf
      have ok1 : (Tr.at t 1).ok := ⟨c1, big t rfl, by decide, by decide⟩
      refine ⟨_, rfl, true, rfl, iteT' rfl ?_⟩
      refine ⟨_, rfl, t, 1, rfl, ok1, fo.ru, fun x F hx s R => ?_⟩
      obtain ⟨ra, rd, ru, e, hra, hru, _⟩ := id R
      cases e
      refine ⟨_, rd, _, rfl, hra, lk_tree (by decide +kernel), _, .at t 1, rfl, R, fun u hu => ?_⟩
      refine ⟨_, rfl, two_fit.2.2.1, fun p hp => ?_⟩
      have g2 := same_new (o := .tup [.str "at", .int t, .int 1]) hp
      have g := (gt_tree ok1).good (by show 1 ≤ 64; decide) (by show 5000 * 1 ≤ _; decide)
      refine .inr ⟨(Tr.at t 1).pd, (Tr.at t 1).pd, (hu.mono (Tups.same g2)).dp, .tup (SqT.of upd_same) (.cons (.str _) (.cons (.int _) (.cons (.int _) .nil))), g.sh, g.sh, _, rfl, ?_⟩
      rw [g.same]
      refine iteF' rfl ?_
      have s2 := s.trans g2
      exact rd_own19 fo (tr.mono (Tups.same s2)) ok fun s14 s15 G' s3 => done _ _ _ (s2.trans s3)
    · rw [no] at hf
      cases hf
theorem rd_mid19 {P : Addr → Prop} {T : Tr} {x0 x1 one other w : V} {f g : Bool} {d1 d2 : Vd} {s2 s4 s5 s8 s9 s11 s14 s15 : Option V} {D : Ends} (fo : Fx19 K C) (tr : TrAt K G v T) (ok : T.ok) (h1 : VA K C P G d1 one) (h2 : VA K C P G d2 other) (big : ∀ t, d1 = .int t → t ≤ 10 ^ 50)
    (hf : d1.num none = f) (hg : d2.num (some 6) = g) (hw : w = if f = true then (if g = true then .non else .int 1) else .int 0)
    (done : ∀ s14 s15 G', Same G G' → D.nx [some x0, some x1, s2, some v, s4, s5, some one, some other, s8, s9, some w, s11, some (.bl f), some (.bl g), s14, s15] G') : mid19 K C D [some x0, some x1, s2, some v, s4, s5, some one, some other, s8, s9, some w, s11, some (.bl f), some (.bl g), s14, s15] G := by
  have pw : Pl w := by
    rw [hw]
    split
    · split
      · exact pl_non
      · exact pl_int (by decide)
    · exact pl_int (by decide)
  refine ⟨_, rfl, _, rfl, 1, one, other, rfl, fo, .inr (.inl ⟨rfl, d1, d2, P, h1, h2, big, fun G1 g1 => ?_⟩)⟩
  rw [hf, hg, ← hw]
  refine ⟨_, rfl, _, rfl, 2, one, other, rfl, fo, .inr (.inr ⟨rfl, d1, P, h1.same g1, big, fun G2 g2 => ?_⟩)⟩
  rw [hf]
  have g12 := g1.trans g2
  cases f with
  | false =>
    refine ⟨two_fit.2.1, fun p hp => ?_⟩
    have g3 := same_new (o := .lst [w, .int 0]) hp
    refine ⟨_, rfl, _, rfl, false, rfl, iteF' rfl ⟨two_fit.2.1, fun q hq => ?_⟩⟩
    have g4 := same_new (o := .lst [w, .int 0]) hq
    obtain ⟨dd, dx, dy, gd⟩ := alike_2 pw (pl_int (by decide)) (SqL.of (g4 _ _ upd_same)) (SqL.of upd_same)
    refine ⟨_, _, dd, rfl, dx, dy, gd, true, rfl, iteF' rfl ?_⟩
    have s := g12.trans (g3.trans g4)
    exact rd_rest19 fo (tr.mono (Tups.same s)) ok (h1.same s) big hf fun s14 s15 G' s3 => done _ _ _ (s.trans s3)
  | true =>
    refine ⟨two_fit.2.1, fun p hp => ?_⟩
    have g3 := same_new (o := .lst [w, .non]) hp
    refine ⟨_, rfl, _, rfl, true, rfl, iteT' rfl ⟨two_fit.2.1, fun q hq => ?_⟩⟩
    have g4 := same_new (o := .lst [w, .non]) hq
    obtain ⟨dd, dx, dy, gd⟩ := alike_2 pw pl_non (SqL.of (g4 _ _ upd_same)) (SqL.of upd_same)
    refine ⟨_, _, dd, rfl, dx, dy, gd, true, rfl, iteF' rfl ?_⟩
    have s := g12.trans (g3.trans g4)
    exact rd_rest19 fo (tr.mono (Tups.same s)) ok (h1.same s) big hf fun s14 s15 G' s3 => done _ _ _ (s.trans s3)
theorem rd_end19 {P : Addr → Prop} {T : Tr} {x0 x1 one other : V} {d1 d2 : Vd} {s2 s4 s5 s8 s9 s10 s11 s12 s13 s14 s15 : Option V} {D : Ends} (fo : Fx19 K C) (tr : TrAt K G v T) (ok : T.ok) (h1 : VA K C P G d1 one) (h2 : VA K C P G d2 other) (sp1 : d1.Sp 5000 1)
    (done : ∀ s10 s12 s13 s14 s15 G', Same G G' → D.nx [some x0, some x1, s2, some v, s4, s5, some one, some other, s8, s9, s10, s11, s12, s13, s14, s15] G') : end19 K C D [some x0, some x1, s2, some v, s4, s5, some one, some other, s8, s9, s10, s11, s12, s13, s14, s15] G := by
  have big : ∀ t, d1 = .int t → t ≤ 10 ^ 50 := fun t e => by
    subst e
    have : t.natAbs ≤ 10 ^ 50 := sp1.fi
    omega
  refine ⟨_, rfl, one, d1, P, none, rfl, h1, fo, _, rfl, other, d2, P, some 6, rfl, h2, fo, _, _, rfl, ?_⟩
  cases hf : d1.num none with
  | false =>
    refine ⟨_, rfl, _, rfl, iteF' rfl ?_⟩
    exact rd_mid19 (g := d2.num (some 6)) fo tr ok h1 h2 big hf rfl rfl fun s14 s15 G' s => done _ _ _ _ _ _ s
  | true =>
    refine ⟨_, rfl, _, rfl, iteT' rfl ⟨_, rfl, _, rfl, ?_⟩⟩
    cases hg : d2.num (some 6) with
    | false => exact iteF' rfl (rd_mid19 fo tr ok h1 h2 big hf hg rfl fun s14 s15 G' s => done _ _ _ _ _ _ s)
    | true => exact iteT' rfl (rd_mid19 fo tr ok h1 h2 big hf hg rfl fun s14 s15 G' s => done _ _ _ _ _ _ s)
theorem rd_inn19 {P : Addr → Prop} {x0 x1 x w : V} {s2 s3 s4 s5 s6 s7 s11 s12 s13 s14 s15 : Option V} {D : Ends} (fo : Fx19 K C) (va : VA K C P G d x) (told : d.Told) (hw : w = if d.atoms < 7 then .non else .int 0)
    (done : ∀ s11 G', Same G G' → D.nx [some x0, some x1, s2, s3, s4, s5, s6, s7, some x, some (.str d.pd.shown), some w, s11, s12, s13, s14, s15] G') : inn19 K C D [some x0, some x1, s2, s3, s4, s5, s6, s7, some x, some (.str d.pd.shown), some w, s11, s12, s13, s14, s15] G := by
  have pw : Pl w := by
    rw [hw]
    split
    · exact pl_non
    · exact pl_int (by decide)
  refine ⟨2, rfl, by decide, by decide, ?_⟩
  refine for_range (lo := 0) (n := 2) (fun j σ' F => ∃ s11, σ' = [some x0, some x1, s2, s3, s4, s5, s6, s7, some x, some (.str d.pd.shown), some w, s11, s12, s13, s14, s15] ∧ Same G F) ⟨_, rfl, Same.refl _⟩ ?_ (fun σ' F ⟨_, e, s⟩ => by subst e; exact done _ _ s)
  rintro j σ' F hj ⟨s11, rfl, sF⟩
  refine ⟨_, rfl, 0, x, .non, rfl, fo, .inl ⟨rfl, d, P, va.same sF, fun F1 f1 => ?_⟩⟩
  refine ⟨_, rfl, ?_⟩
  rw [← hw]
  obtain ⟨dd, dx, gd⟩ := alike_1 pw (K := K) (H := F1)
  refine ⟨_, _, dd, rfl, dx, dx, gd, true, rfl, iteF' rfl ?_⟩
  have s1 := sF.trans f1
  refine ⟨_, rfl, x, d, P, rfl, va.same s1, told, _, rfl, .inl ⟨rfl, _, rfl, ?_⟩⟩
  exact iteF' (by rw [decide_eq_true rfl]; rfl) ⟨_, rfl, s1⟩
theorem rd_loop19 {P : Addr → Prop} {x0 x1 x : V} {s2 s3 s4 s5 s6 s7 s9 s10 s11 s12 s13 s14 s15 : Option V} {D : Ends} (fo : Fx19 K C) (va : VA K C P G d x) (told : d.Told) (dep : d.pd.depth < 70)
    (done : ∀ s9 s10 s11 G', Same G G' → D.nx [some x0, some x1, s2, s3, s4, s5, s6, s7, some x, s9, s10, s11, s12, s13, s14, s15] G') : loop19 K C D [some x0, some x1, s2, s3, s4, s5, s6, s7, some x, s9, s10, s11, s12, s13, s14, s15] G := by
  refine ⟨_, rfl, x, d, P, rfl, va, told, ?_⟩
  refine ⟨_, rfl, x, d, P, rfl, va, fo, dep, fun G1 g1 => ⟨_, _, rfl, rfl, _, rfl, ?_⟩⟩
  refine ifD (fun c => ?_) (fun c => ?_)
  · exact rd_inn19 fo (va.same g1) told (by rw [if_pos (by omega)]) fun s11 G' s => done _ _ _ _ (g1.trans s)
  · exact rd_inn19 fo (va.same g1) told (by rw [if_neg (by omega)]) fun s11 G' s => done _ _ _ _ (g1.trans s)
/-- a thing that can be shown and looked at -/
def Vd.Go (d : Vd) : Prop := d.Told ∧ d.pd.depth < 70
theorem Vd.Sp.go {d : Vd} {s p : Nat} (h : d.Sp s p) (hs : s ≤ 16000000) (hp : p ≤ 60) : d.Go := ⟨h.told hs hp, by have := h.dep; omega⟩
theorem tree_go {T : Tr} (ok : T.ok) (l : T.lv ≤ 18) (dp : T.dp ≤ 18) : T.vd.Tp 90000 18 := (Tr.parts ok).1.le (by omega) dp
theorem lst_one {d : Vd} {s p : Nat} (h : d.Tp s p) : (Vd.lst [d]).Sp (s + 12) (p + 1) := by
  refine ⟨⟨h.fi, trivial⟩, ?_, ?_, .inr ?_⟩
  · show 8 + (d.sz + 4 + 0) ≤ _
    have := h.sz
    omega
  · show (PyData.list [d.pd]).depth ≤ p + 1
    simp only [PyData.depth, PyData.depthAll]
    have := h.dep
    omega
  · show (d.hasD || false) = false
    rw [h.nd]
    rfl
theorem tup_one {d : Vd} {s p : Nat} (h : d.Tp s p) : (Vd.tup [d]).Sp (s + 12) (p + 1) := by
  refine ⟨⟨h.fi, trivial⟩, ?_, ?_, .inl ?_⟩
  · show 8 + (d.sz + 4 + 0) ≤ _
    have := h.sz
    omega
  · show (PyData.tuple [d.pd]).depth ≤ p + 1
    simp only [PyData.depth, PyData.depthAll]
    have := h.dep
    omega
  · show (d.hasL || false) = false
    rw [h.nl]
    rfl
theorem zeros_go {n : Nat} (few : n ≤ 9000) : (zeros n).Go := by
  have q := zeros_told few
  exact ⟨q, by have := q.dep; omega⟩
/-- what the things are made of -/
structure S19 (K : PySem.W.Frag) (C : Cs) (G : Hp) (b l : Addr) (v : V) (T : Tr) (q : V) (T2 : Tr) (one other : V) (d1 d2 : Vd) : Prop where
  bag : Bag G b l
  tr : TrAt K G v T
  dp : TrAt K G q T2
  o1 : VA K C (Is b) G d1 one
  o2 : VA K C (Is b) G d2 other
theorem S19.step {v q one other : V} {T T2 : Tr} {d1 d2 : Vd} (S : S19 K C G b l v T q T2 one other d1 d2) (k : Kp b G G') (B : Bag G' b l) : S19 K C G' b l v T q T2 one other d1 d2 :=
  ⟨B, S.tr.mono (S.bag.tups k), S.dp.mono (S.bag.tups k), S.o1.bag rfl S.bag k, S.o2.bag rfl S.bag k⟩
theorem S19.same {v q one other : V} {T T2 : Tr} {d1 d2 : Vd} (S : S19 K C G b l v T q T2 one other d1 d2) (s : Same G G') : S19 K C G' b l v T q T2 one other d1 d2 := S.step (Kp.of s) (S.bag.same s)
def deep19 (K : PySem.W.Frag) (C : Cs) : TS :=
  (tSeq (tFor (iRng1 (tCons (tCall (sp_law_take K) [] E0 (tCons (tVar 1) (tCons (tC (.int 18)) tNil))) tNil)) (gName 5) (tAsg (tTup (tCons (tOp (rIx K) (tLst (tCons (tC (.str "or")) (tCons (tC (.str "and")) tNil))) (tCall (sp_law_take K) [] E0 (tCons (tVar 1) (tCons (tC (.int 2)) tNil)))) (tCons (tVar 4) (tCons (tTup (tCons (tC (.str "at")) (tCons (tOp (rAddU K) (tC (.int 1)) (tVar 5)) (tCons (tC (.int 1)) tNil)))) tNil)))) (gName 4)))
    (tSeq (tFor (iTup K (tTup (tCons (tVar 3) (tCons (tCall (sp_law_spoilt K C 12) [] E0 (tCons (tVar 1) (tCons (tVar 3) tNil))) (tCons (tVar 6) (tCons (tLst (tCons (tVar 3) tNil)) (tCons (tTup (tCons (tVar 3) tNil)) (tCons (tVar 4) (tCons (tOp (rMulU K) (tLst (tCons (tC (.int 0)) tNil)) (tC (.int 9000))) (tCons (tOp (rMulU K) (tTup (tCons (tVar 4) tNil)) (tC (.int 3))) tNil)))))))))) (gName 8) (tSeq (tAsg (tCB (rReprV K C) (tCons (tVar 8) tNil)) (gName 9))
    (tSeq (tAsg (tIf (tTest (tOp (rLtI) (tCall (sp_law_atoms K C 70) [] E0 (tCons (tVar 8) tNil)) (tC (.int 7)))) (tC .non) (tC (.int 0))) (gName 10))
    (tFor (iRng1 (tCons (tC (.int 2)) tNil)) (gName 11) (tIfS (tOr (tNot (tB (tCall (sp_law_alike K) [] E0 (tCons (tCall (sp_law_refused K C) [] E0 (tCons (tC (.int 0)) (tCons (tVar 8) (tCons (tC .non) tNil)))) (tCons (tVar 10) tNil))))) (tTest (tOp (rNeU K) (tCB (rReprV K C) (tCons (tVar 8) tNil)) (tVar 9)))) (tRet (tC (.bl false))) tNext)))))
    (tSeq (tPar 12 13 (tCons (tCall (sp_law_is_number K C) [] E0 (tCons (tVar 6) (tCons (tC .non) tNil))) (tCons (tCall (sp_law_is_number K C) [] E0 (tCons (tVar 7) (tCons (tC (.int 6)) tNil))) tNil)))
    (tSeq (tAsg (tIf (tB (tVar 12)) (tIf (tB (tVar 13)) (tC .non) (tC (.int 1))) (tC (.int 0))) (gName 10))
    (tSeq (tIfS (tNot (tB (tCall (sp_law_alike K) [] E0 (tCons (tLst (tCons (tCall (sp_law_refused K C) [] E0 (tCons (tC (.int 1)) (tCons (tVar 6) (tCons (tVar 7) tNil)))) (tCons (tCall (sp_law_refused K C) [] E0 (tCons (tC (.int 2)) (tCons (tVar 6) (tCons (tVar 7) tNil)))) tNil))) (tCons (tLst (tCons (tVar 10) (tCons (tIf (tB (tVar 12)) (tC .non) (tC (.int 0))) tNil))) tNil))))) (tRet (tC (.bl false))) tNext)
    (tSeq (tIfS (tAnd (tB (tVar 12)) (tTest (tOp (rNeU K) (tMeth C.Rule "tree" (sp_Rule_tree K C) [] E0 (tCall (sp_at_least K C) [.int 1] E0 (tCons (tVar 6) tNil)) tNil) (tTup (tCons (tC (.str "at")) (tCons (tVar 6) (tCons (tC (.int 1)) tNil))))))) (tRet (tC (.bl false))) tNext)
    (tSeq (tAsg (tMake C.Rule (sp_Rule___init__ K C) [] E0 (tCons (tTup (tCons (tC (.str "at")) (tCons (tC (.int 2)) (tCons (tC (.int 1)) tNil)))) tNil)) (gName 14))
    (tSeq (tAsg (tLst (tCons (tCall (sp_law_refused K C) [] E0 (tCons (tC (.int 0)) (tCons (tVar 14) (tCons (tC .non) tNil)))) (tCons (tCall (sp_law_refused K C) [] E0 (tCons (tC (.int 0)) (tCons (tTup (tCons (tC (.str "or")) (tCons (tVar 14) (tCons (tVar 3) tNil)))) (tCons (tC .non) tNil)))) (tCons (tCall (sp_law_refused K C) [] E0 (tCons (tC (.int 1)) (tCons (tVar 14) (tCons (tC (.int 1)) tNil)))) tNil)))) (gName 15))
    (tIfS (tNot (tB (tCall (sp_law_alike K) [] E0 (tCons (tVar 15) (tCons (tLst (tCons (tC (.int 0)) (tCons (tC (.int 0)) (tCons (tC (.int 0)) tNil)))) tNil))))) (tRet (tC (.bl false))) tNext)))))))))
def thing19 (K : PySem.W.Frag) (C : Cs) : TS :=
  (tSeq (tFor (iTup K (tTup (tCons (tVar 3) (tCons (tCall (sp_law_spoilt K C 12) [] E0 (tCons (tVar 1) (tCons (tVar 3) tNil))) (tCons (tVar 6) (tCons (tLst (tCons (tVar 3) tNil)) (tCons (tTup (tCons (tVar 3) tNil)) (tCons (tVar 4) (tCons (tOp (rMulU K) (tLst (tCons (tC (.int 0)) tNil)) (tC (.int 9000))) (tCons (tOp (rMulU K) (tTup (tCons (tVar 4) tNil)) (tC (.int 3))) tNil)))))))))) (gName 8) (tSeq (tAsg (tCB (rReprV K C) (tCons (tVar 8) tNil)) (gName 9))
    (tSeq (tAsg (tIf (tTest (tOp (rLtI) (tCall (sp_law_atoms K C 70) [] E0 (tCons (tVar 8) tNil)) (tC (.int 7)))) (tC .non) (tC (.int 0))) (gName 10))
    (tFor (iRng1 (tCons (tC (.int 2)) tNil)) (gName 11) (tIfS (tOr (tNot (tB (tCall (sp_law_alike K) [] E0 (tCons (tCall (sp_law_refused K C) [] E0 (tCons (tC (.int 0)) (tCons (tVar 8) (tCons (tC .non) tNil)))) (tCons (tVar 10) tNil))))) (tTest (tOp (rNeU K) (tCB (rReprV K C) (tCons (tVar 8) tNil)) (tVar 9)))) (tRet (tC (.bl false))) tNext)))))
    (tSeq (tPar 12 13 (tCons (tCall (sp_law_is_number K C) [] E0 (tCons (tVar 6) (tCons (tC .non) tNil))) (tCons (tCall (sp_law_is_number K C) [] E0 (tCons (tVar 7) (tCons (tC (.int 6)) tNil))) tNil)))
    (tSeq (tAsg (tIf (tB (tVar 12)) (tIf (tB (tVar 13)) (tC .non) (tC (.int 1))) (tC (.int 0))) (gName 10))
    (tSeq (tIfS (tNot (tB (tCall (sp_law_alike K) [] E0 (tCons (tLst (tCons (tCall (sp_law_refused K C) [] E0 (tCons (tC (.int 1)) (tCons (tVar 6) (tCons (tVar 7) tNil)))) (tCons (tCall (sp_law_refused K C) [] E0 (tCons (tC (.int 2)) (tCons (tVar 6) (tCons (tVar 7) tNil)))) tNil))) (tCons (tLst (tCons (tVar 10) (tCons (tIf (tB (tVar 12)) (tC .non) (tC (.int 0))) tNil))) tNil))))) (tRet (tC (.bl false))) tNext)
    (tSeq (tIfS (tAnd (tB (tVar 12)) (tTest (tOp (rNeU K) (tMeth C.Rule "tree" (sp_Rule_tree K C) [] E0 (tCall (sp_at_least K C) [.int 1] E0 (tCons (tVar 6) tNil)) tNil) (tTup (tCons (tC (.str "at")) (tCons (tVar 6) (tCons (tC (.int 1)) tNil))))))) (tRet (tC (.bl false))) tNext)
    (tSeq (tAsg (tMake C.Rule (sp_Rule___init__ K C) [] E0 (tCons (tTup (tCons (tC (.str "at")) (tCons (tC (.int 2)) (tCons (tC (.int 1)) tNil)))) tNil)) (gName 14))
    (tSeq (tAsg (tLst (tCons (tCall (sp_law_refused K C) [] E0 (tCons (tC (.int 0)) (tCons (tVar 14) (tCons (tC .non) tNil)))) (tCons (tCall (sp_law_refused K C) [] E0 (tCons (tC (.int 0)) (tCons (tTup (tCons (tC (.str "or")) (tCons (tVar 14) (tCons (tVar 3) tNil)))) (tCons (tC .non) tNil)))) (tCons (tCall (sp_law_refused K C) [] E0 (tCons (tC (.int 1)) (tCons (tVar 14) (tCons (tC (.int 1)) tNil)))) tNil)))) (gName 15))
    (tIfS (tNot (tB (tCall (sp_law_alike K) [] E0 (tCons (tVar 15) (tCons (tLst (tCons (tC (.int 0)) (tCons (tC (.int 0)) (tCons (tC (.int 0)) tNil)))) tNil))))) (tRet (tC (.bl false))) tNext))))))))
theorem rd_thing19 {i : Int} {v q one other : V} {T T2 : Tr} {d1 d2 : Vd} {s5 s8 s9 s10 s11 s12 s13 s14 s15 : Option V} {D : Ends} (fo : Fx19 K C) (S : S19 K C G b l v T q T2 one other d1 d2) (ok : T.ok) (l9 : T.lv ≤ 9) (ok2 : T2.ok) (l18 : T2.lv ≤ 18) (sp1 : d1.Sp 5000 1)
    (done : ∀ s8 s9 s10 s11 s12 s13 s14 s15 G', Bag G' b l → D.nx [some (.ref a), some (.ref b), some (.int (0 + i)), some v, some q, s5, some one, some other, s8, s9, s10, s11, s12, s13, s14, s15] G') : thing19 K C D [some (.ref a), some (.ref b), some (.int (0 + i)), some v, some q, s5, some one, some other, s8, s9, s10, s11, s12, s13, s14, s15] G := by
  have dT := T.dp_le
  have dT2 := T2.dp_le
  have g1 := tree_go ok (by omega) (by omega)
  have g2 := tree_go ok2 l18 (by omega)
  refine ⟨_, rfl, _, rfl, _, rfl, b, l, v, T, rfl, S.bag, S.tr, ok, l9, by omega, fun u e G1 hu su B1 k1 => ?_⟩
  have S1 := S.step k1 B1
  refine ⟨_, rfl, _, rfl, two_fit.1, fun p1 h1 => ?_⟩
  have f1 := same_new (o := .lst [v]) h1
  have e1 : (upd G1 p1 (.lst [v])) p1 = some (.lst [v]) := upd_same
  generalize upd G1 p1 (.lst [v]) = G2 at f1 e1 ⊢
  refine ⟨_, rfl, two_fit.1, fun p2 h2 => ?_⟩
  have f2 := same_new (o := .tup [v]) h2
  have e2 : (upd G2 p2 (.tup [v])) p2 = some (.tup [v]) := upd_same
  generalize upd G2 p2 (.tup [v]) = G3 at f2 e2 ⊢
  refine ⟨_, rfl, two_fit.1, fun p3 h3 => ?_⟩
  have f3 := same_new (o := .lst [.int 0]) h3
  have e3 : (upd G3 p3 (.lst [.int 0])) p3 = some (.lst [.int 0]) := upd_same
  generalize upd G3 p3 (.lst [.int 0]) = G4 at f3 e3 ⊢
  refine .inr (.inr (.inl ⟨p3, 9000, _, rfl, rfl, e3, by decide, by decide, by show 1 * 9000 ≤ sizeLine; rw [sizeLine_eq]; decide, fun p4 h4 => ?_⟩))
  obtain ⟨n, hn, few⟩ : ∃ n : Nat, (9000 : Int).toNat = n ∧ n ≤ 9000 := ⟨_, rfl, by decide⟩
  rw [hn, flat_one]
  have f4 := same_new (o := .lst (List.replicate n (.int 0))) h4
  have e4 : (upd G4 p4 (.lst (List.replicate n (.int 0)))) p4 = some (.lst (List.replicate n (.int 0))) := upd_same
  generalize upd G4 p4 (.lst (List.replicate n (.int 0))) = G5 at f4 e4 ⊢
  refine ⟨_, rfl, two_fit.1, fun p5 h5 => ?_⟩
  have f5 := same_new (o := .tup [q]) h5
  have e5 : (upd G5 p5 (.tup [q])) p5 = some (.tup [q]) := upd_same
  generalize upd G5 p5 (.tup [q]) = G6 at f5 e5 ⊢
  refine .inr (.inr (.inr ⟨p5, 3, _, rfl, rfl, SqT.of e5, by simp, by decide, by decide, by show 1 ≤ 1000; decide, fun p6 h6 => ?_⟩))
  have f6 := same_new (o := .tup (List.replicate (3 : Int).toNat [q]).flatten) h6
  have e6 : (upd G6 p6 (.tup (List.replicate (3 : Int).toNat [q]).flatten)) p6 = some (.tup [q, q, q]) := upd_same
  generalize upd G6 p6 (.tup (List.replicate (3 : Int).toNat [q]).flatten) = G7 at f6 e6 ⊢
  refine ⟨Nat.le_of_lt (small1000 (show 8 ≤ 1000 by decide)), fun pt ht => ?_⟩
  have f7 := same_new (o := .tup [v, u, one, .ref p1, .ref p2, q, .ref p4, .ref p6]) ht
  have e7 : (upd G7 pt (.tup [v, u, one, .ref p1, .ref p2, q, .ref p4, .ref p6])) pt = some (.tup [v, u, one, .ref p1, .ref p2, q, .ref p4, .ref p6]) := upd_same
  generalize upd G7 pt (.tup [v, u, one, .ref p1, .ref p2, q, .ref p4, .ref p6]) = G8 at f7 e7 ⊢
  have s47 := f4.trans (f5.trans (f6.trans f7))
  have s27 := f2.trans (f3.trans s47)
  have s := f1.trans s27
  have S8 := S1.same s
  have n1 : ¬ Is b p1 := B1.nb h1
  have n4 : ¬ Is b p4 := (B1.same (f1.trans (f2.trans f3))).nb h4
  have hT : VA K C (Is b) G8 T.vd v := S8.tr.va
  have hT2 : VA K C (Is b) G8 T2.vd q := S8.dp.va
  have vas : VAs K C (Is b) G8 [T.vd, e, d1, .lst [T.vd], .tup [T.vd], T2.vd, zeros n, .tup [T2.vd, T2.vd, T2.vd]] [v, u, one, .ref p1, .ref p2, q, .ref p4, .ref p6] :=
    ⟨_, _, rfl, hT, _, _, rfl, hu.same s, _, _, rfl, S8.o1, _, _, rfl, ⟨p1, _, rfl, s27 _ _ e1, n1, VAs.one hT⟩, _, _, rfl, ⟨p2, _, rfl, SqT.of (f3.trans s47 _ _ e2), VAs.one hT⟩, _, _, rfl, hT2,
      _, _, rfl, ⟨p4, _, rfl, (f5.trans (f6.trans f7)) _ _ e4, n4, VAs.rep (d := .int 0) (v := .int 0) rfl n⟩, _, _, rfl, ⟨p6, _, rfl, SqT.of (f7 _ _ e6), _, _, rfl, hT2, _, _, rfl, hT2, _, _, rfl, hT2, rfl⟩, rfl⟩
  have gos : ∀ d ∈ [T.vd, e, d1, .lst [T.vd], .tup [T.vd], T2.vd, zeros n, .tup [T2.vd, T2.vd, T2.vd]], d.Go := by
    intro d hd
    simp only [List.mem_cons, List.not_mem_nil, or_false] at hd
    rcases hd with rfl | rfl | rfl | rfl | rfl | rfl | rfl | rfl
    · exact g1.sp.go (by decide) (by decide)
    · exact su.go (by omega) (by omega)
    · exact sp1.go (by decide) (by decide)
    · exact (lst_one g1).go (by decide) (by decide)
    · exact (tup_one g1).go (by decide) (by decide)
    · exact g2.sp.go (by decide) (by decide)
    · exact zeros_go few
    · exact (g2.tup3 g2 g2).sp.go (by decide) (by decide)
  generalize hds : [T.vd, e, d1, .lst [T.vd], .tup [T.vd], T2.vd, zeros n, .tup [T2.vd, T2.vd, T2.vd]] = ds at vas gos
  generalize hxs : [v, u, one, .ref p1, .ref p2, q, .ref p4, .ref p6] = xs at vas e7
  clear hds hxs
  refine ⟨pt, rfl, ⟨_, SqT.of e7⟩, ?_⟩
  refine for_tup (K := K) (a := pt) (xs := xs) (fun j σ' F => ∃ s8 s9 s10 s11, σ' = [some (.ref a), some (.ref b), some (.int (0 + i)), some v, some q, s5, some one, some other, s8, s9, s10, s11, s12, s13, s14, s15] ∧ Same G8 F) ⟨_, _, _, _, rfl, Same.refl _⟩ (fun j σ' F _ ⟨_, _, _, _, _, sF⟩ => SqT.of (sF _ _ e7)) ?_ ?_
  · rintro j x σ' F hx ⟨s8, s9, s10, s11, rfl, sF⟩
    obtain ⟨d, hd, va⟩ := vas.get hx
    have go := gos d (List.mem_of_getElem? hd)
    exact rd_loop19 fo (va.same sF) go.1 go.2 fun s9 s10 s11 G' s' => ⟨_, _, _, _, rfl, sF.trans s'⟩
  · rintro σ' F ⟨s8, s9, s10, s11, rfl, sF⟩
    have SF := S8.same sF
    exact rd_end19 fo SF.tr ok SF.o1 SF.o2 sp1 fun s10 s12 s13 s14 s15 G' s' => done _ _ _ _ _ _ _ _ _ (SF.bag.same s')
theorem rd_deep19 {i : Int} {v one other : V} {q : Addr} {T : Tr} {d1 d2 : Vd} {s5 s8 s9 s10 s11 s12 s13 s14 s15 : Option V} {D : Ends} (fo : Fx19 K C) (S : S19 K C G b l v T (.ref q) (.at 1 1) one other d1 d2) (ok : T.ok) (l9 : T.lv ≤ 9) (sp1 : d1.Sp 5000 1)
    (done : ∀ q s5 s8 s9 s10 s11 s12 s13 s14 s15 G', Bag G' b l → D.nx [some (.ref a), some (.ref b), some (.int (0 + i)), some v, some q, s5, some one, some other, s8, s9, s10, s11, s12, s13, s14, s15] G') : deep19 K C D [some (.ref a), some (.ref b), some (.int (0 + i)), some v, some (.ref q), s5, some one, some other, s8, s9, s10, s11, s12, s13, s14, s15] G := by
  refine ⟨_, rfl, b, l, 18, rfl, S.bag, by decide, by decide, fun m G1 m0 m1 B1 k1 => ⟨m, rfl, by omega, by omega, ?_⟩⟩
  refine for_range (lo := 0) (n := m.toNat) (fun j σ' F => ∃ q T2 s5, σ' = [some (.ref a), some (.ref b), some (.int (0 + i)), some v, some q, s5, some one, some other, s8, s9, s10, s11, s12, s13, s14, s15] ∧ S19 K C F b l v T q T2 one other d1 d2 ∧ T2.ok ∧ T2.lv = j + 1) ⟨_, _, _, rfl, S.step k1 B1, one_at, rfl⟩ ?_ ?_
  · rintro j σ' F hj ⟨q, T2, s5, rfl, SF, o2, l2⟩
    refine ⟨two_fit.2.1, fun p hp => ?_⟩
    have g0 := same_new (o := .lst [V.str "or", .str "and"]) hp
    refine ⟨_, rfl, b, l, 2, rfl, SF.bag.same g0, by decide, by decide, fun c F1 c0 c1 B2 k2 => ?_⟩
    obtain ⟨w, hw, cw⟩ := pick2 (x := V.str "or") (y := .str "and") c0 c1
    refine .inl ⟨p, _, c, w, rfl, rfl, SqL.of (k2 _ _ upd_same (SF.bag.nb hp)), hw, ?_⟩
    refine ⟨_, rfl, _, rfl, .inl ⟨_, _, rfl, rfl, two_fit.2.2.1, fun p2 h2 => ?_⟩⟩
    have g1 := same_new (o := .tup [V.str "at", .int (1 + (0 + (j : Int))), .int 1]) h2
    refine ⟨two_fit.2.2.1, fun p3 h3 => ?_⟩
    have g2 := same_new (o := .tup [w, q, .ref p2]) h3
    have S3 := (((SF.same g0).step k2 B2).same g1).same g2
    have leaf : TrAt K (upd (upd F1 p2 (.tup [V.str "at", .int (1 + (0 + (j : Int))), .int 1])) p3 (.tup [w, q, .ref p2])) (.ref p2) (.at (1 + (0 + (j : Int))) 1) := ⟨p2, rfl, SqT.of (g2 _ _ upd_same)⟩
    have lok : (Tr.at (1 + (0 + (j : Int))) 1).ok := ⟨by omega, by omega, by decide, by decide⟩
    rcases cw with ⟨_, rfl⟩ | ⟨_, rfl⟩
    · exact ⟨.ref p3, .or T2 (.at (1 + (0 + (j : Int))) 1), _, rfl, ⟨S3.bag, S3.tr, ⟨p3, _, _, rfl, SqT.of upd_same, S3.dp, leaf⟩, S3.o1, S3.o2⟩, ⟨o2, lok⟩, by show T2.lv + 1 = _; omega⟩
    · exact ⟨.ref p3, .and T2 (.at (1 + (0 + (j : Int))) 1), _, rfl, ⟨S3.bag, S3.tr, ⟨p3, _, _, rfl, SqT.of upd_same, S3.dp, leaf⟩, S3.o1, S3.o2⟩, ⟨o2, lok⟩, by show T2.lv + 1 = _; omega⟩
  · rintro σ' F ⟨q, T2, s5, rfl, SF, o2, l2⟩
    exact rd_thing19 fo SF ok l9 o2 (by omega) sp1 fun s8 s9 s10 s11 s12 s13 s14 s15 G' B' => done _ _ _ _ _ _ _ _ _ _ _ B'
def t_law (K : PySem.W.Frag) (C : Cs) : TS :=
  (tSeq (tAsg (tCall (sp_law_bag K) [] E0 (tCons (tVar 0) tNil)) (gName 1))
    (tSeq (tFor (iRng1 (tCons (tC (.int 6)) tNil)) (gName 2) (tSeq (tPar 3 4 (tCons (tCall (sp_law_draw_rule K) [] E0 (tCons (tVar 1) (tCons (tC (.int 30)) (tCons (tOp (rPowI) (tC (.int 10)) (tC (.int 30))) (tCons (tOp (rAddU K) (tC (.int 1)) (tCall (sp_law_take K) [] E0 (tCons (tVar 1) (tCons (tC (.int 9)) tNil)))) tNil))))) (tCons (tTup (tCons (tC (.str "at")) (tCons (tC (.int 1)) (tCons (tC (.int 1)) tNil)))) tNil)))
    (tSeq (tAsg (tLc (iRng1 (tCons (tC (.int 2)) tNil)) (gName 5) tYes (tIf (tTest (tOp (rEqU K) (tCall (sp_law_take K) [] E0 (tCons (tVar 1) (tCons (tC (.int 2)) tNil))) (tC (.int 0)))) (tCall (sp_law_odd K C) [] E0 (tCons (tVar 1) tNil)) (tOp (rAddU K) (tC (.int 1)) (tCall (sp_law_take K) [] E0 (tCons (tVar 1) (tCons (tC (.int 6)) tNil))))) [5]) (gLst K 2 (gCons (gName 6) (gCons (gName 7) gNil))))
    (tSeq (tFor (iRng1 (tCons (tCall (sp_law_take K) [] E0 (tCons (tVar 1) (tCons (tC (.int 18)) tNil))) tNil)) (gName 5) (tAsg (tTup (tCons (tOp (rIx K) (tLst (tCons (tC (.str "or")) (tCons (tC (.str "and")) tNil))) (tCall (sp_law_take K) [] E0 (tCons (tVar 1) (tCons (tC (.int 2)) tNil)))) (tCons (tVar 4) (tCons (tTup (tCons (tC (.str "at")) (tCons (tOp (rAddU K) (tC (.int 1)) (tVar 5)) (tCons (tC (.int 1)) tNil)))) tNil)))) (gName 4)))
    (tSeq (tFor (iTup K (tTup (tCons (tVar 3) (tCons (tCall (sp_law_spoilt K C 12) [] E0 (tCons (tVar 1) (tCons (tVar 3) tNil))) (tCons (tVar 6) (tCons (tLst (tCons (tVar 3) tNil)) (tCons (tTup (tCons (tVar 3) tNil)) (tCons (tVar 4) (tCons (tOp (rMulU K) (tLst (tCons (tC (.int 0)) tNil)) (tC (.int 9000))) (tCons (tOp (rMulU K) (tTup (tCons (tVar 4) tNil)) (tC (.int 3))) tNil)))))))))) (gName 8) (tSeq (tAsg (tCB (rReprV K C) (tCons (tVar 8) tNil)) (gName 9))
    (tSeq (tAsg (tIf (tTest (tOp (rLtI) (tCall (sp_law_atoms K C 70) [] E0 (tCons (tVar 8) tNil)) (tC (.int 7)))) (tC .non) (tC (.int 0))) (gName 10))
    (tFor (iRng1 (tCons (tC (.int 2)) tNil)) (gName 11) (tIfS (tOr (tNot (tB (tCall (sp_law_alike K) [] E0 (tCons (tCall (sp_law_refused K C) [] E0 (tCons (tC (.int 0)) (tCons (tVar 8) (tCons (tC .non) tNil)))) (tCons (tVar 10) tNil))))) (tTest (tOp (rNeU K) (tCB (rReprV K C) (tCons (tVar 8) tNil)) (tVar 9)))) (tRet (tC (.bl false))) tNext)))))
    (tSeq (tPar 12 13 (tCons (tCall (sp_law_is_number K C) [] E0 (tCons (tVar 6) (tCons (tC .non) tNil))) (tCons (tCall (sp_law_is_number K C) [] E0 (tCons (tVar 7) (tCons (tC (.int 6)) tNil))) tNil)))
    (tSeq (tAsg (tIf (tB (tVar 12)) (tIf (tB (tVar 13)) (tC .non) (tC (.int 1))) (tC (.int 0))) (gName 10))
    (tSeq (tIfS (tNot (tB (tCall (sp_law_alike K) [] E0 (tCons (tLst (tCons (tCall (sp_law_refused K C) [] E0 (tCons (tC (.int 1)) (tCons (tVar 6) (tCons (tVar 7) tNil)))) (tCons (tCall (sp_law_refused K C) [] E0 (tCons (tC (.int 2)) (tCons (tVar 6) (tCons (tVar 7) tNil)))) tNil))) (tCons (tLst (tCons (tVar 10) (tCons (tIf (tB (tVar 12)) (tC .non) (tC (.int 0))) tNil))) tNil))))) (tRet (tC (.bl false))) tNext)
    (tSeq (tIfS (tAnd (tB (tVar 12)) (tTest (tOp (rNeU K) (tMeth C.Rule "tree" (sp_Rule_tree K C) [] E0 (tCall (sp_at_least K C) [.int 1] E0 (tCons (tVar 6) tNil)) tNil) (tTup (tCons (tC (.str "at")) (tCons (tVar 6) (tCons (tC (.int 1)) tNil))))))) (tRet (tC (.bl false))) tNext)
    (tSeq (tAsg (tMake C.Rule (sp_Rule___init__ K C) [] E0 (tCons (tTup (tCons (tC (.str "at")) (tCons (tC (.int 2)) (tCons (tC (.int 1)) tNil)))) tNil)) (gName 14))
    (tSeq (tAsg (tLst (tCons (tCall (sp_law_refused K C) [] E0 (tCons (tC (.int 0)) (tCons (tVar 14) (tCons (tC .non) tNil)))) (tCons (tCall (sp_law_refused K C) [] E0 (tCons (tC (.int 0)) (tCons (tTup (tCons (tC (.str "or")) (tCons (tVar 14) (tCons (tVar 3) tNil)))) (tCons (tC .non) tNil)))) (tCons (tCall (sp_law_refused K C) [] E0 (tCons (tC (.int 1)) (tCons (tVar 14) (tCons (tC (.int 1)) tNil)))) tNil)))) (gName 15))
    (tIfS (tNot (tB (tCall (sp_law_alike K) [] E0 (tCons (tVar 15) (tCons (tLst (tCons (tC (.int 0)) (tCons (tC (.int 0)) (tCons (tC (.int 0)) tNil)))) tNil))))) (tRet (tC (.bl false))) tNext))))))))))))
    (tRet (tC (.bl true)))))
theorem rd_law (fo : Fx19 K C) (h : sp_law K vs H Q E) : t_law K C (EndsOf Q) (start ["", "", "", "", "", "", "", "", "", "", "", "", "", "", "", ""] vs) H := by
  obtain ⟨a, ns, rfl, hS, _, k⟩ := h
  refine ⟨_, rfl, a, ns, rfl, hS, fun b l H1 hb hl B s1 => ?_⟩
  clear hS hb hl s1
  refine ⟨6, rfl, by decide, by decide, ?_⟩
  refine for_range (lo := 0) (n := 6) (fun i σ' G => ∃ s2 s3 s4 s5 s6 s7 s8 s9 s10 s11 s12 s13 s14 s15, σ' = [some (.ref a), some (.ref b), s2, s3, s4, s5, s6, s7, s8, s9, s10, s11, s12, s13, s14, s15] ∧ Bag G b l) ⟨_, _, _, _, _, _, _, _, _, _, _, _, _, _, rfl, B⟩ ?_ (fun σ' G _ => k G)
  clear B
  rintro i σ' G hi ⟨s2, s3, s4, s5, s6, s7, s8, s9, s10, s11, s12, s13, s14, s15, rfl, B⟩
  refine ⟨_, rfl, _, _, rfl, rfl, ⟨by decide, by decide, by decide⟩, ?_⟩
  refine ⟨_, rfl, b, l, 9, rfl, B, by decide, by decide, fun m G1 m0 m1 B1 k1 => .inl ⟨_, _, rfl, rfl, ?_⟩⟩
  refine ⟨b, l, 30, _, _, rfl, B1, by decide, by decide, by decide +kernel, by decide +kernel, by omega, by omega, fun v T G2 t0 ok _ lv B2 k2 => ?_⟩
  refine ⟨two_fit.2.2.1, fun q hq => ⟨_, _, rfl, ?_⟩⟩
  have g2 := same_new (o := .tup [V.str "at", .int 1, .int 1]) hq
  have B3 := B2.same g2
  have t3 := t0.mono (Tups.same g2)
  have q3 : TrAt K (upd G2 q (.tup [V.str "at", .int 1, .int 1])) (.ref q) (.at 1 1) := ⟨q, rfl, SqT.of upd_same⟩
  dsimp only [gName]
  show tSeq _ _ _ _ (upd G2 q (.tup [V.str "at", .int 1, .int 1]))
  generalize upd G2 q (.tup [V.str "at", .int 1, .int 1]) = G3 at B3 t3 q3 ⊢
  clear g2 hq t0 B2 B1 k1 k2 B
  -- two odd values, or numbers
  refine ⟨2, rfl, by decide, by decide, fun D hD => ?_⟩
  have nb := B3.nb hD
  have nl := B3.nl hD
  refine lc_range (lo := 0) (n := 2) (fun j F => Bag F b l ∧ Kp b G3 F ∧ ∃ vs ds, F D = some (.lst vs) ∧ vs.length = j ∧ VAs K C (fun x => x = b ∨ x = D) F ds vs ∧ ∀ d ∈ ds, d.Sp 5000 1) ⟨B3.same (same_new hD), kp_new hD, [], [], upd_same, rfl, rfl, fun d hd => nomatch hd⟩ ?_ ?_
  · rintro j F hj ⟨BF, kF, vs, ds, hz, lvs, va, sp⟩
    refine ⟨rfl, ?_⟩
    refine ⟨_, rfl, b, l, 2, rfl, BF, by decide, by decide, fun c F1 c0 c1 B1 k1 => .inl ⟨rfl, _, rfl, ?_⟩⟩
    have put : ∀ {u : V} {d : Vd} {F2 : Hp}, VA K C (fun x => x = b ∨ x = D) F2 d u → d.Sp 5000 1 → Bag F2 b l → Kp b F F2 → ∃ acc, F2 D = some (.lst acc) ∧ acc.length < sizeLine ∧ Bag (upd F2 D (.lst (acc ++ [u]))) b l ∧ Kp b G3 (upd F2 D (.lst (acc ++ [u]))) ∧
        ∃ vs ds, (upd F2 D (.lst (acc ++ [u]))) D = some (.lst vs) ∧ vs.length = j + 1 ∧ VAs K C (fun x => x = b ∨ x = D) (upd F2 D (.lst (acc ++ [u]))) ds vs ∧ ∀ d ∈ ds, d.Sp 5000 1 := by
      intro u d F2 hu hs B2 k2
      have hz2 := k2 _ _ hz nb
      have va2 := VAs.mono (VKeep.bag (P := fun x => x = b ∨ x = D) (.inl rfl) BF k2) _ _ va
      have all := va2.app (VAs.one hu)
      refine ⟨_, hz2, small1000 (by omega), B2.put nb.symm nl.symm, (kF.trans k2).other hD, vs ++ [u], ds ++ [d], upd_same, by rw [List.length_append, lvs]; rfl, VAs.mono (VKeep.kp (P := fun x => x = b ∨ x = D) (.inr rfl) kp_put hz2) _ _ all, fun e he => ?_⟩
      rcases List.mem_append.mp he with z | z
      · exact sp e z
      · rw [List.mem_singleton.mp z]
        exact hs
    refine ifI (fun _ => ?_) (fun _ => ?_)
    · refine ⟨_, rfl, b, l, fun x => x = b ∨ x = D, rfl, B1, .inl rfl, fun x hx z => ?_, fun u d F2 hu hs B2 k2 => put hu hs B2 (k1.trans k2)⟩
      rcases hx with rfl | rfl
      · exact Is.old B1 _ rfl z
      · rw [k1 _ _ hz nb] at z
        cases z
    · refine ⟨_, rfl, b, l, 6, rfl, B1, by decide, by decide, fun c2 F2 c20 c21 B2 k2 => .inl ⟨_, _, rfl, rfl, put (d := .int (1 + c2)) rfl ((Vd.Tp.num (by omega)).sp.le (by decide) (by decide)) B2 (k1.trans k2)⟩⟩
  rintro F ⟨BF, kF, vs, ds, hz, lvs, va, sp⟩
  obtain ⟨d1, d2, one, other, rfl, rfl, h1, h2⟩ : ∃ d1 d2 one other, ds = [d1, d2] ∧ vs = [one, other] ∧ VA K C (fun x => x = b ∨ x = D) F d1 one ∧ VA K C (fun x => x = b ∨ x = D) F d2 other := by
    have ld := va.length
    match ds, va, ld with
    | [], va, ld => rw [lvs] at ld; cases ld
    | [_], va, ld => rw [lvs] at ld; cases ld
    | [d1, d2], ⟨x, _, e1, h1, y, _, e2, h2, e3⟩, _ => cases e3; subst e2; subst e1; exact ⟨d1, d2, x, y, rfl, rfl, h1, h2⟩
    | _ :: _ :: _ :: _, va, ld => rw [lvs] at ld; simp at ld
  refine ⟨D, _, rfl, SqL.of hz, rfl, _, _, rfl, _, _, rfl, rfl, ?_⟩
  have S : S19 K C F b l v T (.ref q) (.at 1 1) one other d1 d2 := ⟨BF, t3.mono (B3.tups kF), q3.mono (B3.tups kF), VA.less (fun _ z => .inl z) _ _ h1, VA.less (fun _ z => .inl z) _ _ h2⟩
  exact rd_deep19 fo S ok (by omega) (sp d1 (List.mem_cons_self ..)) fun q s5 s8 s9 s10 s11 s12 s13 s14 s15 G' B' => ⟨_, _, _, _, _, _, _, _, _, _, _, _, _, _, rfl, B'⟩
end
end Pk
set_option maxHeartbeats 4000000
namespace Lw
open PySem PySem.Spec L2 PyProof.Rows Pk
def top (i : Nat) : Stmt := PySem.Challenge.pw_sharedpipe_k19_rules_refused.main.body.getD i (.Pass ⟨0, 0, 0, 0⟩)
abbrev s_Wrong___init__ : Stmt := (inClass (top 3) 0)
abbrev N_Wrong___init__ : List Str := ["self", "place"]
abbrev P_Wrong___init__ : List Str := ["self", "place"]
theorem sc_Wrong___init__ : FnScope N_Wrong___init__ P_Wrong___init__ (defScope s_Wrong___init__) := ⟨rfl, rfl, rfl, by decide +kernel, rfl, by decide +kernel, by decide +kernel⟩
abbrev s_has_word : Stmt := (top 12)
abbrev N_has_word : List Str := ["thing", "words"]
abbrev P_has_word : List Str := ["thing", "words"]
theorem sc_has_word : FnScope N_has_word P_has_word (defScope s_has_word) := ⟨rfl, rfl, rfl, by decide +kernel, rfl, by decide +kernel, by decide +kernel⟩
abbrev s_is_integer : Stmt := (top 6)
abbrev N_is_integer : List Str := ["thing"]
abbrev P_is_integer : List Str := ["thing"]
theorem sc_is_integer : FnScope N_is_integer P_is_integer (defScope s_is_integer) := ⟨rfl, rfl, rfl, by decide +kernel, rfl, by decide +kernel, by decide +kernel⟩
abbrev s_is_number : Stmt := (top 7)
abbrev N_is_number : List Str := ["least", "thing"]
abbrev P_is_number : List Str := ["least", "thing"]
theorem sc_is_number : FnScope N_is_number P_is_number (defScope s_is_number) := ⟨rfl, rfl, rfl, by decide +kernel, rfl, by decide +kernel, by decide +kernel⟩
abbrev s_is_by : Stmt := (top 14)
abbrev N_is_by : List Str := ["thing"]
abbrev P_is_by : List Str := ["thing"]
theorem sc_is_by : FnScope N_is_by P_is_by (defScope s_is_by) := ⟨rfl, rfl, rfl, by decide +kernel, rfl, by decide +kernel, by decide +kernel⟩
abbrev s_is_leaf : Stmt := (top 13)
abbrev N_is_leaf : List Str := ["thing"]
abbrev P_is_leaf : List Str := ["thing"]
theorem sc_is_leaf : FnScope N_is_leaf P_is_leaf (defScope s_is_leaf) := ⟨rfl, rfl, rfl, by decide +kernel, rfl, by decide +kernel, by decide +kernel⟩
abbrev s_is_tree : Stmt := (top 15)
abbrev N_is_tree : List Str := ["thing", "waiting", "leaves", "part"]
abbrev P_is_tree : List Str := ["thing"]
theorem sc_is_tree : FnScope N_is_tree P_is_tree (defScope s_is_tree) := ⟨rfl, rfl, rfl, by decide +kernel, rfl, by decide +kernel, by decide +kernel⟩
abbrev s_Rule___init__ : Stmt := (inClass (top 22) 0)
abbrev N_Rule___init__ : List Str := ["self", "tree"]
abbrev P_Rule___init__ : List Str := ["self", "tree"]
theorem sc_Rule___init__ : FnScope N_Rule___init__ P_Rule___init__ (defScope s_Rule___init__) := ⟨rfl, rfl, rfl, by decide +kernel, rfl, by decide +kernel, by decide +kernel⟩
abbrev s_Rule_tree : Stmt := (inClass (top 22) 4)
abbrev N_Rule_tree : List Str := ["self"]
abbrev P_Rule_tree : List Str := ["self"]
theorem sc_Rule_tree : FnScope N_Rule_tree P_Rule_tree (defScope s_Rule_tree) := ⟨rfl, rfl, rfl, by decide +kernel, rfl, by decide +kernel, by decide +kernel⟩
abbrev s__law_alike : Stmt := (top 28)
abbrev N__law_alike : List Str := ["_law_found", "_law_due"]
abbrev P__law_alike : List Str := ["_law_found", "_law_due"]
theorem sc__law_alike : FnScope N__law_alike P__law_alike (defScope s__law_alike) := ⟨rfl, rfl, rfl, by decide +kernel, rfl, by decide +kernel, by decide +kernel⟩
abbrev s__law_is_number : Stmt := (top 31)
abbrev N__law_is_number : List Str := ["_law_thing", "_law_most"]
abbrev P__law_is_number : List Str := ["_law_thing", "_law_most"]
theorem sc__law_is_number : FnScope N__law_is_number P__law_is_number (defScope s__law_is_number) := ⟨rfl, rfl, rfl, by decide +kernel, rfl, by decide +kernel, by decide +kernel⟩
abbrev s__law_atoms : Stmt := (top 32)
abbrev N__law_atoms : List Str := ["_law_thing", "_law_good"]
abbrev P__law_atoms : List Str := ["_law_thing"]
theorem sc__law_atoms : FnScope N__law_atoms P__law_atoms (defScope s__law_atoms) := ⟨rfl, rfl, rfl, by decide +kernel, rfl, by decide +kernel, by decide +kernel⟩
abbrev s__law_bag : Stmt := (top 26)
abbrev N__law_bag : List Str := ["_law_script", "_law_cell"]
abbrev P__law_bag : List Str := ["_law_script"]
theorem sc__law_bag : FnScope N__law_bag P__law_bag (defScope s__law_bag) := ⟨rfl, rfl, rfl, by decide +kernel, rfl, by decide +kernel, by decide +kernel⟩
abbrev s__law_take : Stmt := (top 27)
abbrev N__law_take : List Str := ["_law_bag_here", "_law_many", "_law_cell", "_law_mixed", "_law_value", "_law_begin", "_law_second"]
abbrev P__law_take : List Str := ["_law_bag_here", "_law_many"]
theorem sc__law_take : FnScope N__law_take P__law_take (defScope s__law_take) := ⟨rfl, rfl, rfl, by decide +kernel, rfl, by decide +kernel, by decide +kernel⟩
abbrev s__law_draw_size : Stmt := (top 29)
abbrev N__law_draw_size : List Str := ["_law_bag_here", "_law_top", "_law_scale"]
abbrev P__law_draw_size : List Str := ["_law_bag_here", "_law_top", "_law_scale"]
theorem sc__law_draw_size : FnScope N__law_draw_size P__law_draw_size (defScope s__law_draw_size) := ⟨rfl, rfl, rfl, by decide +kernel, rfl, by decide +kernel, by decide +kernel⟩
abbrev s__law_draw_rule : Stmt := (top 30)
abbrev N__law_draw_rule : List Str := ["_law_bag_here", "_law_top", "_law_scale", "_law_many", "_law_some", "_law_at", "_law_k"]
abbrev P__law_draw_rule : List Str := ["_law_bag_here", "_law_top", "_law_scale", "_law_many"]
theorem sc__law_draw_rule : FnScope N__law_draw_rule P__law_draw_rule (defScope s__law_draw_rule) := ⟨rfl, rfl, rfl, by decide +kernel, rfl, by decide +kernel, by decide +kernel⟩
abbrev s__law_odd : Stmt := (top 33)
abbrev N__law_odd : List Str := ["_law_bag_here", "_law_odd_here"]
abbrev P__law_odd : List Str := ["_law_bag_here"]
theorem sc__law_odd : FnScope N__law_odd P__law_odd (defScope s__law_odd) := ⟨rfl, rfl, rfl, by decide +kernel, rfl, by decide +kernel, by decide +kernel⟩
abbrev s_at_least : Stmt := (top 24)
abbrev N_at_least : List Str := ["least", "by"]
abbrev P_at_least : List Str := ["least", "by"]
theorem sc_at_least : FnScope N_at_least P_at_least (defScope s_at_least) := ⟨rfl, rfl, rfl, by decide +kernel, rfl, by decide +kernel, by decide +kernel⟩
abbrev s__law_refused : Stmt := (top 35)
abbrev N__law_refused : List Str := ["_law_way", "_law_one", "_law_other", "e"]
abbrev P__law_refused : List Str := ["_law_way", "_law_one", "_law_other"]
theorem sc__law_refused : FnScope N__law_refused P__law_refused (defScope s__law_refused) := ⟨rfl, rfl, rfl, by decide +kernel, rfl, by decide +kernel, by decide +kernel⟩
abbrev s__law_spoilt : Stmt := (top 34)
abbrev N__law_spoilt : List Str := ["_law_bag_here", "_law_tree", "_law_way", "_law_at", "_law_word"]
abbrev P__law_spoilt : List Str := ["_law_bag_here", "_law_tree"]
theorem sc__law_spoilt : FnScope N__law_spoilt P__law_spoilt (defScope s__law_spoilt) := ⟨rfl, rfl, rfl, by decide +kernel, rfl, by decide +kernel, by decide +kernel⟩
abbrev s_law : Stmt := (top 36)
abbrev N_law : List Str := ["_law_script", "_law_bag_here", "_law_turn", "_law_tree", "_law_deep", "_law_k", "_law_one", "_law_other", "_law_thing", "_law_shown", "_law_due", "_law_again", "_law_first", "_law_second", "_law_own", "_law_some"]
abbrev P_law : List Str := ["_law_script"]
theorem sc_law : FnScope N_law P_law (defScope s_law) := ⟨rfl, rfl, rfl, by decide +kernel, rfl, by decide +kernel, by decide +kernel⟩
structure Bl (mg : Str → Option Value) : Prop where
  none_ : True
  b_abs : mg "abs" = none
  b_bool : mg "bool" = none
  b_int : mg "int" = none
  b_isinstance : mg "isinstance" = none
  b_len : mg "len" = none
  b_list : mg "list" = none
  b_max : mg "max" = none
  b_min : mg "min" = none
  b_range : mg "range" = none
  b_repr : mg "repr" = none
  b_sorted : mg "sorted" = none
  b_str : mg "str" = none
  b_tuple : mg "tuple" = none
  g_MOST_BY : ∃ t, mg "MOST_BY" = some (.int 6 t)
  g_MOST_LEAVES : ∃ t, mg "MOST_LEAVES" = some (.int 6 t)
  g_PERIOD : ∃ t, mg "PERIOD" = some (.int 60 t)
section
variable {P : Program} {w : World} {K : PySem.W.Frag} {mg : Str → Option Value} {base : Heap} {C : Cs}
theorem ok_Wrong___init__ {f : Addr} {fd : FuncData} (F : Fun K "__init__" "Wrong.__init__" s_Wrong___init__ f fd) (T : Bl mg)   : FnOk P w K mg base CX0 1 f fd P_Wrong___init__ (rOneI K C.Wrong "place") := by
  obtain ⟨t_MOST_BY, g_MOST_BY⟩ := T.g_MOST_BY
  obtain ⟨t_MOST_LEAVES, g_MOST_LEAVES⟩ := T.g_MOST_LEAVES
  obtain ⟨t_PERIOD, g_PERIOD⟩ := T.g_PERIOD
  refine F.ok sc_Wrong___init__ (fun vs H Q E h => ln_Wrong___init__ h) (fun cdv A outer s H vs Q E hr h => ⟨t_Wrong___init__ K, ?_, rd_Wrong___init__  h⟩)
  exact (pss_one (ps_ost (pv 0) (pv 1)))
theorem ok_has_word {f : Addr} {fd : FuncData} (F : Fun K "has_word" "has_word" s_has_word f fd) (T : Bl mg)   : FnOk P w K mg base CX0 1 f fd P_has_word (sp_Word19 K C) := by
  obtain ⟨t_MOST_BY, g_MOST_BY⟩ := T.g_MOST_BY
  obtain ⟨t_MOST_LEAVES, g_MOST_LEAVES⟩ := T.g_MOST_LEAVES
  obtain ⟨t_PERIOD, g_PERIOD⟩ := T.g_PERIOD
  refine F.ok sc_has_word (fun vs H Q E h => ln_Word19 h) (fun cdv A outer s H vs Q E hr h => ⟨t_Word19 K, ?_, rd_Word19  h⟩)
  exact (pss_cons (ps_if (PW.pt (pw_or (pt_not (pt_val (pe_callB call_isi rfl T.b_isinstance Pk.boot_isinstance (pa_cons (pv 0) (pa_cons (pe_bltn (v := .ty "tuple") rfl T.b_tuple Pk.boot_t_tuple rfl) pa_nil))))) (pw_or1 (pt_cmpR (opNe hr.units) (pe_callB callLen rfl T.b_len Pk.boot_len (pa_cons (pv 0) pa_nil)) pe_int (nomark _))))) (pss_one (ps_ret pe_bl)) pss_nil)
    (pss_one (ps_ret (pe_and (pe_callB call_isi rfl T.b_isinstance Pk.boot_isinstance (pa_cons (pe_ix ix_seq (pv 0) pe_int (fun _ _ => rfl)) (pa_cons (pe_bltn (v := .ty "str") rfl T.b_str Pk.boot_t_str rfl) pa_nil))) (pe_one (pe_cmpR opIn (pe_ix ix_seq (pv 0) pe_int (fun _ _ => rfl)) (pv 1) rfl))))))
theorem ok_is_integer {f : Addr} {fd : FuncData} (F : Fun K "is_integer" "is_integer" s_is_integer f fd) (T : Bl mg)   : FnOk P w K mg base CX0 1 f fd P_is_integer (sp_IsInt K) := by
  obtain ⟨t_MOST_BY, g_MOST_BY⟩ := T.g_MOST_BY
  obtain ⟨t_MOST_LEAVES, g_MOST_LEAVES⟩ := T.g_MOST_LEAVES
  obtain ⟨t_PERIOD, g_PERIOD⟩ := T.g_PERIOD
  refine F.ok sc_is_integer (fun vs H Q E h => ln_IsInt h) (fun cdv A outer s H vs Q E hr h => ⟨t_IsInt K, ?_, rd_IsInt  h⟩)
  exact (pss_one (ps_ret (pe_and (pe_callB call_isi rfl T.b_isinstance Pk.boot_isinstance (pa_cons (pv 0) (pa_cons (pe_bltn (v := .ty "int") rfl T.b_int Pk.boot_t_int rfl) pa_nil))) (pe_one (pe_not (pe_callB call_isi rfl T.b_isinstance Pk.boot_isinstance (pa_cons (pv 0) (pa_cons (pe_bltn (v := .ty "bool") rfl T.b_bool Pk.boot_t_bool rfl) pa_nil))))))))
theorem ok_is_number {f : Addr} {fd : FuncData} (F : Fun K "is_number" "is_number" s_is_number f fd) (T : Bl mg)  (f_is_integer : Cal P w K mg base CX0 1 "is_integer" P_is_integer [] (sp_IsInt K)) : FnOk P w K mg base CX0 2 f fd P_is_number (sp_IsNum K) := by
  obtain ⟨t_MOST_BY, g_MOST_BY⟩ := T.g_MOST_BY
  obtain ⟨t_MOST_LEAVES, g_MOST_LEAVES⟩ := T.g_MOST_LEAVES
  obtain ⟨t_PERIOD, g_PERIOD⟩ := T.g_PERIOD
  refine F.ok sc_is_number (fun vs H Q E h => ln_IsNum h) (fun cdv A outer s H vs Q E hr h => ⟨t_IsNum K, ?_, rd_IsNum  h⟩)
  exact (pss_one (ps_ret (pe_and (pe_cal f_is_integer hr pass0 (pa_cons (pv 1) pa_nil)) (pe_one (pe_cmpR opGe (pv 1) (pv 0) (nomark _))))))
theorem ok_is_by {f : Addr} {fd : FuncData} (F : Fun K "is_by" "is_by" s_is_by f fd) (T : Bl mg)  (f_is_number : Cal P w K mg base CX0 2 "is_number" P_is_number [] (sp_IsNum K)) : FnOk P w K mg base CX0 3 f fd P_is_by (sp_By19 K C) := by
  obtain ⟨t_MOST_BY, g_MOST_BY⟩ := T.g_MOST_BY
  obtain ⟨t_MOST_LEAVES, g_MOST_LEAVES⟩ := T.g_MOST_LEAVES
  obtain ⟨t_PERIOD, g_PERIOD⟩ := T.g_PERIOD
  refine F.ok sc_is_by (fun vs H Q E h => ln_By19 h) (fun cdv A outer s H vs Q E hr h => ⟨t_By19 K, ?_, rd_By19  h⟩)
  exact (pss_one (ps_ret (pe_and (pe_cal f_is_number hr pass0 (pa_cons pe_int (pa_cons (pv 0) pa_nil))) (pe_one (pe_cmpR opLe (pv 0) (pe_glob rfl g_MOST_BY ⟨_, rfl⟩) (nomark _))))))
theorem ok_is_leaf {f : Addr} {fd : FuncData} (F : Fun K "is_leaf" "is_leaf" s_is_leaf f fd) (T : Bl mg)  (f_has_word : Cal P w K mg base CX0 1 "has_word" P_has_word [] (sp_Word19 K C)) (f_is_number : Cal P w K mg base CX0 2 "is_number" P_is_number [] (sp_IsNum K)) (f_is_by : Cal P w K mg base CX0 3 "is_by" P_is_by [] (sp_By19 K C)) : FnOk P w K mg base CX0 4 f fd P_is_leaf (sp_Leaf19 K C) := by
  obtain ⟨t_MOST_BY, g_MOST_BY⟩ := T.g_MOST_BY
  obtain ⟨t_MOST_LEAVES, g_MOST_LEAVES⟩ := T.g_MOST_LEAVES
  obtain ⟨t_PERIOD, g_PERIOD⟩ := T.g_PERIOD
  refine F.ok sc_is_leaf (fun vs H Q E h => ln_Leaf19 h) (fun cdv A outer s H vs Q E hr h => ⟨t_Leaf19 K C, ?_, rd_Leaf19  h⟩)
  exact (pss_one (ps_ret (pe_and (pe_cal f_has_word hr pass0 (pa_cons (pv 0) (pa_cons (pe_tup (pa_cons pe_str pa_nil)) pa_nil))) (pe_and (pe_cal f_is_number hr pass0 (pa_cons pe_int (pa_cons (pe_ix ix_seq (pv 0) pe_int (fun _ _ => rfl)) pa_nil))) (pe_one (pe_cal f_is_by hr pass0 (pa_cons (pe_ix ix_seq (pv 0) pe_int (fun _ _ => rfl)) pa_nil)))))))
theorem ok_is_tree {f : Addr} {fd : FuncData} (F : Fun K "is_tree" "is_tree" s_is_tree f fd) (T : Bl mg)  (f_is_leaf : Cal P w K mg base CX0 4 "is_leaf" P_is_leaf [] (sp_Leaf19 K C)) (f_has_word : Cal P w K mg base CX0 1 "has_word" P_has_word [] (sp_Word19 K C)) : FnOk P w K mg base CX0 5 f fd P_is_tree (sp_Tree19 K C) := by
  obtain ⟨t_MOST_BY, g_MOST_BY⟩ := T.g_MOST_BY
  obtain ⟨t_MOST_LEAVES, g_MOST_LEAVES⟩ := T.g_MOST_LEAVES
  obtain ⟨t_PERIOD, g_PERIOD⟩ := T.g_PERIOD
  refine F.ok sc_is_tree (fun vs H Q E h => ln_Tree19 h) (fun cdv A outer s H vs Q E hr h => ⟨t_Tree19 K C, ?_, rd_Tree19  h⟩)
  exact (pss_cons (ps_set (i := 1) sc_is_tree.nd rfl (Or.inl rfl) (pe_lst (pa_cons (pv 0) pa_nil)))
    (pss_cons (ps_set (i := 2) sc_is_tree.nd rfl (Or.inl rfl) pe_int)
    (pss_cons (ps_while PassesOwn.never (pt_cmpR opGt (pe_callB callLen rfl T.b_len Pk.boot_len (pa_cons (pv 1) pa_nil)) pe_int (nomark _)) (pss_cons (ps_set (i := 3) sc_is_tree.nd rfl (Or.inl rfl) (pe_bm0 PySem.F.plainAttrs_list PySem.F.slot_list_pop PySem.F.type_list_pop mt_pop (pv 1)))
    (Evl.pss_cut (ps_if (pt_val (pe_cal f_is_leaf hr pass0 (pa_cons (pv 3) pa_nil))) (pss_one (ps_set (i := 2) sc_is_tree.nd rfl (Or.inl rfl) (pe_op opAdd (pv 2) pe_int))) (pss_one (ps_if (pt_val (pe_cal f_has_word hr pass0 (pa_cons (pv 3) (pa_cons (pe_tup (pa_cons pe_str (pa_cons pe_str pa_nil))) pa_nil)))) (pss_cons (ps_expr (pe_bm PySem.F.plainAttrs_list PySem.F.slot_list_append PySem.F.type_list_append mt_append (pv 1) (pa_cons (pe_ix ix_seq (pv 3) pe_int (fun _ _ => rfl)) pa_nil)))
    (pss_one (ps_expr (pe_bm PySem.F.plainAttrs_list PySem.F.slot_list_append PySem.F.type_list_append mt_append (pv 1) (pa_cons (pe_ix ix_seq (pv 3) pe_int (fun _ _ => rfl)) pa_nil))))) (pss_one (ps_ret pe_bl)))))
    (pss_one (ps_if (pt_cmpR opGt (pe_op opAdd (pv 2) (pe_callB callLen rfl T.b_len Pk.boot_len (pa_cons (pv 1) pa_nil))) (pe_glob rfl g_MOST_LEAVES ⟨_, rfl⟩) (nomark _)) (pss_one (ps_ret pe_bl)) pss_nil)))))
    (pss_one (ps_ret pe_bl)))))
theorem ok_Rule___init__ {f : Addr} {fd : FuncData} (F : Fun K "__init__" "Rule.__init__" s_Rule___init__ f fd) (T : Bl mg)  (f_is_tree : Cal P w K mg base CX0 5 "is_tree" P_is_tree [] (sp_Tree19 K C)) (E_Wrong : ErrK K mg "Wrong" C.Wrong) (i_Wrong : ErrI P w K mg base 1 C.Wrong P_Wrong___init__ (rOneI K C.Wrong "place")) : FnOk P w K mg base (L2.CX P w) 6 f fd P_Rule___init__ (sp_Rule___init__X K C) := by
  obtain ⟨t_MOST_BY, g_MOST_BY⟩ := T.g_MOST_BY
  obtain ⟨t_MOST_LEAVES, g_MOST_LEAVES⟩ := T.g_MOST_LEAVES
  obtain ⟨t_PERIOD, g_PERIOD⟩ := T.g_PERIOD
  refine F.okX sc_Rule___init__ (fun vs H Q E h => ln_Rule___init__X h) (fun cdv A outer s H vs Q E hr h => ⟨t_Rule___init__X K C E, ?_, rd_Rule___init__X  h⟩)
  exact (pss_cons (ps_if (pt_not (pt_val (pe_cal f_is_tree hr pass0 (pa_cons (pv 1) pa_nil)))) (pss_one (ps_raise rfl (takes_of rfl rfl rfl rfl) (pmk_err E_Wrong i_Wrong hr (pa_cons pe_int pa_nil)))) pss_nil)
    (pss_one (ps_fld (pv 0) (pv 1) rfl)))
theorem ok_Rule_tree {f : Addr} {fd : FuncData} (F : Fun K "tree" "Rule.tree" s_Rule_tree f fd) (T : Bl mg)   : FnOk P w K mg base CX0 1 f fd P_Rule_tree (sp_Rule_tree K C) := by
  obtain ⟨t_MOST_BY, g_MOST_BY⟩ := T.g_MOST_BY
  obtain ⟨t_MOST_LEAVES, g_MOST_LEAVES⟩ := T.g_MOST_LEAVES
  obtain ⟨t_PERIOD, g_PERIOD⟩ := T.g_PERIOD
  refine F.ok sc_Rule_tree (fun vs H Q E h => ln_Rule_tree h) (fun cdv A outer s H vs Q E hr h => ⟨t_Rule_tree K, ?_, rd_Rule_tree  h⟩)
  exact (pss_one (ps_ret (pe_fld (pv 0) rfl)))
theorem ok__law_alike {f : Addr} {fd : FuncData} (F : Fun K "_law_alike" "_law_alike" s__law_alike f fd) (T : Bl mg)   : FnG P w K mg base CX0 1 f fd P__law_alike (sp_law_alike K) := by
  obtain ⟨t_MOST_BY, g_MOST_BY⟩ := T.g_MOST_BY
  obtain ⟨t_MOST_LEAVES, g_MOST_LEAVES⟩ := T.g_MOST_LEAVES
  obtain ⟨t_PERIOD, g_PERIOD⟩ := T.g_PERIOD
  refine okG F sc__law_alike (fun vs H Q E h => ln_law_alike h) (fun cdv A outer s H vs Q E gd hr h => ⟨t_law_alike K, ?_, rd_law_alike  h⟩)
  exact (pss_one (ps_ret (pe_and (pe_cmpR (opEq hr.units) (pv 0) (pv 1) (nomark _)) (pe_one (pe_cmpR (opEq hr.units) (pe_callB (call_repr gd (room_repr hr)) rfl T.b_repr Pk.boot_repr (pa_cons (pv 0) pa_nil)) (pe_callB (call_repr gd (room_repr hr)) rfl T.b_repr Pk.boot_repr (pa_cons (pv 1) pa_nil)) (nomark _))))))
theorem ok__law_is_number {f : Addr} {fd : FuncData} (F : Fun K "_law_is_number" "_law_is_number" s__law_is_number f fd) (T : Bl mg)   : FnOk P w K mg base CX0 1 f fd P__law_is_number (sp_law_is_number K C) := by
  obtain ⟨t_MOST_BY, g_MOST_BY⟩ := T.g_MOST_BY
  obtain ⟨t_MOST_LEAVES, g_MOST_LEAVES⟩ := T.g_MOST_LEAVES
  obtain ⟨t_PERIOD, g_PERIOD⟩ := T.g_PERIOD
  refine F.ok sc__law_is_number (fun vs H Q E h => ln_law_is_number h) (fun cdv A outer s H vs Q E hr h => ⟨t_law_is_number K, ?_, rd_law_is_number  h⟩)
  exact (pss_cons (ps_if (PW.pt (pw_or (pt_not (pt_val (pe_callB call_isi rfl T.b_isinstance Pk.boot_isinstance (pa_cons (pv 0) (pa_cons (pe_bltn (v := .ty "int") rfl T.b_int Pk.boot_t_int rfl) pa_nil))))) (pw_or (pt_val (pe_callB call_isi rfl T.b_isinstance Pk.boot_isinstance (pa_cons (pv 0) (pa_cons (pe_bltn (v := .ty "bool") rfl T.b_bool Pk.boot_t_bool rfl) pa_nil)))) (pw_or1 (pt_cmpR opLt (pv 0) pe_int (nomark _)))))) (pss_one (ps_ret pe_bl)) pss_nil)
    (pss_one (ps_ret (pe_or (pe_cmpR opIsN (pv 1) pe_non (nomark _)) (pe_one (pe_cmpR opLe (pv 0) (pv 1) (nomark _)))))))
theorem ok__law_atoms {n : Nat} {f : Addr} {fd : FuncData} (F : Fun K "_law_atoms" "_law_atoms" s__law_atoms f fd) (T : Bl mg)  (f__law_is_number : Cal P w K mg base CX0 1 "_law_is_number" P__law_is_number [] (sp_law_is_number K C)) (f__law_atoms : Cal P w K mg base CX0 (1 + n) "_law_atoms" P__law_atoms [] (sp_law_atoms K C n)) : FnOk P w K mg base CX0 (1 + n + 1) f fd P__law_atoms (sp_law_atoms K C (n + 1)) := by
  obtain ⟨t_MOST_BY, g_MOST_BY⟩ := T.g_MOST_BY
  obtain ⟨t_MOST_LEAVES, g_MOST_LEAVES⟩ := T.g_MOST_LEAVES
  obtain ⟨t_PERIOD, g_PERIOD⟩ := T.g_PERIOD
  refine F.ok sc__law_atoms (fun vs H Q E h => ln_law_atoms h) (fun cdv A outer s H vs Q E hr h => ⟨t_law_atoms K C n, ?_, rd_law_atoms  h⟩)
  exact (pss_cons (ps_if (PW.pt (pw_or (pt_not (pt_val (pe_callB call_isi rfl T.b_isinstance Pk.boot_isinstance (pa_cons (pv 0) (pa_cons (pe_bltn (v := .ty "tuple") rfl T.b_tuple Pk.boot_t_tuple rfl) pa_nil))))) (pw_or (pt_cmpR (opNe hr.units) (pe_callB callLen rfl T.b_len Pk.boot_len (pa_cons (pv 0) pa_nil)) pe_int (nomark _)) (pw_or1 (pt_not (pt_val (pe_callB call_isi rfl T.b_isinstance Pk.boot_isinstance (pa_cons (pe_ix ix_seq (pv 0) pe_int (fun _ _ => rfl)) (pa_cons (pe_bltn (v := .ty "str") rfl T.b_str Pk.boot_t_str rfl) pa_nil))))))))) (pss_one (ps_ret pe_int)) pss_nil)
    (pss_cons (ps_if (pt_cmpR opIn (pe_ix ix_seq (pv 0) pe_int (fun _ _ => rfl)) (pe_tup (pa_cons pe_str (pa_cons pe_str pa_nil))) rfl) (pss_one (ps_ret (pe_op opAdd (pe_cal f__law_atoms hr pass0 (pa_cons (pe_ix ix_seq (pv 0) pe_int (fun _ _ => rfl)) pa_nil)) (pe_cal f__law_atoms hr pass0 (pa_cons (pe_ix ix_seq (pv 0) pe_int (fun _ _ => rfl)) pa_nil))))) pss_nil)
    (pss_cons (ps_set (i := 1) sc__law_atoms.nd rfl (Or.inl rfl) (pe_and (pe_cmpR (opEq hr.units) (pe_ix ix_seq (pv 0) pe_int (fun _ _ => rfl)) pe_str (nomark _)) (pe_and (pe_cal f__law_is_number hr pass0 (pa_cons (pe_ix ix_seq (pv 0) pe_int (fun _ _ => rfl)) (pa_cons pe_non pa_nil))) (pe_one (pe_cal f__law_is_number hr pass0 (pa_cons (pe_ix ix_seq (pv 0) pe_int (fun _ _ => rfl)) (pa_cons pe_int pa_nil)))))))
    (pss_one (ps_ret (pe_ifExp (pt_val (pv 1)) pe_int pe_int))))))
theorem all__law_atoms {f : Addr} {fd : FuncData} (F : Fun K "_law_atoms" "_law_atoms" s__law_atoms f fd) (T : Bl mg)  (f__law_is_number : Cal P w K mg base CX0 1 "_law_is_number" P__law_is_number [] (sp_law_is_number K C)) (hm : mg "_law_atoms" = some (.ref f)) (hk : PySem.W.keepIn K (.ref f) = true) (hb : Binds K fd P__law_atoms []) : ∀ n : Nat, FnOk P w K mg base CX0 (1 + n) f fd P__law_atoms (sp_law_atoms K C n)
  | 0 => ⟨fun vs H Q E h => (no_law_atoms h).elim, fun A outer s H args us vs Q E _ _ _ _ h => (no_law_atoms h).elim⟩
  | n + 1 => ok__law_atoms F T  f__law_is_number ⟨_, _, all__law_atoms F T  f__law_is_number hm hk hb n, hm, hk, hb⟩
theorem ok__law_bag {f : Addr} {fd : FuncData} (F : Fun K "_law_bag" "_law_bag" s__law_bag f fd) (T : Bl mg)   : FnOk P w K mg base CX0 1 f fd P__law_bag (sp_law_bag K) := by
  obtain ⟨t_MOST_BY, g_MOST_BY⟩ := T.g_MOST_BY
  obtain ⟨t_MOST_LEAVES, g_MOST_LEAVES⟩ := T.g_MOST_LEAVES
  obtain ⟨t_PERIOD, g_PERIOD⟩ := T.g_PERIOD
  refine F.ok sc__law_bag (fun vs H Q E h => ln_law_bag h) (fun cdv A outer s H vs Q E hr h => ⟨t_law_bag K, ?_, rd_law_bag  h⟩)
  exact (pss_one (ps_ret (pe_lst (pa_cons pe_int (pa_cons pe_int (pa_cons pe_int (pa_cons (pe_lc (own := [("_law_cell", 1)]) (g := (gName 1)) (tt := tYes) rfl sc__law_bag.nd (pi_list (pe_slice slU (pv 0) po_none (po_some pe_int))) (blkOk_by (N := N__law_bag) (own := [("_law_cell", 1)]) (sc := defScope s__law_bag) (by decide +kernel)) (fun _ _ _ _ _ => (pg_name (i := 1) sc__law_bag.nd rfl (Or.inl rfl))) (fun _ _ _ _ _ => pts_nil) (fun _ _ _ _ _ => (pe_callB call_abs rfl T.b_abs Pk.boot_abs (pa_cons (pv 1) pa_nil)))) pa_nil)))))))
theorem ok__law_take {f : Addr} {fd : FuncData} (F : Fun K "_law_take" "_law_take" s__law_take f fd) (T : Bl mg)   : FnOk P w K mg base CX0 1 f fd P__law_take (sp_law_take K) := by
  obtain ⟨t_MOST_BY, g_MOST_BY⟩ := T.g_MOST_BY
  obtain ⟨t_MOST_LEAVES, g_MOST_LEAVES⟩ := T.g_MOST_LEAVES
  obtain ⟨t_PERIOD, g_PERIOD⟩ := T.g_PERIOD
  refine F.ok sc__law_take (fun vs H Q E h => ln_law_take h) (fun cdv A outer s H vs Q E hr h => ⟨t_law_take K, ?_, rd_law_take  h⟩)
  exact (Evl.pss_cut (ps_if (pt_cmpR (opEq hr.units) (pe_ix ix_seq (pv 0) pe_int (fun _ _ => rfl)) pe_int (nomark _)) (pss_cons (ps_set (i := 2) sc__law_take.nd rfl (Or.inl rfl) pe_int)
    (Evl.pss_cut (ps_if (pt_cmpR opLt (pe_ix ix_seq (pv 0) pe_int (fun _ _ => rfl)) (pe_callB callLen rfl T.b_len Pk.boot_len (pa_cons (pe_ix ix_seq (pv 0) pe_int (fun _ _ => rfl)) pa_nil)) (nomark _)) (pss_one (ps_set (i := 2) sc__law_take.nd rfl (Or.inl rfl) (pe_ix ix_seq (pe_ix ix_seq (pv 0) pe_int (fun _ _ => rfl)) (pe_ix ix_seq (pv 0) pe_int (fun _ _ => rfl)) (fun _ _ => rfl)))) pss_nil)
    (pss_cons (ps_augS (pv 0) pe_int get_list pe_int ip_add set_list)
    (Evl.pss_cut (ps_if (pt_cmpR opGe (pv 2) pe_int (nomark _)) (pss_one (ps_asg (pv 2) (pg_sub (pv 0) pe_int set_list))) pss_nil)
    (pss_cons (ps_set (i := 3) sc__law_take.nd rfl (Or.inl rfl) (pe_op opAdd (pe_op opAdd (pe_op opMul (pe_ix ix_seq (pv 0) pe_int (fun _ _ => rfl)) pe_int) (pe_op opMod (pe_callTy callInt rfl T.b_int Pk.boot_t_int (pa_cons (pv 2) pa_nil)) pe_int)) (pe_op opMul pe_int (pe_ix ix_seq (pv 0) pe_int (fun _ _ => rfl)))))
    (pss_one (ps_asg (pe_op opMod (pe_callTy callInt rfl T.b_int Pk.boot_t_int (pa_cons (pv 3) pa_nil)) pe_int) (pg_sub (pv 0) pe_int set_list)))))))) pss_nil)
    (pss_cons (ps_if (pt_cmpR opGt (pe_ix ix_seq (pv 0) pe_int (fun _ _ => rfl)) pe_int (nomark _)) (pss_cons (ps_set (i := 4) sc__law_take.nd rfl (Or.inl rfl) (pe_op opMod (pe_callTy callInt rfl T.b_int Pk.boot_t_int (pa_cons (pe_ix ix_seq (pv 0) pe_int (fun _ _ => rfl)) pa_nil)) (pv 1)))
    (pss_cons (ps_asg (pe_op opDiv (pe_ix ix_seq (pv 0) pe_int (fun _ _ => rfl)) (pv 1)) (pg_sub (pv 0) pe_int set_list))
    (pss_one (ps_ret (pv 4))))) pss_nil)
    (pss_cons (ps_set (i := 5) sc__law_take.nd rfl (Or.inl rfl) (pe_op opMod (pe_callTy callInt rfl T.b_int Pk.boot_t_int (pa_cons (pe_op opMul (pe_op opAdd (pe_ix ix_seq (pv 0) pe_int (fun _ _ => rfl)) pe_int) pe_int) pa_nil)) pe_int))
    (pss_cons (ps_set (i := 6) sc__law_take.nd rfl (Or.inl rfl) (pe_op opMod (pe_callTy callInt rfl T.b_int Pk.boot_t_int (pa_cons (pe_op opMul (pe_op opMod (pe_callTy callInt rfl T.b_int Pk.boot_t_int (pa_cons (pe_op opMul (pv 5) (pv 5)) pa_nil)) pe_int) pe_int) pa_nil)) pe_int))
    (pss_cons (ps_if (pt_cmpR opGt (pv 1) pe_int (nomark _)) (pss_one (ps_ret (pe_op opMod (pe_callTy callInt rfl T.b_int Pk.boot_t_int (pa_cons (pe_op opAdd (pe_op opMul (pv 6) pe_int) (pv 5)) pa_nil)) (pv 1)))) pss_nil)
    (pss_one (ps_ret (pe_op opMod (pe_callTy callInt rfl T.b_int Pk.boot_t_int (pa_cons (pe_op opDiv (pv 6) pe_int) pa_nil)) (pv 1)))))))))
theorem ok__law_draw_size {f : Addr} {fd : FuncData} (F : Fun K "_law_draw_size" "_law_draw_size" s__law_draw_size f fd) (T : Bl mg)  (f__law_take : Cal P w K mg base CX0 1 "_law_take" P__law_take [] (sp_law_take K)) : FnOk P w K mg base CX0 2 f fd P__law_draw_size (sp_law_draw_size K) := by
  obtain ⟨t_MOST_BY, g_MOST_BY⟩ := T.g_MOST_BY
  obtain ⟨t_MOST_LEAVES, g_MOST_LEAVES⟩ := T.g_MOST_LEAVES
  obtain ⟨t_PERIOD, g_PERIOD⟩ := T.g_PERIOD
  refine F.ok sc__law_draw_size (fun vs H Q E h => ln_law_draw_size h) (fun cdv A outer s H vs Q E hr h => ⟨t_law_draw_size K, ?_, rd_law_draw_size  h⟩)
  exact (pss_one (ps_ret (pe_op opMul (pe_op opAdd pe_int (pe_cal f__law_take hr pass0 (pa_cons (pv 0) (pa_cons (pv 1) pa_nil)))) (pe_ix ix_seq (pe_lst (pa_cons pe_int (pa_cons (pv 2) pa_nil))) (pe_cal f__law_take hr pass0 (pa_cons (pv 0) (pa_cons pe_int pa_nil))) (fun _ _ => rfl)))))
theorem ok__law_draw_rule {f : Addr} {fd : FuncData} (F : Fun K "_law_draw_rule" "_law_draw_rule" s__law_draw_rule f fd) (T : Bl mg)  (f__law_take : Cal P w K mg base CX0 1 "_law_take" P__law_take [] (sp_law_take K)) (f__law_draw_size : Cal P w K mg base CX0 2 "_law_draw_size" P__law_draw_size [] (sp_law_draw_size K)) : FnOk P w K mg base CX0 3 f fd P__law_draw_rule (sp_law_draw_rule K) := by
  obtain ⟨t_MOST_BY, g_MOST_BY⟩ := T.g_MOST_BY
  obtain ⟨t_MOST_LEAVES, g_MOST_LEAVES⟩ := T.g_MOST_LEAVES
  obtain ⟨t_PERIOD, g_PERIOD⟩ := T.g_PERIOD
  refine F.ok sc__law_draw_rule (fun vs H Q E h => ln_law_draw_rule h) (fun cdv A outer s H vs Q E hr h => ⟨t_law_draw_rule K, ?_, rd_law_draw_rule  h⟩)
  exact (pss_cons (ps_setLc (i := 4) (own := [("_law_k", 6)]) (g := (gName 6)) (tt := tYes) rfl sc__law_draw_rule.nd rfl rfl (sw_true rfl rfl rfl (by decide +kernel)) (pi_range1 rfl T.b_range (pa_cons (pv 3) pa_nil)) (blkOk_by (N := N__law_draw_rule) (own := [("_law_k", 6)]) (sc := defScope s__law_draw_rule) (by decide +kernel)) (fun _ _ _ _ _ => (pg_name (i := 6) sc__law_draw_rule.nd rfl (Or.inl rfl))) (fun _ _ _ _ _ => pts_nil) (fun _ _ _ _ _ => (pe_tup (pa_cons pe_str (pa_cons (pe_cal f__law_draw_size hr pass0 (pa_cons (pv 0) (pa_cons (pv 1) (pa_cons (pv 2) pa_nil)))) (pa_cons (pe_op opAdd pe_int (pe_cal f__law_take hr pass0 (pa_cons (pv 0) (pa_cons pe_int pa_nil)))) pa_nil))))))
    (pss_cons (ps_while PassesOwn.never (pt_cmpR opGt (pe_callB callLen rfl T.b_len Pk.boot_len (pa_cons (pv 4) pa_nil)) pe_int (nomark _)) (pss_cons (ps_set (i := 5) sc__law_draw_rule.nd rfl (Or.inl rfl) (pe_cal f__law_take hr pass0 (pa_cons (pv 0) (pa_cons (pe_op opSub (pe_callB callLen rfl T.b_len Pk.boot_len (pa_cons (pv 4) pa_nil)) pe_int) pa_nil))))
    (pss_one (ps_set (i := 4) sc__law_draw_rule.nd rfl (Or.inl rfl) (pe_op opAdd (pe_op opAdd (pe_slice slU (pv 4) po_none (po_some (pv 5))) (pe_lst (pa_cons (pe_tup (pa_cons (pe_ix ix_seq (pe_lst (pa_cons pe_str (pa_cons pe_str pa_nil))) (pe_cal f__law_take hr pass0 (pa_cons (pv 0) (pa_cons pe_int pa_nil))) (fun _ _ => rfl)) (pa_cons (pe_ix ix_seq (pv 4) (pv 5) (fun _ _ => rfl)) (pa_cons (pe_ix ix_seq (pv 4) (pe_op opAdd (pv 5) pe_int) (fun _ _ => rfl)) pa_nil)))) pa_nil))) (pe_slice slU (pv 4) (po_some (pe_op opAdd (pv 5) pe_int)) po_none))))))
    (pss_one (ps_ret (pe_ix ix_seq (pv 4) pe_int (fun _ _ => rfl))))))
theorem ok__law_odd {f : Addr} {fd : FuncData} (F : Fun K "_law_odd" "_law_odd" s__law_odd f fd) (T : Bl mg)  (f__law_take : Cal P w K mg base CX0 1 "_law_take" P__law_take [] (sp_law_take K)) : FnOk P w K mg base CX0 2 f fd P__law_odd (sp_law_odd K C) := by
  obtain ⟨t_MOST_BY, g_MOST_BY⟩ := T.g_MOST_BY
  obtain ⟨t_MOST_LEAVES, g_MOST_LEAVES⟩ := T.g_MOST_LEAVES
  obtain ⟨t_PERIOD, g_PERIOD⟩ := T.g_PERIOD
  refine F.ok sc__law_odd (fun vs H Q E h => ln_law_odd h) (fun cdv A outer s H vs Q E hr h => ⟨t_law_odd K, ?_, rd_law_odd  h⟩)
  exact (pss_cons (ps_set (i := 1) sc__law_odd.nd rfl (Or.inl rfl) (pe_lst (pa_cons pe_int (pa_cons (pe_un un_neg pe_int) (pa_cons pe_bl (pa_cons pe_non (pa_cons pe_str (pa_cons pe_int (pa_cons pe_int (pa_cons (pe_tup (pa_cons pe_int pa_nil)) (pa_cons (pe_lst (pa_cons pe_int pa_nil)) (pa_cons (pe_op opPow pe_int pe_int) (pa_cons pe_bl (pa_cons pe_str (pa_cons (pe_tup (pa_cons pe_str (pa_cons pe_int (pa_cons pe_int pa_nil)))) (pa_cons pe_dnewK pa_nil))))))))))))))))
    (pss_one (ps_ret (pe_ix ix_seq (pv 1) (pe_cal f__law_take hr pass0 (pa_cons (pv 0) (pa_cons pe_int pa_nil))) (fun _ _ => rfl)))))
theorem ok_at_least {f : Addr} {fd : FuncData} (F : FunD K "at_least" "at_least" (defArgs s_at_least) (defBody s_at_least) (defScope s_at_least) [V.int 1] [] f fd) (T : Bl mg)  (on_Rule___init__ : Own P w K mg base (L2.CX P w) 6 C.Rule "__init__" P_Rule___init__ (sp_Rule___init__ K C)) (K_Rule : Kls K mg "Rule" C.Rule) (f_is_by : Cal P w K mg base CX0 3 "is_by" P_is_by [] (sp_By19 K C)) (E_Wrong : ErrK K mg "Wrong" C.Wrong) (i_Wrong : ErrI P w K mg base 1 C.Wrong P_Wrong___init__ (rOneI K C.Wrong "place")) (f_is_number : Cal P w K mg base CX0 2 "is_number" P_is_number [] (sp_IsNum K)) : FnOk P w K mg base (L2.CX P w) 8 f fd P_at_least (sp_at_leastX K C) := by
  obtain ⟨t_MOST_BY, g_MOST_BY⟩ := T.g_MOST_BY
  obtain ⟨t_MOST_LEAVES, g_MOST_LEAVES⟩ := T.g_MOST_LEAVES
  obtain ⟨t_PERIOD, g_PERIOD⟩ := T.g_PERIOD
  refine FunD.ok F sc_at_least (fun vs H Q E h => ln_at_leastX h) (fun cdv A outer s H vs Q E hr h => ⟨t_at_leastX K C E, ?_, rd_at_leastX  h⟩)
  exact (pss_cons (ps_if (pt_not (pt_val (pe_cal f_is_number hr pass0 (pa_cons pe_int (pa_cons (pv 0) pa_nil))))) (pss_one (ps_raise rfl (takes_of rfl rfl rfl rfl) (pmk_err E_Wrong i_Wrong hr (pa_cons pe_int pa_nil)))) pss_nil)
    (pss_cons (ps_if (pt_not (pt_val (pe_cal f_is_by hr pass0 (pa_cons (pv 1) pa_nil)))) (pss_one (ps_raise rfl (takes_of rfl rfl rfl rfl) (pmk_err E_Wrong i_Wrong hr (pa_cons pe_int pa_nil)))) pss_nil)
    (pss_one (ps_ret (pe_mk K_Rule on_Rule___init__ hr passL (pa_cons (pe_tup (pa_cons pe_str (pa_cons (pv 0) (pa_cons (pv 1) pa_nil)))) pa_nil))))))
theorem ok__law_refused {f : Addr} {fd : FuncData} (F : Fun K "_law_refused" "_law_refused" s__law_refused f fd) (T : Bl mg)  (E_PipeError : ErrK K mg "PipeError" C.PipeError) (o_Rule___init__ : Own P w K mg base (L2.CX P w) 6 C.Rule "__init__" P_Rule___init__ (sp_Rule___init__X K C)) (K_Rule : Kls K mg "Rule" C.Rule) (f_at_least : Cal P w K mg base (L2.CX P w) 8 "at_least" P_at_least [] (sp_at_leastX K C)) (fd1_at_least : ∃ ds, Vals [V.int 1] ds ∧ Cal P w K mg base (L2.CX P w) 8 "at_least" P_at_least ds (sp_at_leastX K C)) (E_Wrong : ErrK K mg "Wrong" C.Wrong) (E_TooMany : ErrK K mg "TooMany" C.TooMany) (nf_Wrong : PySem.W.findIn K (.ref C.Wrong) "place" = some none) : FnOk P w K mg base CX0 9 f fd P__law_refused (sp_law_refused K C) := by
  obtain ⟨t_MOST_BY, g_MOST_BY⟩ := T.g_MOST_BY
  obtain ⟨t_MOST_LEAVES, g_MOST_LEAVES⟩ := T.g_MOST_LEAVES
  obtain ⟨t_PERIOD, g_PERIOD⟩ := T.g_PERIOD
  obtain ⟨ds1_at_least, vd1_at_least, fd1_at_least⟩ := fd1_at_least
  refine F.ok sc__law_refused (fun vs H Q E h => ln_law_refused h) (fun cdv A outer s H vs Q E hr h => ⟨t_law_refused K C, ?_, rd_law_refused  h⟩)
  exact (pss_cons (ps_try_as (i := 3) (tb := (fun W => (tIfS (tTest (tOp (rEqU K) (tVar 0) (tC (.int 0)))) (tDrop (tMakeS C.Rule (sp_Rule___init__X K C) (WE W) (tCons (tVar 1) tNil))) (tIfS (tTest (tOp (rEqU K) (tVar 0) (tC (.int 1)))) (tDrop (tCallS (sp_at_leastX K C) (WE W) (tCons (tVar 1) (tCons (tVar 2) tNil)))) (tDrop (tCallSD (sp_at_leastX K C) [.int 1] (WE W) (tCons (tVar 1) tNil))))))) (ts := (fun a cls d => (tRet (tIf (tAnd (tB (tCB (rIsD K C.Wrong a cls d) (tCons (tVar 3) (tCons (tC (.ref C.Wrong)) tNil)))) (tNot (tB (tCB (rIsD K C.Wrong a cls d) (tCons (tVar 3) (tCons (tC (.ref C.TooMany)) tNil)))))) (tXf a cls d C.Wrong "place" (tVar 3)) (tC (.str "other")))))) (Wout := fun _ _ _ _ => False) rfl rfl sc__law_refused.nd rfl rfl ⟨rfl, by decide, Or.inl E_PipeError.at_⟩ takes0
      (fun W pn xe tk _ => (pss_one (ps_if (pt_cmpR (opEq hr.units) (pv 0) pe_int (nomark _)) (pss_one (ps_expr (pe_mkS K_Rule o_Rule___init__ hr (fun σ => passAt tk σ) (pa_cons (pv 1) pa_nil)))) (pss_one (ps_if (pt_cmpR (opEq hr.units) (pv 0) pe_int (nomark _)) (pss_one (ps_expr (pe_calS f_at_least hr (fun σ => passAt tk σ) (pa_cons (pv 1) (pa_cons (pv 2) pa_nil))))) (pss_one (ps_expr (pe_calDS fd1_at_least vd1_at_least hr (fun σ => passAt tk σ) (pa_cons (pv 1) pa_nil)))))))))
      (fun a oe cls d pn hz hf => (pss_one (ps_ret (pe_ifExp (PW.pt (pw_and (pt_val (pe_callB (call_isD E_Wrong.ex hz hf) rfl T.b_isinstance Pk.boot_isinstance (pa_cons (pv 3) (pa_cons (pe_glob rfl E_Wrong.at_ rfl) pa_nil)))) (pw_and1 (pt_not (pt_val (pe_callB (call_isD E_Wrong.ex hz hf) rfl T.b_isinstance Pk.boot_isinstance (pa_cons (pv 3) (pa_cons (pe_glob rfl E_TooMany.at_ rfl) pa_nil)))))))) (pe_xf E_Wrong.xf nf_Wrong hz hf (pv 3)) pe_str)))))
    (pss_one (ps_ret pe_non)))
theorem ok__law_spoilt {n : Nat} {f : Addr} {fd : FuncData} (F : Fun K "_law_spoilt" "_law_spoilt" s__law_spoilt f fd) (T : Bl mg)  (f__law_odd : Cal P w K mg base CX0 2 "_law_odd" P__law_odd [] (sp_law_odd K C)) (f__law_take : Cal P w K mg base CX0 1 "_law_take" P__law_take [] (sp_law_take K)) (f__law_spoilt : Cal P w K mg base CX0 (2 + n) "_law_spoilt" P__law_spoilt [] (sp_law_spoilt K C n)) : FnOk P w K mg base CX0 (2 + n + 1) f fd P__law_spoilt (sp_law_spoilt K C (n + 1)) := by
  obtain ⟨t_MOST_BY, g_MOST_BY⟩ := T.g_MOST_BY
  obtain ⟨t_MOST_LEAVES, g_MOST_LEAVES⟩ := T.g_MOST_LEAVES
  obtain ⟨t_PERIOD, g_PERIOD⟩ := T.g_PERIOD
  refine F.ok sc__law_spoilt (fun vs H Q E h => ln_law_spoilt h) (fun cdv A outer s H vs Q E hr h => ⟨t_law_spoilt K C n, ?_, rd_law_spoilt  h⟩)
  exact (pss_cons (ps_par (i := 2) (j := 3) (by rfl) sc__law_spoilt.nd rfl rfl (by decide) rfl rfl (pa_cons (pe_cal f__law_take hr pass0 (pa_cons (pv 0) (pa_cons pe_int pa_nil))) (pa_cons (pe_cal f__law_take hr pass0 (pa_cons (pv 0) (pa_cons pe_int pa_nil))) pa_nil)) (by rfl))
    (pss_cons (ps_if (PW.pt (pw_and (pt_cmpR (opNe hr.units) (pe_ix ix_seq (pv 1) pe_int (fun _ _ => rfl)) pe_str (nomark _)) (pw_and1 (pt_cmpR opLt (pv 2) pe_int (nomark _))))) (pss_cons (ps_set (i := 3) sc__law_spoilt.nd rfl (Or.inl rfl) (pe_op opAdd pe_int (pe_cal f__law_take hr pass0 (pa_cons (pv 0) (pa_cons pe_int pa_nil)))))
    (pss_one (ps_ret (pe_op opAdd (pe_op opAdd (pe_slice sl_tupA (pv 1) po_none (po_some (pv 3))) (pe_tup (pa_cons (pe_cal f__law_spoilt hr pass0 (pa_cons (pv 0) (pa_cons (pe_ix ix_seq (pv 1) (pv 3) (fun _ _ => rfl)) pa_nil))) pa_nil))) (pe_slice sl_tupA (pv 1) (po_some (pe_op opAdd (pv 3) pe_int)) po_none))))) pss_nil)
    (pss_cons (ps_if (pt_cmpR (opEq hr.units) (pv 2) pe_int (nomark _)) (pss_one (ps_ret (pe_callTy call_list_of rfl T.b_list Pk.boot_t_list (pa_cons (pv 1) pa_nil)))) pss_nil)
    (pss_cons (ps_if (pt_cmpR (opEq hr.units) (pv 2) pe_int (nomark _)) (pss_one (ps_ret (pe_op opAdd (pe_slice sl_tupA (pv 1) po_none (po_some (pv 3))) (pe_slice sl_tupA (pv 1) (po_some (pe_op opAdd (pv 3) pe_int)) po_none)))) pss_nil)
    (pss_cons (ps_if (pt_cmpR (opEq hr.units) (pv 2) pe_int (nomark _)) (pss_one (ps_ret (pe_op opAdd (pe_op opAdd (pe_slice sl_tupA (pv 1) po_none (po_some (pv 3))) (pe_tup (pa_cons (pe_cal f__law_odd hr pass0 (pa_cons (pv 0) pa_nil)) pa_nil))) (pe_slice sl_tupA (pv 1) (po_some (pv 3)) po_none)))) pss_nil)
    (pss_cons (ps_set (i := 4) sc__law_spoilt.nd rfl (Or.inl rfl) (pe_ix ix_seq (pe_lst (pa_cons pe_str (pa_cons pe_str (pa_cons pe_str (pa_cons pe_str (pa_cons pe_str (pa_cons pe_str (pa_cons pe_int (pa_cons pe_non pa_nil))))))))) (pe_cal f__law_take hr pass0 (pa_cons (pv 0) (pa_cons pe_int pa_nil))) (fun _ _ => rfl)))
    (pss_one (ps_ret (pe_op opAdd (pe_op opAdd (pe_slice sl_tupA (pv 1) po_none (po_some (pv 3))) (pe_tup (pa_cons (pe_ifExp (pt_cmpR (opEq hr.units) (pv 3) pe_int (nomark _)) (pv 4) (pe_cal f__law_odd hr pass0 (pa_cons (pv 0) pa_nil))) pa_nil))) (pe_slice sl_tupA (pv 1) (po_some (pe_op opAdd (pv 3) pe_int)) po_none))))))))))
theorem all__law_spoilt {f : Addr} {fd : FuncData} (F : Fun K "_law_spoilt" "_law_spoilt" s__law_spoilt f fd) (T : Bl mg)  (f__law_odd : Cal P w K mg base CX0 2 "_law_odd" P__law_odd [] (sp_law_odd K C)) (f__law_take : Cal P w K mg base CX0 1 "_law_take" P__law_take [] (sp_law_take K)) (hm : mg "_law_spoilt" = some (.ref f)) (hk : PySem.W.keepIn K (.ref f) = true) (hb : Binds K fd P__law_spoilt []) : ∀ n : Nat, FnOk P w K mg base CX0 (2 + n) f fd P__law_spoilt (sp_law_spoilt K C n)
  | 0 => ⟨fun vs H Q E h => (no_law_spoilt h).elim, fun A outer s H args us vs Q E _ _ _ _ h => (no_law_spoilt h).elim⟩
  | n + 1 => ok__law_spoilt F T  f__law_odd f__law_take ⟨_, _, all__law_spoilt F T  f__law_odd f__law_take hm hk hb n, hm, hk, hb⟩
theorem ok_law {f : Addr} {fd : FuncData} (F : Fun K "law" "law" s_law f fd) (T : Bl mg) (fx_Fx19 : Fx19 K C) (f__law_alike : CalG P w K mg base CX0 1 "_law_alike" P__law_alike (sp_law_alike K)) (f__law_refused : Cal P w K mg base CX0 9 "_law_refused" P__law_refused [] (sp_law_refused K C)) (on_Rule___init__ : Own P w K mg base (L2.CX P w) 6 C.Rule "__init__" P_Rule___init__ (sp_Rule___init__ K C)) (K_Rule : Kls K mg "Rule" C.Rule) (fn1_at_least : ∃ ds, Vals [V.int 1] ds ∧ Cal P w K mg base (L2.CX P w) 8 "at_least" P_at_least ds (sp_at_least K C)) (o_Rule_tree : Own P w K mg base CX0 1 C.Rule "tree" P_Rule_tree (sp_Rule_tree K C)) (f__law_is_number : Cal P w K mg base CX0 1 "_law_is_number" P__law_is_number [] (sp_law_is_number K C)) (f__law_spoilt : Cal P w K mg base CX0 14 "_law_spoilt" P__law_spoilt [] (sp_law_spoilt K C 12)) (f__law_atoms : Cal P w K mg base CX0 71 "_law_atoms" P__law_atoms [] (sp_law_atoms K C 70)) (f__law_take : Cal P w K mg base CX0 1 "_law_take" P__law_take [] (sp_law_take K)) (f__law_odd : Cal P w K mg base CX0 2 "_law_odd" P__law_odd [] (sp_law_odd K C)) (f__law_draw_rule : Cal P w K mg base CX0 3 "_law_draw_rule" P__law_draw_rule [] (sp_law_draw_rule K)) (f__law_bag : Cal P w K mg base CX0 1 "_law_bag" P__law_bag [] (sp_law_bag K)) : FnG P w K mg base CX0 72 f fd P_law (sp_law K) := by
  obtain ⟨t_MOST_BY, g_MOST_BY⟩ := T.g_MOST_BY
  obtain ⟨t_MOST_LEAVES, g_MOST_LEAVES⟩ := T.g_MOST_LEAVES
  obtain ⟨t_PERIOD, g_PERIOD⟩ := T.g_PERIOD
  obtain ⟨dn1_at_least, vn1_at_least, fn1_at_least⟩ := fn1_at_least
  refine okG F sc_law (fun vs H Q E h => ln_law h) (fun cdv A outer s H vs Q E gd hr h => ⟨t_law K C, ?_, rd_law fx_Fx19 h⟩)
  exact (pss_cons (ps_set (i := 1) sc_law.nd rfl (Or.inr rfl) (pe_cal f__law_bag hr pass0 (pa_cons (pv 0) pa_nil)))
    (pss_cons (ps_for PassesOwn.never rfl (pi_range1 rfl T.b_range (pa_cons pe_int pa_nil)) (pg_name (i := 2) sc_law.nd rfl (Or.inl rfl)) (pss_cons (ps_par (i := 3) (j := 4) (by rfl) sc_law.nd rfl rfl (by decide) rfl rfl (pa_cons (pe_cal f__law_draw_rule hr pass0 (pa_cons (pv 1) (pa_cons pe_int (pa_cons (pe_op opPow pe_int pe_int) (pa_cons (pe_op opAdd pe_int (pe_cal f__law_take hr pass0 (pa_cons (pv 1) (pa_cons pe_int pa_nil)))) pa_nil))))) (pa_cons (pe_tup (pa_cons pe_str (pa_cons pe_int (pa_cons pe_int pa_nil)))) pa_nil)) (by rfl))
    (pss_cons (ps_asg (pe_lc (own := [("_law_k", 5)]) (g := (gName 5)) (tt := tYes) rfl sc_law.nd (pi_range1 rfl T.b_range (pa_cons pe_int pa_nil)) (blkOk_by (N := N_law) (own := [("_law_k", 5)]) (sc := defScope s_law) (by decide +kernel)) (fun _ _ _ _ _ => (pg_name (i := 5) sc_law.nd rfl (Or.inl rfl))) (fun _ _ _ _ _ => pts_nil) (fun _ _ _ _ _ => (pe_ifExp (pt_cmpR (opEq hr.units) (pe_cal f__law_take hr pass0 (pa_cons (pv 1) (pa_cons pe_int pa_nil))) pe_int (nomark _)) (pe_cal f__law_odd hr pass0 (pa_cons (pv 1) pa_nil)) (pe_op opAdd pe_int (pe_cal f__law_take hr pass0 (pa_cons (pv 1) (pa_cons pe_int pa_nil))))))) (pg_lst rfl (pgs_cons (pg_name (i := 6) sc_law.nd rfl (Or.inl rfl)) (pgs_cons (pg_name (i := 7) sc_law.nd rfl (Or.inl rfl)) pgs_nil))))
    (pss_cons (ps_for PassesOwn.never rfl (pi_range1 rfl T.b_range (pa_cons (pe_cal f__law_take hr pass0 (pa_cons (pv 1) (pa_cons pe_int pa_nil))) pa_nil)) (pg_name (i := 5) sc_law.nd rfl (Or.inl rfl)) (pss_one (ps_set (i := 4) sc_law.nd rfl (Or.inl rfl) (pe_tup (pa_cons (pe_ix ix_seq (pe_lst (pa_cons pe_str (pa_cons pe_str pa_nil))) (pe_cal f__law_take hr pass0 (pa_cons (pv 1) (pa_cons pe_int pa_nil))) (fun _ _ => rfl)) (pa_cons (pv 4) (pa_cons (pe_tup (pa_cons pe_str (pa_cons (pe_op opAdd pe_int (pv 5)) (pa_cons pe_int pa_nil)))) pa_nil)))))))
    (pss_cons (ps_for PassesOwn.never rfl (pi_tup (pe_tup (pa_cons (pv 3) (pa_cons (pe_cal f__law_spoilt hr pass0 (pa_cons (pv 1) (pa_cons (pv 3) pa_nil))) (pa_cons (pv 6) (pa_cons (pe_lst (pa_cons (pv 3) pa_nil)) (pa_cons (pe_tup (pa_cons (pv 3) pa_nil)) (pa_cons (pv 4) (pa_cons (pe_op opMul (pe_lst (pa_cons pe_int pa_nil)) pe_int) (pa_cons (pe_op opMul (pe_tup (pa_cons (pv 4) pa_nil)) pe_int) pa_nil)))))))))) (pg_name (i := 8) sc_law.nd rfl (Or.inl rfl)) (pss_cons (ps_set (i := 9) sc_law.nd rfl (Or.inl rfl) (pe_callB (call_reprV (C := C) gd (room_repr hr)) rfl T.b_repr Pk.boot_repr (pa_cons (pv 8) pa_nil)))
    (pss_cons (ps_set (i := 10) sc_law.nd rfl (Or.inl rfl) (pe_ifExp (pt_cmpR opLt (pe_cal f__law_atoms hr pass0 (pa_cons (pv 8) pa_nil)) pe_int (nomark _)) pe_non pe_int))
    (pss_one (ps_for PassesOwn.never rfl (pi_range1 rfl T.b_range (pa_cons pe_int pa_nil)) (pg_name (i := 11) sc_law.nd rfl (Or.inl rfl)) (pss_one (ps_if (PW.pt (pw_or (pt_not (pt_val (pe_calg f__law_alike gd hr pass0 (pa_cons (pe_cal f__law_refused hr pass0 (pa_cons pe_int (pa_cons (pv 8) (pa_cons pe_non pa_nil)))) (pa_cons (pv 10) pa_nil))))) (pw_or1 (pt_cmpR (opNe hr.units) (pe_callB (call_reprV (C := C) gd (room_repr hr)) rfl T.b_repr Pk.boot_repr (pa_cons (pv 8) pa_nil)) (pv 9) (nomark _))))) (pss_one (ps_ret pe_bl)) pss_nil)))))))
    (pss_cons (ps_par (i := 12) (j := 13) (by rfl) sc_law.nd rfl rfl (by decide) rfl rfl (pa_cons (pe_cal f__law_is_number hr pass0 (pa_cons (pv 6) (pa_cons pe_non pa_nil))) (pa_cons (pe_cal f__law_is_number hr pass0 (pa_cons (pv 7) (pa_cons pe_int pa_nil))) pa_nil)) (by rfl))
    (pss_cons (ps_set (i := 10) sc_law.nd rfl (Or.inl rfl) (pe_ifExp (pt_val (pv 12)) (pe_ifExp (pt_val (pv 13)) pe_non pe_int) pe_int))
    (pss_cons (ps_if (pt_not (pt_val (pe_calg f__law_alike gd hr pass0 (pa_cons (pe_lst (pa_cons (pe_cal f__law_refused hr pass0 (pa_cons pe_int (pa_cons (pv 6) (pa_cons (pv 7) pa_nil)))) (pa_cons (pe_cal f__law_refused hr pass0 (pa_cons pe_int (pa_cons (pv 6) (pa_cons (pv 7) pa_nil)))) pa_nil))) (pa_cons (pe_lst (pa_cons (pv 10) (pa_cons (pe_ifExp (pt_val (pv 12)) pe_non pe_int) pa_nil))) pa_nil))))) (pss_one (ps_ret pe_bl)) pss_nil)
    (pss_cons (ps_if (PW.pt (pw_and (pt_val (pv 12)) (pw_and1 (pt_cmpR (opNe hr.units) (pe_mt0 K_Rule o_Rule_tree (pe_calD fn1_at_least vn1_at_least hr passL (pa_cons (pv 6) pa_nil)) hr pass0) (pe_tup (pa_cons pe_str (pa_cons (pv 6) (pa_cons pe_int pa_nil)))) (nomark _))))) (pss_one (ps_ret pe_bl)) pss_nil)
    (pss_cons (ps_set (i := 14) sc_law.nd rfl (Or.inl rfl) (pe_mk K_Rule on_Rule___init__ hr passL (pa_cons (pe_tup (pa_cons pe_str (pa_cons pe_int (pa_cons pe_int pa_nil)))) pa_nil)))
    (pss_cons (ps_set (i := 15) sc_law.nd rfl (Or.inl rfl) (pe_lst (pa_cons (pe_cal f__law_refused hr pass0 (pa_cons pe_int (pa_cons (pv 14) (pa_cons pe_non pa_nil)))) (pa_cons (pe_cal f__law_refused hr pass0 (pa_cons pe_int (pa_cons (pe_tup (pa_cons pe_str (pa_cons (pv 14) (pa_cons (pv 3) pa_nil)))) (pa_cons pe_non pa_nil)))) (pa_cons (pe_cal f__law_refused hr pass0 (pa_cons pe_int (pa_cons (pv 14) (pa_cons pe_int pa_nil)))) pa_nil)))))
    (pss_one (ps_if (pt_not (pt_val (pe_calg f__law_alike gd hr pass0 (pa_cons (pv 15) (pa_cons (pe_lst (pa_cons pe_int (pa_cons pe_int (pa_cons pe_int pa_nil)))) pa_nil))))) (pss_one (ps_ret pe_bl)) pss_nil)))))))))))))
    (pss_one (ps_ret pe_bl))))
end
theorem kit_false {K : PySem.W.Frag} {D C : Addr} (hd : PySem.W.hasDictIn K C = true) (ty : PySem.W.typeIn K (.ref C) = some (.type "type")) (s : PySem.W.subIn K (.ref D) (.ref C) = some false) (r : PySem.W.subIn K (.ref D) (.ref D) = some true) :
    PySem.W.kitOne K (.ref D) (.ref C) = some false := by
  have ne : D ≠ C := fun e => by
    subst e
    rw [s] at r
    cases r
  have ne2 : ((Value.ref D) == Value.ref C) = false := beq_eq_false_iff_ne.mpr fun e => ne (Value.ref.inj e)
  obtain ⟨cd, hc, _⟩ := PySem.W.any_some hd
  unfold PySem.W.kitOne
  rw [ne2, if_neg (by decide)]
  unfold PySem.W.kitCls
  dsimp only
  rw [hc, ty]
  exact s
theorem all_mk {l : PySem.W.OpenLaw} {w : World} {K : PySem.W.Frag} {h : Heap} {mg : Str → Option Value} {fa : Addr} (X : K.In h) (G : h.Ns mainGlobals mg) (hfa : mg "law" = some (.ref fa))
    {c_PipeError : Addr} {nmPipeError qnPipeError : Str} {NPipeError : Addr} {bsPipeError : List Value} {snPipeError : List Str} {sbPipeError : List Value} {abPipeError : Bool} {coPipeError : Option Bool} {ddPipeError : Option Addr} {m0PipeError m1PipeError m2PipeError m3PipeError m5PipeError : Option Value}
    {c_TooMany : Addr} {nmTooMany qnTooMany : Str} {NTooMany : Addr} {bsTooMany : List Value} {snTooMany : List Str} {sbTooMany : List Value} {abTooMany : Bool} {coTooMany : Option Bool} {ddTooMany : Option Addr} {m0TooMany m1TooMany m2TooMany m3TooMany m5TooMany : Option Value}
    {c_Wrong : Addr} {nmWrong qnWrong : Str} {NWrong : Addr} {bsWrong : List Value} {snWrong : List Str} {sbWrong : List Value} {abWrong : Bool} {coWrong : Option Bool} {ddWrong : Option Addr} {m0Wrong m1Wrong m2Wrong m3Wrong m5Wrong : Option Value}
    {c_Rule : Addr}
    {f0 : Addr} {od0 an0 : Option Addr} {oc0 kV0 dc0 pm0 cd0 ct0 : Value} {sl0 : Array (Option Value)}
    {f1 : Addr} {od1 an1 : Option Addr} {oc1 kV1 dc1 pm1 cd1 ct1 : Value} {sl1 : Array (Option Value)}
    {f2 : Addr} {od2 an2 : Option Addr} {oc2 kV2 dc2 pm2 cd2 ct2 : Value} {sl2 : Array (Option Value)}
    {f3 : Addr} {od3 an3 : Option Addr} {oc3 kV3 dc3 pm3 cd3 ct3 : Value} {sl3 : Array (Option Value)}
    {f4 : Addr} {od4 an4 : Option Addr} {oc4 kV4 dc4 pm4 cd4 ct4 : Value} {sl4 : Array (Option Value)}
    {f5 : Addr} {od5 an5 : Option Addr} {oc5 kV5 dc5 pm5 cd5 ct5 : Value} {sl5 : Array (Option Value)}
    {f6 : Addr} {od6 an6 : Option Addr} {oc6 kV6 dc6 pm6 cd6 ct6 : Value} {sl6 : Array (Option Value)}
    {f7 : Addr} {od7 an7 : Option Addr} {oc7 kV7 dc7 pm7 cd7 ct7 : Value} {sl7 : Array (Option Value)}
    {f8 : Addr} {od8 an8 : Option Addr} {oc8 kV8 dc8 pm8 cd8 ct8 : Value} {sl8 : Array (Option Value)}
    {f9 : Addr} {od9 an9 : Option Addr} {oc9 kV9 dc9 pm9 cd9 ct9 : Value} {sl9 : Array (Option Value)}
    {f10 : Addr} {od10 an10 : Option Addr} {oc10 kV10 dc10 pm10 cd10 ct10 : Value} {sl10 : Array (Option Value)}
    {f11 : Addr} {od11 an11 : Option Addr} {oc11 kV11 dc11 pm11 cd11 ct11 : Value} {sl11 : Array (Option Value)}
    {f12 : Addr} {od12 an12 : Option Addr} {oc12 kV12 dc12 pm12 cd12 ct12 : Value} {sl12 : Array (Option Value)}
    {f13 : Addr} {od13 an13 : Option Addr} {oc13 kV13 dc13 pm13 cd13 ct13 : Value} {sl13 : Array (Option Value)}
    {f14 : Addr} {od14 an14 : Option Addr} {oc14 kV14 dc14 pm14 cd14 ct14 : Value} {sl14 : Array (Option Value)}
    {f15 : Addr} {od15 an15 : Option Addr} {oc15 kV15 dc15 pm15 cd15 ct15 : Value} {sl15 : Array (Option Value)}
    {f16 : Addr} {od16 an16 : Option Addr} {oc16 kV16 dc16 pm16 cd16 ct16 : Value} {sl16 : Array (Option Value)}
    {f17 : Addr} {od17 an17 : Option Addr} {oc17 kV17 dc17 pm17 cd17 ct17 : Value} {sl17 : Array (Option Value)}
    {T17 : Addr} {tT17 : Tok} {nT17 : Nat}
    {cT17 : Value} {dT17 : Option Addr} {sT17 : Array (Option Value)}
    {f18 : Addr} {od18 an18 : Option Addr} {oc18 kV18 dc18 pm18 cd18 ct18 : Value} {sl18 : Array (Option Value)}
    {f19 : Addr} {od19 an19 : Option Addr} {oc19 kV19 dc19 pm19 cd19 ct19 : Value} {sl19 : Array (Option Value)}
    {f20 : Addr} {od20 an20 : Option Addr} {oc20 kV20 dc20 pm20 cd20 ct20 : Value} {sl20 : Array (Option Value)}
    {tk_MOST_BY : Tok}
    {tk_MOST_LEAVES : Tok}
    {tk_PERIOD : Tok}
    (aC_PipeError : PySem.W.nsIn K mainGlobals "PipeError" = some (some (.ref c_PipeError)))
    (kl_PipeError : K.lookup c_PipeError = some (excClassObj nmPipeError qnPipeError c_PipeError NPipeError bsPipeError [.type "ValueError", .type "Exception", .type "BaseException", .type "object"] true snPipeError sbPipeError abPipeError coPipeError ddPipeError m0PipeError m1PipeError m2PipeError m3PipeError m5PipeError "ValueError.__new__"))
    (sa_PipeError : PySem.W.findIn K (.ref c_PipeError) "__setattr__" = some (some (.builtin "object.__setattr__")))
    (ex_PipeError : PySem.W.subIn K (.ref c_PipeError) (.type "BaseException") = some true)
    (ty_PipeError : PySem.W.typeIn K (.ref c_PipeError) = some (.type "type"))
    (kc_PipeError : PySem.W.keepIn K (.ref c_PipeError) = true)
    (hd_PipeError : PySem.W.hasDictIn K c_PipeError = true)
    (ga_PipeError : PySem.W.findIn K (.ref c_PipeError) "__getattribute__" = some (some (.builtin "BaseException.__getattribute__")))
    (gg_PipeError : PySem.W.findIn K (.ref c_PipeError) "__getattr__" = some none)
    (ha_PipeError : PySem.W.findIn K (.ref c_PipeError) "__class__" = some (some (.builtin "object.__class__")))
    (hn_PipeError : PySem.W.specialIn K (.builtin "object.__class__") "__get__" = some (some (.builtin "getset_descriptor.__get__")))
    (ht_PipeError : PySem.W.takesIn K (.builtin "object.__class__") = some true)
    (hm_PipeError : PySem.W.mroIn K c_PipeError (.type "object") = some true)
    (aC_TooMany : PySem.W.nsIn K mainGlobals "TooMany" = some (some (.ref c_TooMany)))
    (kl_TooMany : K.lookup c_TooMany = some (excClassObj nmTooMany qnTooMany c_TooMany NTooMany bsTooMany [.ref c_PipeError, .type "ValueError", .type "Exception", .type "BaseException", .type "object"] true snTooMany sbTooMany abTooMany coTooMany ddTooMany m0TooMany m1TooMany m2TooMany m3TooMany m5TooMany "ValueError.__new__"))
    (sa_TooMany : PySem.W.findIn K (.ref c_TooMany) "__setattr__" = some (some (.builtin "object.__setattr__")))
    (ex_TooMany : PySem.W.subIn K (.ref c_TooMany) (.type "BaseException") = some true)
    (ty_TooMany : PySem.W.typeIn K (.ref c_TooMany) = some (.type "type"))
    (kc_TooMany : PySem.W.keepIn K (.ref c_TooMany) = true)
    (hd_TooMany : PySem.W.hasDictIn K c_TooMany = true)
    (ga_TooMany : PySem.W.findIn K (.ref c_TooMany) "__getattribute__" = some (some (.builtin "BaseException.__getattribute__")))
    (gg_TooMany : PySem.W.findIn K (.ref c_TooMany) "__getattr__" = some none)
    (ha_TooMany : PySem.W.findIn K (.ref c_TooMany) "__class__" = some (some (.builtin "object.__class__")))
    (hn_TooMany : PySem.W.specialIn K (.builtin "object.__class__") "__get__" = some (some (.builtin "getset_descriptor.__get__")))
    (ht_TooMany : PySem.W.takesIn K (.builtin "object.__class__") = some true)
    (hm_TooMany : PySem.W.mroIn K c_TooMany (.type "object") = some true)
    (nf_TooMany : PySem.W.findIn K (.ref c_TooMany) "limit" = some none)
    (su_TooMany : PySem.W.subIn K (.ref c_TooMany) (.ref c_PipeError) = some true)
    (aC_Wrong : PySem.W.nsIn K mainGlobals "Wrong" = some (some (.ref c_Wrong)))
    (kl_Wrong : K.lookup c_Wrong = some (excClassObj nmWrong qnWrong c_Wrong NWrong bsWrong [.ref c_PipeError, .type "ValueError", .type "Exception", .type "BaseException", .type "object"] true snWrong sbWrong abWrong coWrong ddWrong m0Wrong m1Wrong m2Wrong m3Wrong m5Wrong "ValueError.__new__"))
    (sa_Wrong : PySem.W.findIn K (.ref c_Wrong) "__setattr__" = some (some (.builtin "object.__setattr__")))
    (ex_Wrong : PySem.W.subIn K (.ref c_Wrong) (.type "BaseException") = some true)
    (ty_Wrong : PySem.W.typeIn K (.ref c_Wrong) = some (.type "type"))
    (kc_Wrong : PySem.W.keepIn K (.ref c_Wrong) = true)
    (hd_Wrong : PySem.W.hasDictIn K c_Wrong = true)
    (ga_Wrong : PySem.W.findIn K (.ref c_Wrong) "__getattribute__" = some (some (.builtin "BaseException.__getattribute__")))
    (gg_Wrong : PySem.W.findIn K (.ref c_Wrong) "__getattr__" = some none)
    (ha_Wrong : PySem.W.findIn K (.ref c_Wrong) "__class__" = some (some (.builtin "object.__class__")))
    (hn_Wrong : PySem.W.specialIn K (.builtin "object.__class__") "__get__" = some (some (.builtin "getset_descriptor.__get__")))
    (ht_Wrong : PySem.W.takesIn K (.builtin "object.__class__") = some true)
    (hm_Wrong : PySem.W.mroIn K c_Wrong (.type "object") = some true)
    (nf_Wrong : PySem.W.findIn K (.ref c_Wrong) "place" = some none)
    (su_Wrong : PySem.W.subIn K (.ref c_Wrong) (.ref c_PipeError) = some true)
    (sb_Wrong : PySem.W.subIn K (.ref c_Wrong) (.ref c_TooMany) = some false)
    (ss_Wrong : PySem.W.subIn K (.ref c_Wrong) (.ref c_Wrong) = some true)
    (aC_Rule : PySem.W.nsIn K mainGlobals "Rule" = some (some (.ref c_Rule)))
    (pg_Rule : PySem.W.plainGet K c_Rule Str.empty = true)
    (hd_Rule : PySem.W.hasDictIn K c_Rule = true)
    (po_Rule : PySem.W.plainOver K c_Rule = true)
    (sa_Rule : PySem.W.findIn K (.ref c_Rule) "__setattr__" = some (some (.builtin "object.__setattr__")))
    (mk_Rule : PySem.W.makesIn K c_Rule = true)
    (kc_Rule : PySem.W.keepIn K (.ref c_Rule) = true)
    (sf_Rule : PySem.W.selfFirst K c_Rule = true)
    (ha_Rule : PySem.W.findIn K (.ref c_Rule) "__class__" = some (some (.builtin "object.__class__")))
    (hn_Rule : PySem.W.specialIn K (.builtin "object.__class__") "__get__" = some (some (.builtin "getset_descriptor.__get__")))
    (ht_Rule : PySem.W.takesIn K (.builtin "object.__class__") = some true)
    (hm_Rule : PySem.W.mroIn K c_Rule (.type "object") = some true)
    (ne_Rule : PySem.W.findIn K (.ref c_Rule) "__ne__" = some (some (.builtin "object.__ne__")))
    (zi_Rule : PySem.W.subIn K (.ref c_Rule) (.type "int") = some false)
    (zt_Rule : PySem.W.subIn K (.ref c_Rule) (.type "tuple") = some false)
    (zs_Rule : PySem.W.subIn K (.ref c_Rule) (.type "str") = some false)
    (na_Rule__tree : PySem.W.findIn K (.ref c_Rule) "_tree" = some none)
    (a0 : PySem.W.findIn K (.ref c_Wrong) "__init__" = some (some (.ref f0)))
    (i0 : PySem.W.typeIn K (.ref f0) = some (.type "function"))
    (l0 : K.lookup f0 = some ⟨oc0, od0, .func (PySem.W.fnOf "__init__" "Wrong.__init__" (defArgs s_Wrong___init__) (defBody s_Wrong___init__) (defScope s_Wrong___init__) .none kV0 dc0 pm0 an0 cd0 ct0), sl0⟩)
    (c0 : PySem.W.codeIn K cd0 "Wrong.__init__" = true)
    (k0 : PySem.W.keepIn K (.ref f0) = true)
    (a1 : PySem.W.nsIn K mainGlobals "has_word" = some (some (.ref f1)))
    (l1 : K.lookup f1 = some ⟨oc1, od1, .func (PySem.W.fnOf "has_word" "has_word" (defArgs s_has_word) (defBody s_has_word) (defScope s_has_word) .none kV1 dc1 pm1 an1 cd1 ct1), sl1⟩)
    (c1 : PySem.W.codeIn K cd1 "has_word" = true)
    (k1 : PySem.W.keepIn K (.ref f1) = true)
    (a2 : PySem.W.nsIn K mainGlobals "is_integer" = some (some (.ref f2)))
    (l2 : K.lookup f2 = some ⟨oc2, od2, .func (PySem.W.fnOf "is_integer" "is_integer" (defArgs s_is_integer) (defBody s_is_integer) (defScope s_is_integer) .none kV2 dc2 pm2 an2 cd2 ct2), sl2⟩)
    (c2 : PySem.W.codeIn K cd2 "is_integer" = true)
    (k2 : PySem.W.keepIn K (.ref f2) = true)
    (a3 : PySem.W.nsIn K mainGlobals "is_number" = some (some (.ref f3)))
    (l3 : K.lookup f3 = some ⟨oc3, od3, .func (PySem.W.fnOf "is_number" "is_number" (defArgs s_is_number) (defBody s_is_number) (defScope s_is_number) .none kV3 dc3 pm3 an3 cd3 ct3), sl3⟩)
    (c3 : PySem.W.codeIn K cd3 "is_number" = true)
    (k3 : PySem.W.keepIn K (.ref f3) = true)
    (a4 : PySem.W.nsIn K mainGlobals "is_by" = some (some (.ref f4)))
    (l4 : K.lookup f4 = some ⟨oc4, od4, .func (PySem.W.fnOf "is_by" "is_by" (defArgs s_is_by) (defBody s_is_by) (defScope s_is_by) .none kV4 dc4 pm4 an4 cd4 ct4), sl4⟩)
    (c4 : PySem.W.codeIn K cd4 "is_by" = true)
    (k4 : PySem.W.keepIn K (.ref f4) = true)
    (a5 : PySem.W.nsIn K mainGlobals "is_leaf" = some (some (.ref f5)))
    (l5 : K.lookup f5 = some ⟨oc5, od5, .func (PySem.W.fnOf "is_leaf" "is_leaf" (defArgs s_is_leaf) (defBody s_is_leaf) (defScope s_is_leaf) .none kV5 dc5 pm5 an5 cd5 ct5), sl5⟩)
    (c5 : PySem.W.codeIn K cd5 "is_leaf" = true)
    (k5 : PySem.W.keepIn K (.ref f5) = true)
    (a6 : PySem.W.nsIn K mainGlobals "is_tree" = some (some (.ref f6)))
    (l6 : K.lookup f6 = some ⟨oc6, od6, .func (PySem.W.fnOf "is_tree" "is_tree" (defArgs s_is_tree) (defBody s_is_tree) (defScope s_is_tree) .none kV6 dc6 pm6 an6 cd6 ct6), sl6⟩)
    (c6 : PySem.W.codeIn K cd6 "is_tree" = true)
    (k6 : PySem.W.keepIn K (.ref f6) = true)
    (a7 : PySem.W.findIn K (.ref c_Rule) "__init__" = some (some (.ref f7)))
    (i7 : PySem.W.isFn K (.ref f7) = true)
    (h7 : PySem.W.fnIn K f7 = true)
    (l7 : K.lookup f7 = some ⟨oc7, od7, .func (PySem.W.fnOf "__init__" "Rule.__init__" (defArgs s_Rule___init__) (defBody s_Rule___init__) (defScope s_Rule___init__) .none kV7 dc7 pm7 an7 cd7 ct7), sl7⟩)
    (c7 : PySem.W.codeIn K cd7 "Rule.__init__" = true)
    (k7 : PySem.W.keepIn K (.ref f7) = true)
    (a8 : PySem.W.findIn K (.ref c_Rule) "tree" = some (some (.ref f8)))
    (i8 : PySem.W.isFn K (.ref f8) = true)
    (h8 : PySem.W.fnIn K f8 = true)
    (l8 : K.lookup f8 = some ⟨oc8, od8, .func (PySem.W.fnOf "tree" "Rule.tree" (defArgs s_Rule_tree) (defBody s_Rule_tree) (defScope s_Rule_tree) .none kV8 dc8 pm8 an8 cd8 ct8), sl8⟩)
    (c8 : PySem.W.codeIn K cd8 "Rule.tree" = true)
    (k8 : PySem.W.keepIn K (.ref f8) = true)
    (a9 : PySem.W.nsIn K mainGlobals "_law_alike" = some (some (.ref f9)))
    (l9 : K.lookup f9 = some ⟨oc9, od9, .func (PySem.W.fnOf "_law_alike" "_law_alike" (defArgs s__law_alike) (defBody s__law_alike) (defScope s__law_alike) .none kV9 dc9 pm9 an9 cd9 ct9), sl9⟩)
    (c9 : PySem.W.codeIn K cd9 "_law_alike" = true)
    (k9 : PySem.W.keepIn K (.ref f9) = true)
    (a10 : PySem.W.nsIn K mainGlobals "_law_is_number" = some (some (.ref f10)))
    (l10 : K.lookup f10 = some ⟨oc10, od10, .func (PySem.W.fnOf "_law_is_number" "_law_is_number" (defArgs s__law_is_number) (defBody s__law_is_number) (defScope s__law_is_number) .none kV10 dc10 pm10 an10 cd10 ct10), sl10⟩)
    (c10 : PySem.W.codeIn K cd10 "_law_is_number" = true)
    (k10 : PySem.W.keepIn K (.ref f10) = true)
    (a11 : PySem.W.nsIn K mainGlobals "_law_atoms" = some (some (.ref f11)))
    (l11 : K.lookup f11 = some ⟨oc11, od11, .func (PySem.W.fnOf "_law_atoms" "_law_atoms" (defArgs s__law_atoms) (defBody s__law_atoms) (defScope s__law_atoms) .none kV11 dc11 pm11 an11 cd11 ct11), sl11⟩)
    (c11 : PySem.W.codeIn K cd11 "_law_atoms" = true)
    (k11 : PySem.W.keepIn K (.ref f11) = true)
    (a12 : PySem.W.nsIn K mainGlobals "_law_bag" = some (some (.ref f12)))
    (l12 : K.lookup f12 = some ⟨oc12, od12, .func (PySem.W.fnOf "_law_bag" "_law_bag" (defArgs s__law_bag) (defBody s__law_bag) (defScope s__law_bag) .none kV12 dc12 pm12 an12 cd12 ct12), sl12⟩)
    (c12 : PySem.W.codeIn K cd12 "_law_bag" = true)
    (k12 : PySem.W.keepIn K (.ref f12) = true)
    (a13 : PySem.W.nsIn K mainGlobals "_law_take" = some (some (.ref f13)))
    (l13 : K.lookup f13 = some ⟨oc13, od13, .func (PySem.W.fnOf "_law_take" "_law_take" (defArgs s__law_take) (defBody s__law_take) (defScope s__law_take) .none kV13 dc13 pm13 an13 cd13 ct13), sl13⟩)
    (c13 : PySem.W.codeIn K cd13 "_law_take" = true)
    (k13 : PySem.W.keepIn K (.ref f13) = true)
    (a14 : PySem.W.nsIn K mainGlobals "_law_draw_size" = some (some (.ref f14)))
    (l14 : K.lookup f14 = some ⟨oc14, od14, .func (PySem.W.fnOf "_law_draw_size" "_law_draw_size" (defArgs s__law_draw_size) (defBody s__law_draw_size) (defScope s__law_draw_size) .none kV14 dc14 pm14 an14 cd14 ct14), sl14⟩)
    (c14 : PySem.W.codeIn K cd14 "_law_draw_size" = true)
    (k14 : PySem.W.keepIn K (.ref f14) = true)
    (a15 : PySem.W.nsIn K mainGlobals "_law_draw_rule" = some (some (.ref f15)))
    (l15 : K.lookup f15 = some ⟨oc15, od15, .func (PySem.W.fnOf "_law_draw_rule" "_law_draw_rule" (defArgs s__law_draw_rule) (defBody s__law_draw_rule) (defScope s__law_draw_rule) .none kV15 dc15 pm15 an15 cd15 ct15), sl15⟩)
    (c15 : PySem.W.codeIn K cd15 "_law_draw_rule" = true)
    (k15 : PySem.W.keepIn K (.ref f15) = true)
    (a16 : PySem.W.nsIn K mainGlobals "_law_odd" = some (some (.ref f16)))
    (l16 : K.lookup f16 = some ⟨oc16, od16, .func (PySem.W.fnOf "_law_odd" "_law_odd" (defArgs s__law_odd) (defBody s__law_odd) (defScope s__law_odd) .none kV16 dc16 pm16 an16 cd16 ct16), sl16⟩)
    (c16 : PySem.W.codeIn K cd16 "_law_odd" = true)
    (k16 : PySem.W.keepIn K (.ref f16) = true)
    (a17 : PySem.W.nsIn K mainGlobals "at_least" = some (some (.ref f17)))
    (l17 : K.lookup f17 = some ⟨oc17, od17, .func (PySem.W.fnOf "at_least" "at_least" (defArgs s_at_least) (defBody s_at_least) (defScope s_at_least) (.ref T17) kV17 dc17 pm17 an17 cd17 ct17), sl17⟩)
    (c17 : PySem.W.codeIn K cd17 "at_least" = true)
    (k17 : PySem.W.keepIn K (.ref f17) = true)
    (d17 : K.lookup T17 = some ⟨cT17, dT17, .seq #[.int 1 tT17] nT17, sT17⟩)
    (a18 : PySem.W.nsIn K mainGlobals "_law_refused" = some (some (.ref f18)))
    (l18 : K.lookup f18 = some ⟨oc18, od18, .func (PySem.W.fnOf "_law_refused" "_law_refused" (defArgs s__law_refused) (defBody s__law_refused) (defScope s__law_refused) .none kV18 dc18 pm18 an18 cd18 ct18), sl18⟩)
    (c18 : PySem.W.codeIn K cd18 "_law_refused" = true)
    (k18 : PySem.W.keepIn K (.ref f18) = true)
    (a19 : PySem.W.nsIn K mainGlobals "_law_spoilt" = some (some (.ref f19)))
    (l19 : K.lookup f19 = some ⟨oc19, od19, .func (PySem.W.fnOf "_law_spoilt" "_law_spoilt" (defArgs s__law_spoilt) (defBody s__law_spoilt) (defScope s__law_spoilt) .none kV19 dc19 pm19 an19 cd19 ct19), sl19⟩)
    (c19 : PySem.W.codeIn K cd19 "_law_spoilt" = true)
    (k19 : PySem.W.keepIn K (.ref f19) = true)
    (a20 : PySem.W.nsIn K mainGlobals "law" = some (some (.ref f20)))
    (l20 : K.lookup f20 = some ⟨oc20, od20, .func (PySem.W.fnOf "law" "law" (defArgs s_law) (defBody s_law) (defScope s_law) .none kV20 dc20 pm20 an20 cd20 ct20), sl20⟩)
    (c20 : PySem.W.codeIn K cd20 "law" = true)
    (k20 : PySem.W.keepIn K (.ref f20) = true)
    (zb_abs : PySem.W.nsIn K mainGlobals "abs" = some none)
    (zb_bool : PySem.W.nsIn K mainGlobals "bool" = some none)
    (zb_int : PySem.W.nsIn K mainGlobals "int" = some none)
    (zb_isinstance : PySem.W.nsIn K mainGlobals "isinstance" = some none)
    (zb_len : PySem.W.nsIn K mainGlobals "len" = some none)
    (zb_list : PySem.W.nsIn K mainGlobals "list" = some none)
    (zb_max : PySem.W.nsIn K mainGlobals "max" = some none)
    (zb_min : PySem.W.nsIn K mainGlobals "min" = some none)
    (zb_range : PySem.W.nsIn K mainGlobals "range" = some none)
    (zb_repr : PySem.W.nsIn K mainGlobals "repr" = some none)
    (zb_sorted : PySem.W.nsIn K mainGlobals "sorted" = some none)
    (zb_str : PySem.W.nsIn K mainGlobals "str" = some none)
    (zb_tuple : PySem.W.nsIn K mainGlobals "tuple" = some none)
    (zc_MOST_BY : PySem.W.nsIn K mainGlobals "MOST_BY" = some (some (.int 6 tk_MOST_BY)))
    (zc_MOST_LEAVES : PySem.W.nsIn K mainGlobals "MOST_LEAVES" = some (some (.int 6 tk_MOST_LEAVES)))
    (zc_PERIOD : PySem.W.nsIn K mainGlobals "PERIOD" = some (some (.int 60 tk_PERIOD))) :
    ∃ fd : FuncData, (∀ (s : Shared) (v : Value), BindsTo s fd ⟨[v], []⟩ [("_law_script", v)]) ∧ ∀ base : Heap, K.In base → base.Ns mainGlobals mg → FnG l.prog w K mg base CX0 72 fa fd P_law (sp_law K) := by
  have e := hfa.symm.trans (PySem.W.mg_of X G a20)
  cases e
  have T : Bl mg := ⟨trivial, PySem.W.mg_none_of X G zb_abs, PySem.W.mg_none_of X G zb_bool, PySem.W.mg_none_of X G zb_int, PySem.W.mg_none_of X G zb_isinstance, PySem.W.mg_none_of X G zb_len, PySem.W.mg_none_of X G zb_list, PySem.W.mg_none_of X G zb_max, PySem.W.mg_none_of X G zb_min, PySem.W.mg_none_of X G zb_range, PySem.W.mg_none_of X G zb_repr, PySem.W.mg_none_of X G zb_sorted, PySem.W.mg_none_of X G zb_str, PySem.W.mg_none_of X G zb_tuple, ⟨_, PySem.W.mg_of X G zc_MOST_BY⟩, ⟨_, PySem.W.mg_of X G zc_MOST_LEAVES⟩, ⟨_, PySem.W.mg_of X G zc_PERIOD⟩⟩
  have F0 := fun_mk (st := s_Wrong___init__) l0 c0 k0
  have b0 := F0.binds (ps := P_Wrong___init__) fun _ _ _ _ _ _ us hl => match us, hl with | [_, _], _ => rfl
  have F1 := fun_mk (st := s_has_word) l1 c1 k1
  have b1 := F1.binds (ps := P_has_word) fun _ _ _ _ _ _ us hl => match us, hl with | [_, _], _ => rfl
  have F2 := fun_mk (st := s_is_integer) l2 c2 k2
  have b2 := F2.binds (ps := P_is_integer) fun _ _ _ _ _ _ us hl => match us, hl with | [_], _ => rfl
  have F3 := fun_mk (st := s_is_number) l3 c3 k3
  have b3 := F3.binds (ps := P_is_number) fun _ _ _ _ _ _ us hl => match us, hl with | [_, _], _ => rfl
  have F4 := fun_mk (st := s_is_by) l4 c4 k4
  have b4 := F4.binds (ps := P_is_by) fun _ _ _ _ _ _ us hl => match us, hl with | [_], _ => rfl
  have F5 := fun_mk (st := s_is_leaf) l5 c5 k5
  have b5 := F5.binds (ps := P_is_leaf) fun _ _ _ _ _ _ us hl => match us, hl with | [_], _ => rfl
  have F6 := fun_mk (st := s_is_tree) l6 c6 k6
  have b6 := F6.binds (ps := P_is_tree) fun _ _ _ _ _ _ us hl => match us, hl with | [_], _ => rfl
  have F7 := fun_mk (st := s_Rule___init__) l7 c7 k7
  have b7 := F7.binds (ps := P_Rule___init__) fun _ _ _ _ _ _ us hl => match us, hl with | [_, _], _ => rfl
  have F8 := fun_mk (st := s_Rule_tree) l8 c8 k8
  have b8 := F8.binds (ps := P_Rule_tree) fun _ _ _ _ _ _ us hl => match us, hl with | [_], _ => rfl
  have F9 := fun_mk (st := s__law_alike) l9 c9 k9
  have b9 := F9.binds (ps := P__law_alike) fun _ _ _ _ _ _ us hl => match us, hl with | [_, _], _ => rfl
  have F10 := fun_mk (st := s__law_is_number) l10 c10 k10
  have b10 := F10.binds (ps := P__law_is_number) fun _ _ _ _ _ _ us hl => match us, hl with | [_, _], _ => rfl
  have F11 := fun_mk (st := s__law_atoms) l11 c11 k11
  have b11 := F11.binds (ps := P__law_atoms) fun _ _ _ _ _ _ us hl => match us, hl with | [_], _ => rfl
  have F12 := fun_mk (st := s__law_bag) l12 c12 k12
  have b12 := F12.binds (ps := P__law_bag) fun _ _ _ _ _ _ us hl => match us, hl with | [_], _ => rfl
  have F13 := fun_mk (st := s__law_take) l13 c13 k13
  have b13 := F13.binds (ps := P__law_take) fun _ _ _ _ _ _ us hl => match us, hl with | [_, _], _ => rfl
  have F14 := fun_mk (st := s__law_draw_size) l14 c14 k14
  have b14 := F14.binds (ps := P__law_draw_size) fun _ _ _ _ _ _ us hl => match us, hl with | [_, _, _], _ => rfl
  have F15 := fun_mk (st := s__law_draw_rule) l15 c15 k15
  have b15 := F15.binds (ps := P__law_draw_rule) fun _ _ _ _ _ _ us hl => match us, hl with | [_, _, _, _], _ => rfl
  have F16 := fun_mk (st := s__law_odd) l16 c16 k16
  have b16 := F16.binds (ps := P__law_odd) fun _ _ _ _ _ _ us hl => match us, hl with | [_], _ => rfl
  have F17 : FunD K "at_least" "at_least" (defArgs s_at_least) (defBody s_at_least) (defScope s_at_least) [V.int 1] [] f17 _ := ⟨⟨_, _, _, _, _, _, _, _, _, _, rfl, l17, c17, .inr ⟨by simp, T17, _, [.int 1 tT17], _, rfl, d17, rfl, .cons ⟨_, rfl⟩ .nil⟩, .inl rfl⟩, k17⟩
  obtain ⟨dsA17, vA17, b17⟩ := F17.binds1 (ps := P_at_least) 2 1 (by simp) rfl (fun T kV doc pm an cdv ct us its hu hi => match us, its, hu, hi with | [_, _], [_], _, _ => ⟨_, rfl, rfl⟩)
  cases vA17
  obtain ⟨dsB17, vB17, bB17⟩ := F17.binds1 (ps := P_at_least) 1 0 (by simp) rfl (fun T kV doc pm an cdv ct us its hu hi => match us, its, hu, hi with | [_], [_], _, _ => ⟨_, rfl, rfl⟩)
  have F18 := fun_mk (st := s__law_refused) l18 c18 k18
  have b18 := F18.binds (ps := P__law_refused) fun _ _ _ _ _ _ us hl => match us, hl with | [_, _, _], _ => rfl
  have F19 := fun_mk (st := s__law_spoilt) l19 c19 k19
  have b19 := F19.binds (ps := P__law_spoilt) fun _ _ _ _ _ _ us hl => match us, hl with | [_, _], _ => rfl
  have F20 := fun_mk (st := s_law) l20 c20 k20
  have b20 := F20.binds (ps := P_law) fun _ _ _ _ _ _ us hl => match us, hl with | [_], _ => rfl
  refine ⟨PySem.W.fnOf "law" "law" (defArgs s_law) (defBody s_law) (defScope s_law) .none kV20 dc20 pm20 an20 cd20 ct20, fun s v => .of_eq rfl, fun base _ _ => ?_⟩
  have E_PipeError : ErrK K mg "PipeError" c_PipeError := ⟨PySem.W.mg_of X G aC_PipeError, ⟨⟨_, _, _, _, _, _, _, _, _, _, _, _, _, _, _, kl_PipeError, refs0⟩, sa_PipeError, ex_PipeError, ty_PipeError, kc_PipeError⟩, ⟨ga_PipeError, gg_PipeError, ex_PipeError, hd_PipeError⟩, ⟨ga_PipeError, gg_PipeError, ex_PipeError, hd_PipeError, ha_PipeError, hn_PipeError, ht_PipeError, hm_PipeError⟩⟩
  have E_TooMany : ErrK K mg "TooMany" c_TooMany := ⟨PySem.W.mg_of X G aC_TooMany, ⟨⟨_, _, _, _, _, _, _, _, _, _, _, _, _, _, _, kl_TooMany, refs1 _⟩, sa_TooMany, ex_TooMany, ty_TooMany, kc_TooMany⟩, ⟨ga_TooMany, gg_TooMany, ex_TooMany, hd_TooMany⟩, ⟨ga_TooMany, gg_TooMany, ex_TooMany, hd_TooMany, ha_TooMany, hn_TooMany, ht_TooMany, hm_TooMany⟩⟩
  have E_Wrong : ErrK K mg "Wrong" c_Wrong := ⟨PySem.W.mg_of X G aC_Wrong, ⟨⟨_, _, _, _, _, _, _, _, _, _, _, _, _, _, _, kl_Wrong, refs1 _⟩, sa_Wrong, ex_Wrong, ty_Wrong, kc_Wrong⟩, ⟨ga_Wrong, gg_Wrong, ex_Wrong, hd_Wrong⟩, ⟨ga_Wrong, gg_Wrong, ex_Wrong, hd_Wrong, ha_Wrong, hn_Wrong, ht_Wrong, hm_Wrong⟩⟩
  have fx_FxWr : FxWr K ({ PipeError := c_PipeError, Wrong := c_Wrong, TooMany := c_TooMany, Overdrawn := 0, NotPassed := 0, Rule := c_Rule, Account := 0 } : Cs) := ⟨E_Wrong.oex, nf_Wrong, exm_is E_PipeError.xf ty_PipeError su_Wrong⟩
  have cl_Rule : Cls K c_Rule := ⟨pg_Rule, hd_Rule, po_Rule, sa_Rule⟩
  have ic_Rule : C8.InsC K c_Rule := ⟨cl_Rule, ha_Rule, hn_Rule, ht_Rule, hm_Rule, kit_same⟩
  have K_Rule : Kls K mg "Rule" c_Rule := ⟨PySem.W.mg_of X G aC_Rule, cl_Rule, mk_Rule, kc_Rule, sf_Rule, ic_Rule, ne_Rule⟩
  have fx_FxRule : FxRule K ({ PipeError := c_PipeError, Wrong := c_Wrong, TooMany := c_TooMany, Overdrawn := 0, NotPassed := 0, Rule := c_Rule, Account := 0 } : Cs) := ⟨cl_Rule, na_Rule__tree, ic_Rule⟩
  have fx_Fx19 : Fx19 K ({ PipeError := c_PipeError, Wrong := c_Wrong, TooMany := c_TooMany, Overdrawn := 0, NotPassed := 0, Rule := c_Rule, Account := 0 } : Cs) := ⟨fx_FxRule, fx_FxWr, kit_own (by decide +kernel) zi_Rule, kit_own (by decide +kernel) zt_Rule, kit_own (by decide +kernel) zs_Rule, kit_false hd_TooMany ty_TooMany sb_Wrong ss_Wrong⟩
  have i_Wrong : ErrI l.prog w K mg base 1 c_Wrong P_Wrong___init__ (rOneI K c_Wrong "place") := ⟨_, _, ok_Wrong___init__ (C := ({ PipeError := c_PipeError, Wrong := c_Wrong, TooMany := c_TooMany, Overdrawn := 0, NotPassed := 0, Rule := c_Rule, Account := 0 } : Cs)) (P := l.prog) (w := w) (base := base) F0 T  , a0, i0, b0⟩
  have f_has_word : Cal l.prog w K mg base CX0 1 "has_word" P_has_word [] (sp_Word19 K ({ PipeError := c_PipeError, Wrong := c_Wrong, TooMany := c_TooMany, Overdrawn := 0, NotPassed := 0, Rule := c_Rule, Account := 0 } : Cs)) := ⟨_, _, ok_has_word (C := ({ PipeError := c_PipeError, Wrong := c_Wrong, TooMany := c_TooMany, Overdrawn := 0, NotPassed := 0, Rule := c_Rule, Account := 0 } : Cs)) (P := l.prog) (w := w) (base := base) F1 T  , PySem.W.mg_of X G a1, k1, b1⟩
  have f_is_integer : Cal l.prog w K mg base CX0 1 "is_integer" P_is_integer [] (sp_IsInt K) := ⟨_, _, ok_is_integer  (P := l.prog) (w := w) (base := base) F2 T  , PySem.W.mg_of X G a2, k2, b2⟩
  have f_is_number : Cal l.prog w K mg base CX0 2 "is_number" P_is_number [] (sp_IsNum K) := ⟨_, _, ok_is_number  (P := l.prog) (w := w) (base := base) F3 T  f_is_integer, PySem.W.mg_of X G a3, k3, b3⟩
  have f_is_by : Cal l.prog w K mg base CX0 3 "is_by" P_is_by [] (sp_By19 K ({ PipeError := c_PipeError, Wrong := c_Wrong, TooMany := c_TooMany, Overdrawn := 0, NotPassed := 0, Rule := c_Rule, Account := 0 } : Cs)) := ⟨_, _, ok_is_by (C := ({ PipeError := c_PipeError, Wrong := c_Wrong, TooMany := c_TooMany, Overdrawn := 0, NotPassed := 0, Rule := c_Rule, Account := 0 } : Cs)) (P := l.prog) (w := w) (base := base) F4 T  f_is_number, PySem.W.mg_of X G a4, k4, b4⟩
  have f_is_leaf : Cal l.prog w K mg base CX0 4 "is_leaf" P_is_leaf [] (sp_Leaf19 K ({ PipeError := c_PipeError, Wrong := c_Wrong, TooMany := c_TooMany, Overdrawn := 0, NotPassed := 0, Rule := c_Rule, Account := 0 } : Cs)) := ⟨_, _, ok_is_leaf (C := ({ PipeError := c_PipeError, Wrong := c_Wrong, TooMany := c_TooMany, Overdrawn := 0, NotPassed := 0, Rule := c_Rule, Account := 0 } : Cs)) (P := l.prog) (w := w) (base := base) F5 T  f_has_word f_is_number f_is_by, PySem.W.mg_of X G a5, k5, b5⟩
  have f_is_tree : Cal l.prog w K mg base CX0 5 "is_tree" P_is_tree [] (sp_Tree19 K ({ PipeError := c_PipeError, Wrong := c_Wrong, TooMany := c_TooMany, Overdrawn := 0, NotPassed := 0, Rule := c_Rule, Account := 0 } : Cs)) := ⟨_, _, ok_is_tree (C := ({ PipeError := c_PipeError, Wrong := c_Wrong, TooMany := c_TooMany, Overdrawn := 0, NotPassed := 0, Rule := c_Rule, Account := 0 } : Cs)) (P := l.prog) (w := w) (base := base) F6 T  f_is_leaf f_has_word, PySem.W.mg_of X G a6, k6, b6⟩
  have o_Rule___init__ : Own l.prog w K mg base (L2.CX l.prog w) 6 c_Rule "__init__" P_Rule___init__ (sp_Rule___init__X K ({ PipeError := c_PipeError, Wrong := c_Wrong, TooMany := c_TooMany, Overdrawn := 0, NotPassed := 0, Rule := c_Rule, Account := 0 } : Cs)) := ⟨_, _, ok_Rule___init__ (C := ({ PipeError := c_PipeError, Wrong := c_Wrong, TooMany := c_TooMany, Overdrawn := 0, NotPassed := 0, Rule := c_Rule, Account := 0 } : Cs)) (P := l.prog) (w := w) (base := base) F7 T  f_is_tree E_Wrong i_Wrong, a7, i7, k7, h7, b7⟩
  have on_Rule___init__ : Own l.prog w K mg base (L2.CX l.prog w) 6 c_Rule "__init__" P_Rule___init__ (sp_Rule___init__ K ({ PipeError := c_PipeError, Wrong := c_Wrong, TooMany := c_TooMany, Overdrawn := 0, NotPassed := 0, Rule := c_Rule, Account := 0 } : Cs)) := o_Rule___init__.weak fun _ _ _ _ z => weak_Rule___init__ fx_Fx19 z
  have o_Rule_tree : Own l.prog w K mg base CX0 1 c_Rule "tree" P_Rule_tree (sp_Rule_tree K ({ PipeError := c_PipeError, Wrong := c_Wrong, TooMany := c_TooMany, Overdrawn := 0, NotPassed := 0, Rule := c_Rule, Account := 0 } : Cs)) := ⟨_, _, ok_Rule_tree (C := ({ PipeError := c_PipeError, Wrong := c_Wrong, TooMany := c_TooMany, Overdrawn := 0, NotPassed := 0, Rule := c_Rule, Account := 0 } : Cs)) (P := l.prog) (w := w) (base := base) F8 T  , a8, i8, k8, h8, b8⟩
  have f__law_alike : CalG l.prog w K mg base CX0 1 "_law_alike" P__law_alike (sp_law_alike K) := ⟨_, _, ok__law_alike  (P := l.prog) (w := w) (base := base) F9 T  , PySem.W.mg_of X G a9, k9, b9⟩
  have f__law_is_number : Cal l.prog w K mg base CX0 1 "_law_is_number" P__law_is_number [] (sp_law_is_number K ({ PipeError := c_PipeError, Wrong := c_Wrong, TooMany := c_TooMany, Overdrawn := 0, NotPassed := 0, Rule := c_Rule, Account := 0 } : Cs)) := ⟨_, _, ok__law_is_number (C := ({ PipeError := c_PipeError, Wrong := c_Wrong, TooMany := c_TooMany, Overdrawn := 0, NotPassed := 0, Rule := c_Rule, Account := 0 } : Cs)) (P := l.prog) (w := w) (base := base) F10 T  , PySem.W.mg_of X G a10, k10, b10⟩
  have f__law_atoms : Cal l.prog w K mg base CX0 71 "_law_atoms" P__law_atoms [] (sp_law_atoms K ({ PipeError := c_PipeError, Wrong := c_Wrong, TooMany := c_TooMany, Overdrawn := 0, NotPassed := 0, Rule := c_Rule, Account := 0 } : Cs) 70) := ⟨_, _, all__law_atoms (C := ({ PipeError := c_PipeError, Wrong := c_Wrong, TooMany := c_TooMany, Overdrawn := 0, NotPassed := 0, Rule := c_Rule, Account := 0 } : Cs)) (P := l.prog) (w := w) (base := base) F11 T  f__law_is_number (PySem.W.mg_of X G a11) k11 b11 70, PySem.W.mg_of X G a11, k11, b11⟩
  have f__law_bag : Cal l.prog w K mg base CX0 1 "_law_bag" P__law_bag [] (sp_law_bag K) := ⟨_, _, ok__law_bag  (P := l.prog) (w := w) (base := base) F12 T  , PySem.W.mg_of X G a12, k12, b12⟩
  have f__law_take : Cal l.prog w K mg base CX0 1 "_law_take" P__law_take [] (sp_law_take K) := ⟨_, _, ok__law_take  (P := l.prog) (w := w) (base := base) F13 T  , PySem.W.mg_of X G a13, k13, b13⟩
  have f__law_draw_size : Cal l.prog w K mg base CX0 2 "_law_draw_size" P__law_draw_size [] (sp_law_draw_size K) := ⟨_, _, ok__law_draw_size  (P := l.prog) (w := w) (base := base) F14 T  f__law_take, PySem.W.mg_of X G a14, k14, b14⟩
  have f__law_draw_rule : Cal l.prog w K mg base CX0 3 "_law_draw_rule" P__law_draw_rule [] (sp_law_draw_rule K) := ⟨_, _, ok__law_draw_rule  (P := l.prog) (w := w) (base := base) F15 T  f__law_take f__law_draw_size, PySem.W.mg_of X G a15, k15, b15⟩
  have f__law_odd : Cal l.prog w K mg base CX0 2 "_law_odd" P__law_odd [] (sp_law_odd K ({ PipeError := c_PipeError, Wrong := c_Wrong, TooMany := c_TooMany, Overdrawn := 0, NotPassed := 0, Rule := c_Rule, Account := 0 } : Cs)) := ⟨_, _, ok__law_odd (C := ({ PipeError := c_PipeError, Wrong := c_Wrong, TooMany := c_TooMany, Overdrawn := 0, NotPassed := 0, Rule := c_Rule, Account := 0 } : Cs)) (P := l.prog) (w := w) (base := base) F16 T  f__law_take, PySem.W.mg_of X G a16, k16, b16⟩
  have f_at_least : Cal l.prog w K mg base (L2.CX l.prog w) 8 "at_least" P_at_least [] (sp_at_leastX K ({ PipeError := c_PipeError, Wrong := c_Wrong, TooMany := c_TooMany, Overdrawn := 0, NotPassed := 0, Rule := c_Rule, Account := 0 } : Cs)) := ⟨_, _, ok_at_least (C := ({ PipeError := c_PipeError, Wrong := c_Wrong, TooMany := c_TooMany, Overdrawn := 0, NotPassed := 0, Rule := c_Rule, Account := 0 } : Cs)) (P := l.prog) (w := w) (base := base) F17 T  on_Rule___init__ K_Rule f_is_by E_Wrong i_Wrong f_is_number, PySem.W.mg_of X G a17, k17, b17⟩
  have fd1_at_least : ∃ ds, Vals [V.int 1] ds ∧ Cal l.prog w K mg base (L2.CX l.prog w) 8 "at_least" P_at_least ds (sp_at_leastX K ({ PipeError := c_PipeError, Wrong := c_Wrong, TooMany := c_TooMany, Overdrawn := 0, NotPassed := 0, Rule := c_Rule, Account := 0 } : Cs)) := ⟨dsB17, vB17, _, _, ok_at_least (C := ({ PipeError := c_PipeError, Wrong := c_Wrong, TooMany := c_TooMany, Overdrawn := 0, NotPassed := 0, Rule := c_Rule, Account := 0 } : Cs)) (P := l.prog) (w := w) (base := base) F17 T  on_Rule___init__ K_Rule f_is_by E_Wrong i_Wrong f_is_number, PySem.W.mg_of X G a17, k17, bB17⟩
  have fn1_at_least : ∃ ds, Vals [V.int 1] ds ∧ Cal l.prog w K mg base (L2.CX l.prog w) 8 "at_least" P_at_least ds (sp_at_least K ({ PipeError := c_PipeError, Wrong := c_Wrong, TooMany := c_TooMany, Overdrawn := 0, NotPassed := 0, Rule := c_Rule, Account := 0 } : Cs)) := by
    obtain ⟨ds, vd, cal⟩ := fd1_at_least
    exact ⟨ds, vd, cal.weak fun _ _ _ _ z => weak_at_least fx_Fx19 z⟩
  have f__law_refused : Cal l.prog w K mg base CX0 9 "_law_refused" P__law_refused [] (sp_law_refused K ({ PipeError := c_PipeError, Wrong := c_Wrong, TooMany := c_TooMany, Overdrawn := 0, NotPassed := 0, Rule := c_Rule, Account := 0 } : Cs)) := ⟨_, _, ok__law_refused (C := ({ PipeError := c_PipeError, Wrong := c_Wrong, TooMany := c_TooMany, Overdrawn := 0, NotPassed := 0, Rule := c_Rule, Account := 0 } : Cs)) (P := l.prog) (w := w) (base := base) F18 T  E_PipeError o_Rule___init__ K_Rule f_at_least fd1_at_least E_Wrong E_TooMany nf_Wrong, PySem.W.mg_of X G a18, k18, b18⟩
  have f__law_spoilt : Cal l.prog w K mg base CX0 14 "_law_spoilt" P__law_spoilt [] (sp_law_spoilt K ({ PipeError := c_PipeError, Wrong := c_Wrong, TooMany := c_TooMany, Overdrawn := 0, NotPassed := 0, Rule := c_Rule, Account := 0 } : Cs) 12) := ⟨_, _, all__law_spoilt (C := ({ PipeError := c_PipeError, Wrong := c_Wrong, TooMany := c_TooMany, Overdrawn := 0, NotPassed := 0, Rule := c_Rule, Account := 0 } : Cs)) (P := l.prog) (w := w) (base := base) F19 T  f__law_odd f__law_take (PySem.W.mg_of X G a19) k19 b19 12, PySem.W.mg_of X G a19, k19, b19⟩
  exact (ok_law (C := ({ PipeError := c_PipeError, Wrong := c_Wrong, TooMany := c_TooMany, Overdrawn := 0, NotPassed := 0, Rule := c_Rule, Account := 0 } : Cs)) (P := l.prog) (w := w) (base := base) F20 T fx_Fx19 f__law_alike f__law_refused on_Rule___init__ K_Rule fn1_at_least o_Rule_tree f__law_is_number f__law_spoilt f__law_atoms f__law_take f__law_odd f__law_draw_rule f__law_bag)
end Lw
open PySem PySem.W PyProof.Rows
set_option maxRecDepth 100000 in
set_option maxHeartbeats 0 in
theorem PySem.Challenge.cw_sharedpipe_k19_rules_refused_holds : PySem.Challenge.rw_sharedpipe_k19_rules_refused.Holds := by
  w_on; o_law; k_head; (case hw => w_witness2)
  k_fill
  refine Pk.walkG (l := PySem.Challenge.rw_sharedpipe_k19_rules_refused) (n := 63) (k := 72) (x := "_law_script") (sp := Pk.sp_law) rfl (by decide) rfl ⟨rfl, by decide, by decide⟩ (fun w h Y => PySem.W.kIn_of Y) ?F (fun K H a ns hl hS => ⟨a, ns, rfl, hS, hl, fun _ => rfl⟩)
  case F =>
    intro w mg fa h KX G hmg
    refine' Lw.all_mk KX G hmg ?aC_PipeError ?kl_PipeError ?sa_PipeError ?ex_PipeError ?ty_PipeError ?kc_PipeError ?hd_PipeError ?ga_PipeError ?gg_PipeError ?ha_PipeError ?hn_PipeError ?ht_PipeError ?hm_PipeError ?aC_TooMany ?kl_TooMany ?sa_TooMany ?ex_TooMany ?ty_TooMany ?kc_TooMany ?hd_TooMany ?ga_TooMany ?gg_TooMany ?ha_TooMany ?hn_TooMany ?ht_TooMany ?hm_TooMany ?nf_TooMany ?su_TooMany ?aC_Wrong ?kl_Wrong ?sa_Wrong ?ex_Wrong ?ty_Wrong ?kc_Wrong ?hd_Wrong ?ga_Wrong ?gg_Wrong ?ha_Wrong ?hn_Wrong ?ht_Wrong ?hm_Wrong ?nf_Wrong ?su_Wrong ?sb_Wrong ?ss_Wrong ?aC_Rule ?pg_Rule ?hd_Rule ?po_Rule ?sa_Rule ?mk_Rule ?kc_Rule ?sf_Rule ?ha_Rule ?hn_Rule ?ht_Rule ?hm_Rule ?ne_Rule ?zi_Rule ?zt_Rule ?zs_Rule ?na_Rule__tree ?a0 ?i0 ?l0 ?c0 ?k0 ?a1 ?l1 ?c1 ?k1 ?a2 ?l2 ?c2 ?k2 ?a3 ?l3 ?c3 ?k3 ?a4 ?l4 ?c4 ?k4 ?a5 ?l5 ?c5 ?k5 ?a6 ?l6 ?c6 ?k6 ?a7 ?i7 ?h7 ?l7 ?c7 ?k7 ?a8 ?i8 ?h8 ?l8 ?c8 ?k8 ?a9 ?l9 ?c9 ?k9 ?a10 ?l10 ?c10 ?k10 ?a11 ?l11 ?c11 ?k11 ?a12 ?l12 ?c12 ?k12 ?a13 ?l13 ?c13 ?k13 ?a14 ?l14 ?c14 ?k14 ?a15 ?l15 ?c15 ?k15 ?a16 ?l16 ?c16 ?k16 ?a17 ?l17 ?c17 ?k17 ?d17 ?a18 ?l18 ?c18 ?k18 ?a19 ?l19 ?c19 ?k19 ?a20 ?l20 ?c20 ?k20 ?zb_abs ?zb_bool ?zb_int ?zb_isinstance ?zb_len ?zb_list ?zb_max ?zb_min ?zb_range ?zb_repr ?zb_sorted ?zb_str ?zb_tuple ?zc_MOST_BY ?zc_MOST_LEAVES ?zc_PERIOD
    (case aC_PipeError => k_is)
    (case kl_PipeError => k_is)
    (case sa_PipeError => k_is)
    (case ex_PipeError => k_is)
    (case ty_PipeError => k_is)
    (case kc_PipeError => k_is)
    (case hd_PipeError => k_is)
    (case ga_PipeError => k_is)
    (case gg_PipeError => k_is)
    (case ha_PipeError => k_is)
    (case hn_PipeError => k_is)
    (case ht_PipeError => k_is)
    (case hm_PipeError => k_is)
    (case aC_TooMany => k_is)
    (case kl_TooMany => k_is)
    (case sa_TooMany => k_is)
    (case ex_TooMany => k_is)
    (case ty_TooMany => k_is)
    (case kc_TooMany => k_is)
    (case hd_TooMany => k_is)
    (case ga_TooMany => k_is)
    (case gg_TooMany => k_is)
    (case ha_TooMany => k_is)
    (case hn_TooMany => k_is)
    (case ht_TooMany => k_is)
    (case hm_TooMany => k_is)
    (case nf_TooMany => k_is)
    (case su_TooMany => k_is)
    (case aC_Wrong => k_is)
    (case kl_Wrong => k_is)
    (case sa_Wrong => k_is)
    (case ex_Wrong => k_is)
    (case ty_Wrong => k_is)
    (case kc_Wrong => k_is)
    (case hd_Wrong => k_is)
    (case ga_Wrong => k_is)
    (case gg_Wrong => k_is)
    (case ha_Wrong => k_is)
    (case hn_Wrong => k_is)
    (case ht_Wrong => k_is)
    (case hm_Wrong => k_is)
    (case nf_Wrong => k_is)
    (case su_Wrong => k_is)
    (case sb_Wrong => k_is)
    (case ss_Wrong => k_is)
    (case aC_Rule => k_is)
    (case pg_Rule => k_is)
    (case hd_Rule => k_is)
    (case po_Rule => k_is)
    (case sa_Rule => k_is)
    (case mk_Rule => k_is)
    (case kc_Rule => k_is)
    (case sf_Rule => k_is)
    (case ha_Rule => k_is)
    (case hn_Rule => k_is)
    (case ht_Rule => k_is)
    (case hm_Rule => k_is)
    (case ne_Rule => k_is)
    (case zi_Rule => k_is)
    (case zt_Rule => k_is)
    (case zs_Rule => k_is)
    (case na_Rule__tree => k_is)
    (case a0 => k_is)
    (case i0 => k_is)
    (case l0 => k_is)
    (case c0 => k_is)
    (case k0 => k_is)
    (case a1 => k_is)
    (case l1 => k_is)
    (case c1 => k_is)
    (case k1 => k_is)
    (case a2 => k_is)
    (case l2 => k_is)
    (case c2 => k_is)
    (case k2 => k_is)
    (case a3 => k_is)
    (case l3 => k_is)
    (case c3 => k_is)
    (case k3 => k_is)
    (case a4 => k_is)
    (case l4 => k_is)
    (case c4 => k_is)
    (case k4 => k_is)
    (case a5 => k_is)
    (case l5 => k_is)
    (case c5 => k_is)
    (case k5 => k_is)
    (case a6 => k_is)
    (case l6 => k_is)
    (case c6 => k_is)
    (case k6 => k_is)
    (case a7 => k_is)
    (case i7 => k_is)
    (case h7 => k_is)
    (case l7 => k_is)
    (case c7 => k_is)
    (case k7 => k_is)
    (case a8 => k_is)
    (case i8 => k_is)
    (case h8 => k_is)
    (case l8 => k_is)
    (case c8 => k_is)
    (case k8 => k_is)
    (case a9 => k_is)
    (case l9 => k_is)
    (case c9 => k_is)
    (case k9 => k_is)
    (case a10 => k_is)
    (case l10 => k_is)
    (case c10 => k_is)
    (case k10 => k_is)
    (case a11 => k_is)
    (case l11 => k_is)
    (case c11 => k_is)
    (case k11 => k_is)
    (case a12 => k_is)
    (case l12 => k_is)
    (case c12 => k_is)
    (case k12 => k_is)
    (case a13 => k_is)
    (case l13 => k_is)
    (case c13 => k_is)
    (case k13 => k_is)
    (case a14 => k_is)
    (case l14 => k_is)
    (case c14 => k_is)
    (case k14 => k_is)
    (case a15 => k_is)
    (case l15 => k_is)
    (case c15 => k_is)
    (case k15 => k_is)
    (case a16 => k_is)
    (case l16 => k_is)
    (case c16 => k_is)
    (case k16 => k_is)
    (case a17 => k_is)
    (case l17 => k_is)
    (case c17 => k_is)
    (case k17 => k_is)
    (case d17 => k_is)
    (case a18 => k_is)
    (case l18 => k_is)
    (case c18 => k_is)
    (case k18 => k_is)
    (case a19 => k_is)
    (case l19 => k_is)
    (case c19 => k_is)
    (case k19 => k_is)
    (case a20 => k_is)
    (case l20 => k_is)
    (case c20 => k_is)
    (case k20 => k_is)
    (case zb_abs => k_is)
    (case zb_bool => k_is)
    (case zb_int => k_is)
    (case zb_isinstance => k_is)
    (case zb_len => k_is)
    (case zb_list => k_is)
    (case zb_max => k_is)
    (case zb_min => k_is)
    (case zb_range => k_is)
    (case zb_repr => k_is)
    (case zb_sorted => k_is)
    (case zb_str => k_is)
    (case zb_tuple => k_is)
    (case zc_MOST_BY => k_is)
    (case zc_MOST_LEAVES => k_is)
    (case zc_PERIOD => k_is)
