import PyProof.Rows.All
import Wide.All
import OpenK.AllK
import Wide.FinOn
import HandS.ForExc
import HandS.Wide
import HandS.Evl
import HandS.Deep
import HandS.TupAny
import HandS.TupMul
import HandS.Star
import HandS.Property
import HandS.Flow
import HandS.Style
import HandS.IsInst
import HandS.OwnEq
import HandS.ForMost
import HandS.SlotsOwn
import HandS.Codes
import HandS.Defaults
import KE.KOpsOwn
import HandS.Small
import HandS.Strs
import HandS.SetBool
import HandS.SortInts
import PyProof.SumWalkG
import PyProof.ListOps
import PyProof.ListRange
import HandS.Sort
import PyProof.LongRange
import HandS.SetFor
import PySem.Challenge.RW_sharedpipe_k16_first_parting_amounts
set_option Elab.async false
set_option linter.all false
set_option maxRecDepth 100000
set_option maxHeartbeats 2000000
namespace Pk
open PySem PySem.Spec L2 PyProof.Rows

/-! ### texts of data: a bound of their length -/
mutual
def siz : PyData → Nat
  | .none => 8
  | .bool _ => 8
  | .int _ => 2000
  | .str x => 10 * x.length + 8
  | .list xs => 8 + sizL xs
  | .tuple xs => 8 + sizL xs
  | .dict _ => 0
def sizL : List PyData → Nat
  | [] => 0
  | x :: xs => siz x + 4 + sizL xs
end
theorem textFrom_size : ∀ (ts : List Str) (k : Nat) (acc : Str), (textFrom k acc ts).length ≤ acc.length + piled ts
  | [], k, acc => by show acc.length ≤ _; omega
  | t :: r, k, acc => by
    have ih := textFrom_size r (k + 1) (acc ++ (if k > 0 then ", " else "" : String) ++ t)
    have e : (acc ++ (if k > 0 then ", " else "" : String) ++ t).length = acc.length + (if k > 0 then 2 else 0) + t.length := by
      rw [strLen_append, strLen_append]
      split <;> rfl
    have d1 : (if k > 0 then 2 else 0 : Nat) ≤ 2 := by split <;> decide
    rw [piled_cons]
    show (textFrom (k + 1) _ r).length ≤ _
    omega
theorem listText_size (ts : List Str) : (listText ts).length ≤ piled ts + 2 := by
  have q := textFrom_size ts 0 "["
  unfold listText
  rw [strLen_append]
  have e1 : ((("[" : String) : Str)).length = 1 := rfl
  have e2 : ((("]" : String) : Str)).length = 1 := rfl
  rw [e1] at q
  rw [e2]
  omega
theorem tupleText_size (ts : List Str) : (tupleText ts).length ≤ piled ts + 3 := by
  unfold tupleText
  rw [strLen_append, strLen_append]
  have e1 : ((("(" : String) : Str)).length = 1 := rfl
  have e3 : (((if ts.length == 1 then ",)" else ")" : String) : Str)).length ≤ 2 := by split <;> decide
  rw [e1]
  cases ts with
  | nil =>
    have e4 : (Str.join ", " ([] : List Str)).length = 0 := rfl
    rw [e4]
    omega
  | cons t r =>
    have q := join_length_add (t :: r) (by simp)
    omega
mutual
theorem shown_le : ∀ d : PyData, d.showable = true → d.canLay0 = true → d.shown.length ≤ siz d
  | .none, _, _ => by decide
  | .bool b, _, _ => by cases b <;> decide
  | .int i, h, _ => by
    have h' : i.natAbs.log2 < 1920 := of_decide_eq_true h
    have e := int_text_length_le (k := 1920) (by decide) h'
    show (Str.ofString (toString i)).length ≤ 2000
    rw [PySem.ofString_length]
    omega
  | .str x, _, h => by
    have h' : x.cps.all (· < 0x110000) = true := h
    have q := StrLaws.reprText_len x fun c hc => by
      have := Array.all_eq_true_iff_forall_mem.mp h' c (by simpa using hc)
      have z : c < 0x110000 := of_decide_eq_true this
      have z2 : (0x110000 : Nat) < 16 ^ 8 := by decide
      omega
    show (reprText x).length ≤ 10 * x.length + 8
    omega
  | .list xs, h, h2 => by
    have q := shownAll_le xs h h2
    have q2 := listText_size (PyData.shownAll xs)
    show (listText (PyData.shownAll xs)).length ≤ 8 + sizL xs
    omega
  | .tuple xs, h, h2 => by
    have q := shownAll_le xs h h2
    have q2 := tupleText_size (PyData.shownAll xs)
    show (tupleText (PyData.shownAll xs)).length ≤ 8 + sizL xs
    omega
  | .dict _, _, h => by cases h
theorem shownAll_le : ∀ ds : List PyData, PyData.showableAll ds = true → PyData.canLayAll0 ds = true → piled (PyData.shownAll ds) ≤ sizL ds
  | [], _, _ => by show piled [] ≤ 0; simp [piled]
  | d :: ds, h, h2 => by
    have h' : d.showable = true ∧ PyData.showableAll ds = true := by simpa [PyData.showableAll] using h
    have h2' : d.canLay0 = true ∧ PyData.canLayAll0 ds = true := by simpa [PyData.canLayAll0] using h2
    have q1 := shown_le d h'.1 h2'.1
    have q2 := shownAll_le ds h'.2 h2'.2
    show piled (d.shown :: PyData.shownAll ds) ≤ siz d + 4 + sizL ds
    rw [piled_cons]
    omega
end
/-- data that may be compared and shown -/
structure Good (d : PyData) : Prop where
  sh : SeqAt.shaped d = true
  wr : d.showable = true
  sz : siz d ≤ 16000000
theorem Good.lay {d : PyData} (g : Good d) : d.canLay0 = true := SeqAt.canLay_of_shaped g.sh
theorem Good.fits {d : PyData} (g : Good d) : d.shown.length ≤ sizeLine := by
  have q := shown_le d g.wr g.lay
  have z := g.sz
  rw [sizeLine_eq]
  omega
theorem Good.same {d : PyData} (g : Good d) : PyData.eqv d d = true := SeqAt.eqv_refl d g.lay

/-! ### defs that are called where nothing is being shown -/
/-- as FnOk, where nothing is being shown around -/
structure FnG (P : Program) (w : World) (K : PySem.W.Frag) (mg : Str → Option Value) (base : Heap) (CX : CXT) (k : Nat) (f : Addr) (fd : FuncData) (ps : List Str) (sp : Sp) : Prop where
  few : ∀ vs H Q E, sp vs H Q E → vs.length = ps.length
  goes : ∀ (A : Around), A.guards = some [] → Room k A → ∀ (outer : List Env) (s : Shared) (H : Hp) (args : Args) (us : List Value) (vs : List V) (Q : VK) (E : XK),
    Env0 P w K mg base A outer s H → BindsTo s fd args (ps.zip us) → Vals vs us → sp vs H Q E → codeAny (model P w) A (.call (.ref f) args) (CR CX outer P w H s Q E) s
theorem FnG.of {P : Program} {w : World} {K : PySem.W.Frag} {mg : Str → Option Value} {base : Heap} {CX : CXT} {k : Nat} {f : Addr} {fd : FuncData} {ps : List Str} {sp : Sp}
    (F : FnOk P w K mg base CX k f fd ps sp) : FnG P w K mg base CX k f fd ps sp :=
  ⟨F.len, fun A _ hr outer s H args us vs Q E e0 hb r h => F.run A outer s H args us vs Q E hr e0 hb r h⟩
theorem FnG.mono {P : Program} {w : World} {K : PySem.W.Frag} {mg : Str → Option Value} {base : Heap} {CX : CXT} {j k : Nat} {f : Addr} {fd : FuncData} {ps : List Str} {sp : Sp}
    (F : FnG P w K mg base CX j f fd ps sp) (h : j ≤ k) : FnG P w K mg base CX k f fd ps sp :=
  ⟨F.few, fun A hg hr => F.goes A hg (hr.mono h)⟩
section
variable {X : Cx} {CX : CXT} {k : Nat} {f : Addr} {fd : FuncData} {ps : List Str} {sp : Sp} {E : XK} {x : Str} {p pos : Pos} {e : Expr} {es : List Expr} {t : TA}
theorem go_g {pins : List (Addr × Obj)} {σ : L2.St} {H : Hp} {s : Shared} {Q : VK} {us : List Value} {vs : List V} (F : FnG X.prog X.w X.K X.mg X.base CX k f fd ps sp) (hg : X.A.guards = some []) (hr : Room k X.A)
    (hb : Binds X.K fd ps []) (hx : Passes CX X E) (I : Inv X pins σ H s) (r : Vals vs us) (h : sp vs H Q E) : wpAny (model X.prog X.w) X.A (call (.ref f) us) (EP X pins σ Q) X.xe s := by
  have n : (us ++ ([] : List Value)).length = ps.length := by
    rw [List.append_nil, ← r.length]
    exact F.few _ _ _ _ h
  have b := hb s us I.kIn n
  rw [List.append_nil] at b
  apply wpAny_call
  apply codeAny_mono (F.goes X.A hg hr X.stack s H ⟨us, []⟩ us vs Q E I.env0 b r h)
  intro res s2 q
  match res, q with
  | .error er, q => exact hx pins σ H s er s2 I q
  | .ok (.ret u), q => exact I.after q
theorem pe_callG (F : FnG X.prog X.w X.K X.mg X.base CX k f fd ps sp) (gd : X.A.guards = some []) (hr : Room k X.A) (hg : Gl X x) (hm : X.mg x = some (.ref f)) (hk : PySem.W.keepIn X.K (.ref f) = true) (hb : Binds X.K fd ps []) (hx : Passes CX X E)
    (ha : PA X (e :: es) t) (h1 : (x == ("__debug__" : Str)) = false := by decide) (h2 : starEach (e :: es) X.env = (false, eval e X.env) :: starEach es X.env := by rfl) (h3 : (backTo pos (starEach es X.env)).any (·.1) = false := by rfl) :
    PE X (.Call (.Name x p) (e :: es) [] pos) (tCall sp [] E t) := by
  constructor
  intro pins s σ H Q I h
  apply wpAny_Call_Name_kw (ld_glob I hg hm ?_ h1)
  apply PySem.W.callWith_K (h₀ := X.base) I.ok.mod.kin hk _ h2 h3
  apply thn (ha.run pos pins s σ H _ I h)
  rintro us s1 ⟨vs, H1, I1, r, q⟩
  rw [List.append_nil] at q
  exact ⟨I1.kIn, go_g F gd hr hb hx I1 r q⟩
end
/-- a def by its body, where nothing is being shown around -/
theorem fnG_of {CX : CXT} {P : Program} {w : World} {K : PySem.W.Frag} {mg : Str → Option Value} {base : Heap} {k : Nat} {f : Addr} {name qual : Str} {params : Arguments} {body : List Stmt} {scope : Scope} {dV kV doc pm cdv ct oc : Value}
    {an od : Option Addr} {osl : Array (Option Value)} {N ps : List Str} {sp : Sp}
    (lk : K.lookup f = some ⟨oc, od, .func (PySem.W.fnOf name qual params body scope dV kV doc pm an cdv ct), osl⟩) (cd : PySem.W.codeIn K cdv qual = true) (S : FnScope N ps scope) (few : ∀ vs H Q E, sp vs H Q E → vs.length = ps.length)
    (goes : ∀ (A : Around) (outer : List Env) (s : Shared) (H : Hp) (vs : List V) (Q : VK) (E : XK), (A.deeper (envOfC qual scope s.heap.objs.size f cdv)).guards = some [] → Room k (A.deeper (envOfC qual scope s.heap.objs.size f cdv)) → sp vs H Q E →
      ∃ t, PSs (cxOf CX P w K mg base N qual scope f cdv A outer s H E) body t ∧ t { nx := fun _ H' => Q .non H', rt := Q } (start N vs) H) :
    FnG P w K mg base CX (k + 1) f (PySem.W.fnOf name qual params body scope dV kV doc pm an cdv ct) ps sp := by
  constructor
  · exact few
  intro A gd hr outer s H args us vs Q E e0 hb r hsp
  have n := few _ _ _ _ hsp
  have old : ∀ b o, base.get? b = some o → s.heap.get? b = some o := fun b o q => (e0.bs b o q).1
  have KX := e0.mod.kin.keeps old
  have kinds : ∀ y ∈ ps.zip us, scope.names.lookup y.1 = some .local ∨ (scope.names.lookup y.1 = some .cell ∧ ((cellsFrom (s.heap.objs.size + 1) scope.names []).lookup y.1).isSome = true) := by
    rintro ⟨a, v⟩ hy
    rcases S.par a (List.of_mem_zip hy).1 with q | q
    · left; exact q
    · right; exact ⟨q, PySem.W.cellsFrom_some _ _ _ (.inl q)⟩
  apply codeAny_call_function hr.depth (KX _ _ lk) rfl S.co S.gen rfl (PySem.W.codeRec_of KX cd)
  apply hb
  apply wpAny_newFunctionEnv_cells S.kind kinds
  rintro env rfl s1 x
  refine ⟨(e0.mod.nolimit.keeps old).keeps x.toInCall.keep, codeAny_func ?_⟩
  obtain ⟨t, ht, hq⟩ := goes A outer s H vs Q E gd (hr.deeper _) hsp
  have I : Inv (cxOf CX P w K mg base N qual scope f cdv A outer s H E) [] (start N vs) H s1 := inv_start S hr.hd e0 n r x
  apply wpAny_mono (ht.run [] s1 (start N vs) H _ I hq) _ (fun _ _ z => z)
  intro fl s2 z
  have done : ∀ {σ' : L2.St} {H' : Hp} {v : V} {u : Value}, Inv (cxOf CX P w K mg base N qual scope f cdv A outer s H E) [] σ' H' s2 → RelV v u → Q v H' → CE outer P w H s Q u s2 := by
    intro σ' H' v u J rv q
    exact ⟨v, H', J.os, J.bare, J.base, J.hok, rv, q⟩
  match fl, z with
  | .ret u, ⟨v, σ', H', J, rv, q⟩ => exact done J rv q
  | .next, ⟨σ', H', J, q⟩ => exact done (v := V.non) (u := Value.none) J rfl q
  | .brk, ⟨_, _, _, q⟩ => exact q.elim
  | .cont, ⟨_, _, _, q⟩ => exact q.elim
section
variable {P : Program} {w : World} {K : PySem.W.Frag} {mg : Str → Option Value} {base : Heap}
/-- a def of the text -/
theorem okG {x qual : Str} {st : Stmt} {f : Addr} {fd : FuncData} {N ps : List Str} {k : Nat} {sp : Sp} (F : Fun K x qual st f fd) (S : FnScope N ps (defScope st)) (few : ∀ vs H Q E, sp vs H Q E → vs.length = ps.length)
    (goes : ∀ (cdv : Value) (A : Around) (outer : List Env) (s : Shared) (H : Hp) (vs : List V) (Q : VK) (E : XK), (A.deeper (envOfC qual (defScope st) s.heap.objs.size f cdv)).guards = some [] →
      Room k (A.deeper (envOfC qual (defScope st) s.heap.objs.size f cdv)) → sp vs H Q E →
      ∃ t, PSs (cxOf CX0 P w K mg base N qual (defScope st) f cdv A outer s H E).nox (defBody st) t ∧ t { nx := fun _ H' => Q .non H', rt := Q } (start N vs) H) : FnG P w K mg base CX0 (k + 1) f fd ps sp := by
  obtain ⟨oc, od, kV, doc, pm, an, cdv, ct, osl, rfl, lk, cd⟩ := F.ex
  apply fnG_of lk cd S few
  intro A outer s H vs Q E gd hr h
  obtain ⟨t, q1, q2⟩ := goes cdv A outer s H vs Q E gd hr h
  exact ⟨t, q1.nox, q2⟩
end

/-! ### repr of data -/
theorem pyd_nodict : ∀ d : PyData, d.canLay0 = true → d.hasDict = false := PyData.hasDict_of_canLay
def rRepr (K : PySem.W.Frag) : List V → Hp → VK → Prop := fun xs H Q => ∃ x d, xs = [x] ∧ Dp K H x d ∧ Good d ∧ Q (.str d.shown) H
section
variable {X : Cx}
theorem call_repr (gd : X.A.guards = some []) (hu : X.A.units + 68 < cLine) : CallR X (.builtin "repr") (rRepr X.K) := by
  intro pins s σ H xs us Q I r h
  obtain ⟨x, d, rfl, hd, g, q⟩ := h
  obtain ⟨u, rfl, rx⟩ : ∃ u, us = [u] ∧ RelV x u := by
    cases r with
    | cons a b =>
      cases b
      exact ⟨_, rfl, a⟩
  obtain ⟨as, rd⟩ := Dp.reads I d x u hd rx
  have dep : d.depth ≤ 64 := SeqAt.depth_of_shaped g.sh
  have big := g.fits
  have last : ∀ (h' : Heap) (tk : Nat) (t : Tok), (∀ b o, s.heap.get? b = some o → h'.get? b = some o) → EP X pins σ Q (.str d.shown t) { s with heap := h', toks := tk } :=
    fun h' tk t k => ⟨.str d.shown, H, I.kept k, ⟨_, rfl⟩, q⟩
  have deep : ∀ a, u = .ref a → wpAny (model X.prog X.w) X.A (call (.builtin "repr") [u]) (EP X pins σ Q) X.xe s := by
    intro a e
    subst e
    exact repr_of_reads' rd g.wr (PyData.noDict_hsm (pyd_nodict d g.lay)) gd (by omega) (fun _ _ z => z) (fun h' t tk k => last h' tk t k) big
  match d, hd, rd with
  | .list _, _, .list _ _ _ _ => exact deep _ rfl
  | .tuple _, _, .tuple _ _ _ _ => exact deep _ rfl
  | .none, _, .none => exact P.repr_of_none (last s.heap _ _ fun _ _ z => z)
  | .bool b, _, .bool _ =>
    refine P.repr_of_bool ?_
    have z := last s.heap (s.toks + 1) s.toks fun _ _ z => z
    cases b <;> exact z
  | .int i, _, .int _ _ => exact P.repr_of_int (of_decide_eq_true g.wr) (last s.heap _ _ fun _ _ z => z)
  | .str z, _, .str _ _ => exact P.repr_of_str (last s.heap _ _ fun _ _ z => z) big
end

/-! ### the law's own call -/
/-- the script's abstract heap: the script alone, locked, where it is none of the module's own lists -/
def H0 (K : PySem.W.Frag) (a : Addr) (ob : Obj) (xs : List V) : Hp := fun b => if b = a ∧ K.lookup a = none then some (.frz ob (.lst xs)) else none
theorem H0_cases {K : PySem.W.Frag} {a b : Addr} {ob : Obj} {xs : List V} {u : HO} (h : H0 K a ob xs b = some u) : b = a ∧ K.lookup a = none ∧ u = .frz ob (.lst xs) := by
  unfold H0 at h
  split at h
  · rename_i c
    cases h
    exact ⟨c.1, c.2, rfl⟩
  · cases h
theorem law_callG {P : Program} {w : World} {K : PySem.W.Frag} {mg mb : Str → Option Value} {k : Nat} {fa a : Addr} {fd : FuncData} {x : Str} {sp : Sp} {s₁ : Shared} {vs : List Value} {ns : List Int}
    (F : ∀ base : Heap, K.In base → base.Ns mainGlobals mg → FnG P w K mg base CX0 k fa fd [x] sp) (kin : K.In s₁.heap) (gl : s₁.heap.Ns mainGlobals mg) (bl : s₁.heap.Ns builtinsNs mb)
    (blt : ∀ x : Str, x ≠ "__name__" → mb x = bootBuiltins x) (nol : s₁.heap.NoLimit) (gens : s₁.gens = #[]) (at_a : s₁.heap.get? a = some { cls := .type "list", data := .seq vs.toArray })
    (are : IntsAre vs ns) (few : ns.length ≤ sizeLine) (hr : Room k callerA) (bnd : ∀ (s : Shared) (u : Value), BindsTo s fd ⟨[u], []⟩ [(x, u)])
    (hsp : ∀ H : Hp, SqL K H a (ns.map V.int) → sp [.ref a] H (fun v _ => v = .bl true) E0) :
    codeAny (model P w) callerA (.call (.ref fa) ⟨[.ref a], []⟩) (fun r s' => r = .ok (.ret (.bool true)) ∧ OldK s₁.heap s'.heap ∧ s'.os = s₁.os ∧ AllBare s'.gens) s₁ := by
  have rv := vals_ints are
  have z : vs.length ≤ sizeLine := by rw [are.length]; exact few
  generalize eo : ({ cls := .type "list", data := .seq vs.toArray } : Obj) = ob at at_a
  let H := H0 K a ob (ns.map V.int)
  have one : ∀ b u, H b = some u → b = a ∧ K.lookup a = none ∧ u = .frz ob (.lst (ns.map V.int)) := fun b u h => H0_cases h
  have ok : HOk P w H s₁.heap := by
    intro b u h
    obtain ⟨rfl, _, rfl⟩ := one b u h
    refine ⟨at_a, by rw [List.length_map]; exact few, vs, 0, rv, ?_⟩
    rw [at_a, ← eo]
  have sq : SqL K H a (ns.map V.int) := by
    cases hk : K.lookup a with
    | none =>
      left
      right
      exact ⟨ob, if_pos ⟨rfl, hk⟩⟩
    | some o =>
      right
      have e := (kin a o hk).symm.trans at_a
      cases e
      subst eo
      exact ⟨_, vs.toArray, _, hk, rfl, rfl, rfl, by simpa using z, by simpa using rv⟩
  have dropped : ∀ {b : Addr} {o : Obj}, s₁.heap.get? b = some o → (b ≠ a ∨ K.lookup a ≠ none) → H b = none := by
    intro b o _ c
    cases h : H b with
    | none => rfl
    | some u =>
      obtain ⟨e1, e2, _⟩ := one b u h
      rcases c with c | c
      · exact absurd e1 c
      · exact absurd e2 c
  have nsA : ∀ {b : Addr} {m : Str → Option Value}, s₁.heap.Ns b m → (hidT s₁.heap H).Ns b m := by
    rintro b m ⟨o, es, ep, e, d, r⟩
    refine ⟨o, es, ep, hidT_get e (dropped e (.inl ?_)), d, r⟩
    rintro rfl
    rw [at_a] at e
    cases e
    rw [← eo] at d
    cases d
  have kinB : K.In (hidT s₁.heap H) := by
    intro b o e
    refine hidT_get (kin b o e) (dropped (kin b o e) ?_)
    by_cases h : b = a
    · right
      intro q
      rw [h, q] at e
      cases e
    · left; exact h
  have e0 : Env0 P w K mg (hidT s₁.heap H) callerA [] s₁ H := by
    constructor
    · rfl
    · obtain ⟨mc, q1, q2⟩ := nol
      exact ⟨kinB, nsA gl, ⟨mb, nsA bl, blt⟩, mc, nsA q1, q2⟩
    · exact fun b o e => of_hidT e
    · exact Nat.le_of_eq (hidT_size _ _)
    · trivial
    · intro b hb
      cases hb
    · exact ok
    · exact .of_eq gens
  apply codeAny_mono ((F _ kinB (nsA gl)).goes callerA rfl hr [] s₁ H ⟨[.ref a], []⟩ [.ref a] [.ref a] _ _ e0 (bnd s₁ (.ref a)) (.cons rfl .nil) (hsp H sq))
  intro res s2 h
  match res, h with
  | .error _, h => exact h.elim
  | .ok (.ret u), ⟨v, H', os, bare, un, ok2, rr, q⟩ =>
    have e : v = .bl true := q
    subst e
    obtain rfl : u = Value.bool true := rr
    refine ⟨rfl, OldK.of_keep ?_, os, bare⟩
    intro b o e
    cases hb : H b with
    | none => exact un.keep b o e hb (fun z => nomatch z) fun z => nomatch z
    | some u =>
      obtain ⟨_, _, rfl⟩ := one b u hb
      obtain ⟨e1, _⟩ := ok b _ hb
      obtain ⟨e2, _⟩ := ok2 b _ (un.frzs b ob _ hb)
      rw [e] at e1
      cases e1
      exact e2
/-- the walk, from the law's def -/
theorem walkG {l : PySem.W.OpenLaw} {n k : Nat} {q : Program} {loose : List Str} {XP : (Str → Option Value) → Heap → Prop} {YP : World → Heap → Prop} {d : DefRec} {K : Params → PySem.W.Frag} {sp : PySem.W.Frag → Sp} {x : Str}
    (most : l.most = some n) (small : n ≤ sizeLine) (nodef : d.params.defaults = []) (hr : Room k callerA) (hY : ∀ (w : World) (h : Heap), YP w h → (K w.params).In h)
    (F : ∀ (w : World) (mg : Str → Option Value) (fa : Addr) (h : Heap), (K w.params).In h → h.Ns mainGlobals mg → mg d.name = some (.ref fa) →
      ∃ fd : FuncData, (∀ (s : Shared) (u : Value), BindsTo s fd ⟨[u], []⟩ [(x, u)]) ∧ ∀ base : Heap, (K w.params).In base → base.Ns mainGlobals mg → FnG l.prog w (K w.params) mg base CX0 k fa fd [x] (sp (K w.params)))
    (hsp : ∀ (K : PySem.W.Frag) (H : Hp) (a : Addr) (ns : List Int), ns.length ≤ n → SqL K H a (ns.map V.int) → sp K [.ref a] H (fun v _ => v = .bl true) E0) :
    PySem.W.WalkO q loose XP YP l.row.toRowW d [] (fun f vs => PySem.call f vs) := by
  apply Att.attach_call most nodef
  intro w s₀ s₁ mg mb fa o pm cd doc a vs ns G Y _ _ _ hm at_a are few gens
  obtain ⟨fd, b, hF⟩ := F w mg fa _ (hY w _ Y) G.T.g hm
  exact law_callG hF (hY w _ Y) G.T.g G.T.b G.T.builtins G.T.nolimit gens at_a are (Nat.le_trans few small) hr b fun H h => hsp _ H a ns few h
end Pk
set_option Elab.async false
set_option linter.all false
set_option maxRecDepth 100000
set_option maxHeartbeats 2000000
namespace Pk
open PySem PySem.Spec L2 PyProof.Rows
/-! ### operators over several kinds of values -/
section
variable {X : Cx}
theorem or2 {f : Value → Value → Sem Value} {r r' : R2} (h : OpR X f r) (h' : OpR X f r') : OpR X f (fun x y H Q => r x y H Q ∨ r' x y H Q) := by
  intro pins s σ H x y v u Q I rx ry q
  rcases q with q | q
  · exact h pins s σ H x y v u Q I rx ry q
  · exact h' pins s σ H x y v u Q I rx ry q
theorem orC {f : Value} {r r' : List V → Hp → VK → Prop} (h : CallR X f r) (h' : CallR X f r') : CallR X f (fun x H Q => r x H Q ∨ r' x H Q) := by
  intro pins s σ H xs us Q I rx q
  rcases q with q | q
  · exact h pins s σ H xs us Q I rx q
  · exact h' pins s σ H xs us Q I rx q
def rAddI : R2 := rI0 fun i j => .int (i + j)
def rAddT : R2 := fun x y H Q => ∃ i j, x = .str i ∧ y = .str j ∧ i.length + j.length ≤ sizeLine ∧ Q (.str (i ++ j)) H
def rAddU (K : PySem.W.Frag) : R2 := fun x y H Q => rAddI x y H Q ∨ rAddT x y H Q ∨ rCat x y H Q ∨ rCatA K x y H Q
theorem opAdd : OpR X (binaryOp .Add) (rAddU X.K) := or2 op_add (or2 op_add_str (or2 op_cat op_catA))
def rSubI : R2 := rI0 fun i j => .int (i - j)
theorem opSub : OpR X (binaryOp .Sub) rSubI := op_sub
def rMulI : R2 := rI (fun i j => CMul i j ∨ CMulW i j) fun i j => .int (i * j)
theorem op_mulI : OpR X (binaryOp .Mult) rMulI := opI fun _ _ _ _ _ _ _ hc q => mul_int q (hc.elim CMul.ok CMulW.ok)
def rRepS : R2 := fun x y H Q => ∃ z n, x = .str z ∧ y = .int n ∧ z.length ≤ 1000 ∧ 0 ≤ n ∧ n ≤ 1000 ∧ Q (.str (Txt.mul z n)) H
theorem op_repS : OpR X (binaryOp .Mult) rRepS := by
  intro pins s σ H x y v u Q I rx ry h
  obtain ⟨z, n, rfl, rfl, hz, h0, h1, q⟩ := h
  obtain ⟨t, rfl⟩ := rx
  obtain ⟨t', rfl⟩ := ry
  refine SB.mul ⟨?_, fun a _ => ?_, fun a _ => ?_⟩ fun t2 k => ⟨.str _, H, I.tok k, ⟨_, rfl⟩, q⟩
  · rw [decide_eq_false (show ¬ n < -(2 ^ 63 : Int) by omega), decide_eq_false (show ¬ n ≥ 2 ^ 63 by omega)]
    rfl
  · have h2 : (1000 : Int) ≤ (2 ^ 63 - 1) / n := by
      apply Int.le_ediv_of_mul_le (by omega)
      omega
    omega
  · have h2 : z.length * n.toNat ≤ 1000 * 1000 := Nat.mul_le_mul hz (by omega)
    unfold Builtin.Str.tooLong
    rw [decide_eq_false]
    rw [sizeLine_eq]
    omega
def rMulU (K : PySem.W.Frag) : R2 := fun x y H Q => rMulI x y H Q ∨ rRepS x y H Q ∨ rRep x y H Q ∨ rRepT K x y H Q
theorem opMul : OpR X (binaryOp .Mult) (rMulU X.K) := or2 op_mulI (or2 op_repS (or2 op_rep op_repT))
def rDivI : R2 := rI CDivW fun i j => .int (i / j)
theorem opDiv : OpR X (binaryOp .FloorDiv) rDivI := op_fdivW
def rModI : R2 := rI (fun _ j => 0 < j) fun i j => .int (i % j)
theorem opMod : OpR X (binaryOp .Mod) rModI := op_mod
/-! comparisons; hu: room -/
def rEqU (K : PySem.W.Frag) : R2 := fun x y H Q => rEq x y H Q ∨ rEqD K x y H Q
def rNeU (K : PySem.W.Frag) : R2 := fun x y H Q => rNe x y H Q ∨ rNeD K x y H Q
theorem opEq (hu : X.A.units + 64 < cLine) : OpR X (compareOp .Eq) (rEqU X.K) := or2 op_eq (op_eqD hu)
theorem opNe (hu : X.A.units + 64 < cLine) : OpR X (compareOp .NotEq) (rNeU X.K) := or2 op_ne (op_neD hu)
def rLtI : R2 := rI0 fun i j => .bl (decide (i < j))
def rGtI : R2 := rI0 fun i j => .bl (decide (j < i))
def rLeI : R2 := rI0 fun i j => .bl (decide (i ≤ j))
def rGeI : R2 := rI0 fun i j => .bl (decide (j ≤ i))
def rLeT : R2 := fun x y H Q => ∃ i j, x = .str i ∧ y = .str j ∧ Q (.bl (!decide (j.cps.toList < i.cps.toList))) H
def rLeU : R2 := fun x y H Q => rLeI x y H Q ∨ rLeT x y H Q
theorem opLt : OpR X (compareOp .Lt) rLtI := op_lt
theorem opGt : OpR X (compareOp .Gt) rGtI := op_gt
theorem opLe : OpR X (compareOp .LtE) rLeU := or2 op_le op_le_str
theorem opGe : OpR X (compareOp .GtE) rGeI := op_ge
def rIsNn : R2 := fun x y H Q => y = .non ∧ Q (.bl (decide (x = .non))) H
def rNotNn : R2 := fun x y H Q => y = .non ∧ Q (.bl (!decide (x = .non))) H
theorem opIsN : OpR X (compareOp .Is) rIsNn := op_isN
theorem opNotN : OpR X (compareOp .IsNot) rNotNn := op_notN
/-- x in (a, b, ..), x in [..], a sign in a text -/
def rSignIn : R2 := fun x y H Q => ∃ (c : Nat) (z : Str), x = .str ⟨#[c]⟩ ∧ y = .str z ∧ Q (.bl (decide (c ∈ z.cps.toList))) H
def rSignNotIn : R2 := fun x y H Q => ∃ (c : Nat) (z : Str), x = .str ⟨#[c]⟩ ∧ y = .str z ∧ Q (.bl (!decide (c ∈ z.cps.toList))) H
def rInU (K : PySem.W.Frag) : R2 := fun x y H Q => rIn K false x y H Q ∨ rSignIn x y H Q
def rNotInU (K : PySem.W.Frag) : R2 := fun x y H Q => rIn K true x y H Q ∨ rSignNotIn x y H Q
theorem opIn : OpR X (compareOp .In) (rInU X.K) := or2 op_in_seq op_in_sign
theorem opNotIn : OpR X (compareOp .NotIn) (rNotInU X.K) := or2 op_notIn_seq op_notIn_sign
/-! slices, items stored by an operator -/
def rSlS : V → Option Int → Option Int → Hp → VK → Prop := fun x lo hi H Q => ∃ z, x = .str z ∧ z.length ≤ sizeLine ∧ Q (.str (cutS z lo hi)) H
def rSlU (K : PySem.W.Frag) : V → Option Int → Option Int → Hp → VK → Prop := fun x lo hi H Q => rSlL K x lo hi H Q ∨ rSlT K x lo hi H Q
theorem slU : SlR X (rSlU X.K) := SlR.or sl_list sl_tup
def rGetL (K : PySem.W.Frag) : R2 := fun x y H Q => ∃ p xs k v, x = .ref p ∧ y = .int k ∧ 0 ≤ k ∧ SqL K H p xs ∧ xs[k.toNat]? = some v ∧ Q v H
theorem get_list : PGet X (rGetL X.K) := by
  intro pins s σ H o i ov iv Q I ro ri h
  obtain ⟨p, xs, k, v, rfl, rfl, h0, hp, hat, q⟩ := h
  cases ro
  obtain ⟨t, rfl⟩ := ri
  obtain ⟨its, r, pl, hz⟩ := I.list hp
  obtain ⟨u, hu, ru⟩ := r.get hat
  have hl := r.length
  have hn := line63
  have hj := (List.getElem?_eq_some_iff.mp hat).1
  exact wpAny_getItem_list pl.isList h0 (by omega) (by simpa using hu) ⟨v, H, I, ru, q⟩
end
end Pk
set_option Elab.async false
set_option linter.all false
set_option maxRecDepth 100000
set_option maxHeartbeats 2000000
namespace Pk
open PySem PySem.Spec L2 PyProof.Rows
/-! ### built-ins by name -/
theorem boot_len : bootBuiltins "len" = some (.builtin "len") := PySem.boot_len
theorem boot_isinstance : bootBuiltins "isinstance" = some (.builtin "isinstance") := by decide +kernel
theorem boot_abs : bootBuiltins "abs" = some (.builtin "abs") := by decide +kernel
theorem boot_ord : bootBuiltins "ord" = some (.builtin "ord") := by decide +kernel
theorem boot_all : bootBuiltins "all" = some (.builtin "all") := by decide +kernel
theorem boot_any : bootBuiltins "any" = some (.builtin "any") := by decide +kernel
theorem boot_sum : bootBuiltins "sum" = some (.builtin "sum") := by decide +kernel
theorem boot_max : bootBuiltins "max" = some (.builtin "max") := by decide +kernel
theorem boot_min : bootBuiltins "min" = some (.builtin "min") := by decide +kernel
theorem boot_repr : bootBuiltins "repr" = some (.builtin "repr") := by decide +kernel
theorem boot_sorted : bootBuiltins "sorted" = some (.builtin "sorted") := by decide +kernel
theorem boot_t_int : bootBuiltins "int" = some (.type "int") := by decide +kernel
theorem boot_t_bool : bootBuiltins "bool" = some (.type "bool") := by decide +kernel
theorem boot_t_str : bootBuiltins "str" = some (.type "str") := by decide +kernel
theorem boot_t_list : bootBuiltins "list" = some (.type "list") := by decide +kernel
theorem boot_t_tuple : bootBuiltins "tuple" = some (.type "tuple") := by decide +kernel
theorem boot_t_dict : bootBuiltins "dict" = some (.type "dict") := by decide +kernel
section
variable {X : Cx}
def rLenU (K : PySem.W.Frag) : List V → Hp → VK → Prop := fun xs H Q => (∃ x n, xs = [x] ∧ LenV K x H n ∧ Q (.int n) H) ∨ ∃ a kvs, xs = [V.ref a] ∧ H a = some (.dK kvs) ∧ Q (.int kvs.length) H
theorem callLen : CallR X (.builtin "len") (rLenU X.K) := orC call_len call_lenD
def rAbs : List V → Hp → VK → Prop := fun xs H Q => ∃ i, xs = [.int i] ∧ Q (.int (if i < 0 then -i else i)) H
def rOrd : List V → Hp → VK → Prop := fun xs H Q => ∃ x, xs = [.str x] ∧ x.length = 1 ∧ Q (.int (x.cps.getD 0 0 : Nat)) H
def rMax2 : List V → Hp → VK → Prop := fun xs H Q => ∃ i j, xs = [.int i, .int j] ∧ Q (.int (if j > i then j else i)) H
def rMin2 : List V → Hp → VK → Prop := fun xs H Q => ∃ i j, xs = [.int i, .int j] ∧ Q (.int (if j < i then j else i)) H
def rInt1 : List V → Hp → VK → Prop := fun xs H Q => (∃ i, xs = [.int i] ∧ Q (.int i) H) ∨ ∃ k, xs = [.bl k] ∧ Q (.int (if k then 1 else 0)) H
def rIntS : List V → Hp → VK → Prop := fun xs H Q => ∃ a n, xs = [.str a] ∧ PySem.intText? a = some n ∧ a.length ≤ 640 ∧ Q (.int n) H
def rIntU : List V → Hp → VK → Prop := fun xs H Q => rInt1 xs H Q ∨ rIntS xs H Q
theorem callInt : CallR X (.type "int") rIntU := orC call_int1 call_int_str
def rBool1 : List V → Hp → VK → Prop := fun xs H Q => (∃ i, xs = [.int i] ∧ Q (.bl (i != 0)) H) ∨ ∃ k, xs = [.bl k] ∧ Q (.bl k) H
def rListOf (K : PySem.W.Frag) : List V → Hp → VK → Prop := fun xs H Q => ∃ p ys, xs = [.ref p] ∧ (SqL K H p ys ∨ SqT K H p ys) ∧ ∀ l, H l = none → Q (.ref l) (upd H l (.lst ys))
def rTupleOf (K : PySem.W.Frag) : List V → Hp → VK → Prop := fun xs H Q => ∃ p ys, xs = [.ref p] ∧ ((SqL K H p ys ∧ ∀ l, H l = none → Q (.ref l) (upd H l (.tup ys))) ∨ (SqT K H p ys ∧ Q (.ref p) H))
def rPowI : R2 := rI CPow fun i j => .int (i ^ j.toNat)
theorem opPow : OpR X (binaryOp .Pow) rPowI := op_pow
def tTru (K : PySem.W.Frag) (ta : TE) : TT := fun σ H Q => ta σ H fun x H' => ∃ k, TruV K x H' k ∧ Q k H'
def tJoin (K : PySem.W.Frag) (to ta : TE) : TE := tBM K "str" (fun x xs H Q => ∃ a p, ∃ ys : List Str, x = .str a ∧ xs = [.ref p] ∧ (SqL K H p (ys.map V.str) ∨ SqT K H p (ys.map V.str)) ∧ JoinOk a ys = true ∧ Q (.str (Txt.join a ys)) H) to (tCons ta tNil)
end
/-! ### a def that is called: where it stands, what it promises -/
structure Cal (P : Program) (w : World) (K : PySem.W.Frag) (mg : Str → Option Value) (base : Heap) (CX : CXT) (k : Nat) (x : Str) (ps : List Str) (ds : List Value) (sp : Sp) : Prop where
  ex : ∃ f fd, FnOk P w K mg base CX k f fd ps sp ∧ mg x = some (.ref f) ∧ PySem.W.keepIn K (.ref f) = true ∧ Binds K fd ps ds
structure CalG (P : Program) (w : World) (K : PySem.W.Frag) (mg : Str → Option Value) (base : Heap) (CX : CXT) (k : Nat) (x : Str) (ps : List Str) (sp : Sp) : Prop where
  ex : ∃ f fd, FnG P w K mg base CX k f fd ps sp ∧ mg x = some (.ref f) ∧ PySem.W.keepIn K (.ref f) = true ∧ Binds K fd ps []
section
variable {X : Cx} {CX : CXT} {k j : Nat} {ps : List Str} {ds : List Value} {dvs : List V} {sp : Sp} {E : XK} {x : Str} {p pos : Pos} {e : Expr} {es : List Expr} {t : TA}
theorem pe_cal (F : Cal X.prog X.w X.K X.mg X.base CX k x ps [] sp) (hr : Room j X.A) (hx : Passes CX X E) (ha : PA X (e :: es) t) (hj : k ≤ j := by first | decide | omega) (hg : Gl X x := by rfl)
    (h1 : (x == ("__debug__" : Str)) = false := by decide) (h2 : starEach (e :: es) X.env = (false, eval e X.env) :: starEach es X.env := by rfl) (h3 : (backTo pos (starEach es X.env)).any (·.1) = false := by rfl) :
    PE X (.Call (.Name x p) (e :: es) [] pos) (tCall sp [] E t) := by
  obtain ⟨f, fd, F, hm, hk, hb⟩ := F.ex
  exact pe_call F (hr.mono hj) hg hm hk hb .nil hx ha h1 h2 h3
theorem pe_calD (F : Cal X.prog X.w X.K X.mg X.base CX k x ps ds sp) (hd : Vals dvs ds) (hr : Room j X.A) (hx : Passes CX X E) (ha : PA X (e :: es) t) (hj : k ≤ j := by first | decide | omega) (hg : Gl X x := by rfl)
    (h1 : (x == ("__debug__" : Str)) = false := by decide) (h2 : starEach (e :: es) X.env = (false, eval e X.env) :: starEach es X.env := by rfl) (h3 : (backTo pos (starEach es X.env)).any (·.1) = false := by rfl) :
    PE X (.Call (.Name x p) (e :: es) [] pos) (tCall sp dvs E t) := by
  obtain ⟨f, fd, F, hm, hk, hb⟩ := F.ex
  exact pe_call F (hr.mono hj) hg hm hk hb hd hx ha h1 h2 h3
theorem pe_calg (F : CalG X.prog X.w X.K X.mg X.base CX k x ps sp) (gd : X.A.guards = some []) (hr : Room j X.A) (hx : Passes CX X E) (ha : PA X (e :: es) t) (hj : k ≤ j := by first | decide | omega) (hg : Gl X x := by rfl)
    (h1 : (x == ("__debug__" : Str)) = false := by decide) (h2 : starEach (e :: es) X.env = (false, eval e X.env) :: starEach es X.env := by rfl) (h3 : (backTo pos (starEach es X.env)).any (·.1) = false := by rfl) :
    PE X (.Call (.Name x p) (e :: es) [] pos) (tCall sp [] E t) := by
  obtain ⟨f, fd, F, hm, hk, hb⟩ := F.ex
  exact pe_callG F gd (hr.mono hj) hg hm hk hb hx ha h1 h2 h3
end
theorem room_repr {k : Nat} {A : Around} (hr : Room k A) : A.units + 68 < cLine := by have := hr.un; omega
/-! ### what is kept -/
/-- all that was tracked but b -/
def Kp (b : Addr) (H H' : Hp) : Prop := ∀ c o, H c = some o → c ≠ b → H' c = some o
theorem Kp.refl {b : Addr} {H : Hp} : Kp b H H := fun _ _ h _ => h
theorem Kp.trans {b : Addr} {H H1 H2 : Hp} (a : Kp b H H1) (c : Kp b H1 H2) : Kp b H H2 := fun d o h n => c d o (a d o h n) n
theorem Kp.of {b : Addr} {H H' : Hp} (s : Same H H') : Kp b H H' := fun c o h _ => s c o h
theorem same_new {H : Hp} {p : Addr} {o : HO} (h : H p = none) : Same H (upd H p o) := fun b u q => by
  rw [upd_ne (ne_of_none q h)]
  exact q
theorem kp_new {b : Addr} {H : Hp} {p : Addr} {o : HO} (h : H p = none) : Kp b H (upd H p o) := Kp.of (same_new h)
theorem Kp.laid {b : Addr} {H H1 : Hp} {p : Addr} {o : HO} (k : Kp b H H1) (h : H1 p = none) : Kp b H (upd H1 p o) := k.trans (kp_new h)
/-- the object b itself is written -/
theorem kp_put {b : Addr} {H : Hp} {o : HO} : Kp b H (upd H b o) := fun c u h n => by
  rw [upd_ne n]
  exact h
theorem Kp.put {b : Addr} {H H1 : Hp} {o : HO} (k : Kp b H H1) : Kp b H (upd H1 b o) := k.trans kp_put
/-- an object that was not tracked at the beginning is written -/
theorem Kp.other {b p : Addr} {H H1 : Hp} {o : HO} (k : Kp b H H1) (h : H p = none) : Kp b H (upd H1 p o) := fun c u q n => by
  rw [upd_ne (ne_of_none q h)]
  exact k c u q n
theorem Kp.tup {K : PySem.W.Frag} {b a : Addr} {H H' : Hp} {xs ys : List V} (k : Kp b H H') (hb : H b = some (.lst ys)) (h : SqT K H a xs) : SqT K H' a xs := by
  rcases h with (h | ⟨o, h⟩) | h
  · exact .inl (.inl (k _ _ h (ne_of h hb (by intro z; cases z))))
  · exact .inl (.inr ⟨o, k _ _ h (ne_of h hb (by intro z; cases z))⟩)
  · exact .inr h
/-! ### the bag of draws -/
structure Bag (H : Hp) (b l : Addr) : Prop where
  ex : ∃ (x m p : Int) (xs : List Int), H b = some (.lst [.int x, .int m, .int p, .ref l]) ∧ H l = some (.lst (xs.map V.int)) ∧ 0 ≤ x ∧ 0 ≤ m ∧ m < 2147483647 ∧ 0 ≤ p ∧ xs.length ≤ 63 ∧ ∀ c ∈ xs, 0 ≤ c
theorem Bag.ne {H : Hp} {b l : Addr} (B : Bag H b l) : l ≠ b := by
  obtain ⟨x, m, p, xs, h1, h2, _⟩ := B.ex
  intro e
  rw [e, h1] at h2
  cases xs with
  | nil => cases h2
  | cons _ r => cases r with
    | nil => cases h2
    | cons _ r => cases r with
      | nil => cases h2
      | cons _ r => cases r with
        | nil => cases h2
        | cons _ r => simp at h2
/-- what is new does not touch the bag -/
theorem Bag.same {H H' : Hp} {b l : Addr} (B : Bag H b l) (s : Same H H') : Bag H' b l := by
  obtain ⟨x, m, p, xs, h1, h2, r⟩ := B.ex
  exact ⟨x, m, p, xs, s _ _ h1, s _ _ h2, r⟩
theorem Bag.at {H : Hp} {b l : Addr} (B : Bag H b l) : ∃ xs, H b = some (.lst xs) := by
  obtain ⟨x, m, p, xs, h1, h2, r⟩ := B.ex
  exact ⟨_, h1⟩
theorem Bag.at2 {H : Hp} {b l : Addr} (B : Bag H b l) : ∃ xs, H l = some (.lst xs) := by
  obtain ⟨x, m, p, xs, h1, h2, r⟩ := B.ex
  exact ⟨_, h2⟩
theorem Bag.put {H : Hp} {b l c : Addr} {o : HO} (B : Bag H b l) (h1 : b ≠ c) (h2 : l ≠ c) : Bag (upd H c o) b l := by
  obtain ⟨x, m, p, xs, e1, e2, r⟩ := B.ex
  exact ⟨x, m, p, xs, by rw [upd_ne h1]; exact e1, by rw [upd_ne h2]; exact e2, r⟩
/-- a number drawn below n -/
def sp_law_take (K : PySem.W.Frag) : Sp := fun vs H Q _ => ∃ b l n, vs = [.ref b, .int n] ∧ Bag H b l ∧ 0 < n ∧ n ≤ 10 ^ 100 ∧ ∀ v H', 0 ≤ v → v < n → Bag H' b l → Kp b H H' → Q (.int v) H'
/-- a new bag of a script -/
def sp_law_bag (K : PySem.W.Frag) : Sp := fun vs H Q _ => ∃ (a : Addr) (ns : List Int), vs = [.ref a] ∧ SqL K H a (ns.map V.int) ∧ ∀ b l H', H b = none → H l = none → Bag H' b l → Same H H' → Q (.ref b) H'
end Pk
set_option Elab.async false
set_option linter.all false
set_option maxRecDepth 100000
set_option maxHeartbeats 2000000
namespace Pk
open PySem PySem.Spec L2 PyProof.Rows
def t_law_bag (K : PySem.W.Frag) : TS :=
  (tRet (tLst (tCons (tC (.int 0)) (tCons (tC (.int 1234567891)) (tCons (tC (.int 0)) (tCons (tLc (iList K (tSl (rSlU K) (tVar 0) tNoPart (tPart (tC (.int 63))))) (gName 1) tYes (tCB (rAbs) (tCons (tVar 1) tNil)) [1]) tNil))))))
def t_law_take (K : PySem.W.Frag) : TS :=
  (Evl.tCut (tIfS (tTest (tOp (rEqU K) (tOp (rIx K) (tVar 0) (tC (.int 0))) (tC (.int 0)))) (tSeq (tAsg (tC (.int 0)) (gName 2))
    (Evl.tCut (tIfS (tTest (tOp (rLtI) (tOp (rIx K) (tVar 0) (tC (.int 2))) (tCB (rLenU K) (tCons (tOp (rIx K) (tVar 0) (tC (.int 3))) tNil)))) (tAsg (tOp (rIx K) (tOp (rIx K) (tVar 0) (tC (.int 3))) (tOp (rIx K) (tVar 0) (tC (.int 2)))) (gName 2)) tNext)
    (tSeq (tAugS (tVar 0) (tC (.int 2)) (tC (.int 1)) (rGetL K) (ipI fun i j => i + j) rSetL)
    (Evl.tCut (tIfS (tTest (tOp (rGeI) (tVar 2) (tC (.int 1000000000000000000)))) (tAsg (tVar 2) (gSub (tVar 0) (tC (.int 0)) rSetL)) tNext)
    (tSeq (tAsg (tOp (rAddU K) (tOp (rAddU K) (tOp (rMulU K) (tOp (rIx K) (tVar 0) (tC (.int 1))) (tC (.int 48271))) (tOp (rModI) (tCB (rIntU) (tCons (tVar 2) tNil)) (tC (.int 2147483647)))) (tOp (rMulU K) (tC (.int 7919)) (tOp (rIx K) (tVar 0) (tC (.int 2))))) (gName 3))
    (tAsg (tOp (rModI) (tCB (rIntU) (tCons (tVar 3) tNil)) (tC (.int 2147483647))) (gSub (tVar 0) (tC (.int 1)) rSetL))))))) tNext)
    (tSeq (tIfS (tTest (tOp (rGtI) (tOp (rIx K) (tVar 0) (tC (.int 0))) (tC (.int 0)))) (tSeq (tAsg (tOp (rModI) (tCB (rIntU) (tCons (tOp (rIx K) (tVar 0) (tC (.int 0))) tNil)) (tVar 1)) (gName 4))
    (tSeq (tAsg (tOp (rDivI) (tOp (rIx K) (tVar 0) (tC (.int 0))) (tVar 1)) (gSub (tVar 0) (tC (.int 0)) rSetL))
    (tRet (tVar 4)))) tNext)
    (tSeq (tAsg (tOp (rModI) (tCB (rIntU) (tCons (tOp (rMulU K) (tOp (rAddU K) (tOp (rIx K) (tVar 0) (tC (.int 1))) (tC (.int 1))) (tC (.int 39373))) tNil)) (tC (.int 1000000007))) (gName 5))
    (tSeq (tAsg (tOp (rModI) (tCB (rIntU) (tCons (tOp (rMulU K) (tOp (rModI) (tCB (rIntU) (tCons (tOp (rMulU K) (tVar 5) (tVar 5)) tNil)) (tC (.int 998244353))) (tC (.int 30011))) tNil)) (tC (.int 998244353))) (gName 6))
    (tSeq (tIfS (tTest (tOp (rGtI) (tVar 1) (tC (.int 1000000)))) (tRet (tOp (rModI) (tCB (rIntU) (tCons (tOp (rAddU K) (tOp (rMulU K) (tVar 6) (tC (.int 1000000007))) (tVar 5)) tNil)) (tVar 1))) tNext)
    (tRet (tOp (rModI) (tCB (rIntU) (tCons (tOp (rDivI) (tVar 6) (tC (.int 7))) tNil)) (tVar 1))))))))
abbrev EndsOf (Q : VK) : Ends := { nx := fun _ H' => Q .non H', rt := Q }
theorem ln_law_take {K : PySem.W.Frag} {vs : List V} {H : Hp} {Q : VK} {E : XK} (h : sp_law_take K vs H Q E) : vs.length = 2 := by obtain ⟨_, _, _, rfl, _⟩ := h; rfl
theorem ln_law_bag {K : PySem.W.Frag} {vs : List V} {H : Hp} {Q : VK} {E : XK} (h : sp_law_bag K vs H Q E) : vs.length = 1 := by obtain ⟨_, _, rfl, _⟩ := h; rfl
/-! ### slices by natural numbers -/
theorem cutV_to (xs : List V) (k : Nat) : cutV xs none (some (k : Int)) = xs.take k := by
  unfold cutV
  rw [HT.sIx_none, HT.sIx_nat]
  show (xs.drop 0).take (min k xs.length - 0) = xs.take k
  rw [List.drop_zero, Nat.sub_zero]
  exact (List.take_eq_take_min).symm
theorem cutV_from (xs : List V) (k : Nat) : cutV xs (some (k : Int)) none = xs.drop k := by
  unfold cutV
  rw [HT.sIx_none, HT.sIx_nat]
  by_cases h : k ≤ xs.length
  · rw [Nat.min_eq_left h, List.take_of_length_le]
    rw [List.length_drop]
    exact Nat.le_refl _
  · rw [Nat.min_eq_right (by omega), List.drop_length, List.drop_eq_nil_of_le (by omega), List.take_nil]
theorem take_map_get {α β : Type} {f : α → β} {l : List α} {i : Nat} {x : α} (h : l[i]? = some x) : (l.take (i + 1)).map f = (l.take i).map f ++ [f x] := by
  rw [List.take_add_one, h]
  simp
def iabs (i : Int) : Int := if i < 0 then -i else i
theorem rd_law_bag {K : PySem.W.Frag} {vs : List V} {H : Hp} {Q : VK} {E : XK} (h : sp_law_bag K vs H Q E) : t_law_bag K (EndsOf Q) (start ["", ""] vs) H := by
  obtain ⟨a, ns, rfl, hS, k⟩ := h
  refine ⟨_, rfl, 63, rfl, .inl ⟨a, _, rfl, hS, fun p hp => ?_⟩⟩
  have e1 : cutV (ns.map V.int) none (some 63) = (ns.take 63).map V.int := by
    rw [show (63 : Int) = ((63 : Nat) : Int) from rfl, cutV_to, List.map_take]
  rw [e1]
  refine ⟨p, rfl, ⟨_, SqL.of upd_same⟩, fun D hD => ?_⟩
  refine lc_list (xs := (ns.take 63).map V.int) (fun i H' => Same (upd H p (.lst ((ns.take 63).map V.int))) H' ∧ H' D = some (.lst (((ns.take 63).take i).map fun z => V.int (iabs z)))) ⟨same_new hD, upd_same⟩ (fun i H' _ s => s.1.seq (SqL.of upd_same)) ?_ ?_
  · rintro i x H' hx ⟨s, e⟩
    rw [List.getElem?_map] at hx
    cases hz : (ns.take 63)[i]? with
    | none => rw [hz] at hx; cases hx
    | some z =>
      rw [hz] at hx
      cases hx
      have hi := (List.getElem?_eq_some_iff.mp hz).1
      have hl : (ns.take 63).length ≤ 63 := by rw [List.length_take]; omega
      refine ⟨rfl, ?_⟩
      refine ⟨_, rfl, z, rfl, _, e, ?_, fun b o q => ?_, ?_⟩
      · rw [List.length_map, List.length_take]
        exact small1000 (by omega)
      · rw [upd_ne (ne_of_none q hD)]
        exact s b o q
      · rw [upd_same, take_map_get hz]
        rfl
  · rintro H' ⟨s, e⟩
    refine ⟨by show 4 ≤ sizeLine; decide, fun b hb => ?_⟩
    rw [List.length_map, List.take_length] at e
    refine k b D _ ?_ ?_ ⟨0, 1234567891, 0, ((ns.take 63).map iabs), upd_same, ?_, by omega, by omega, by omega, by omega, ?_, ?_⟩ ?_
    · exact (same_new hp).free (s.free hb)
    · exact (same_new hp).free hD
    · rw [upd_ne (ne_of_none e hb), e, List.map_map]
      rfl
    · rw [List.length_map, List.length_take]
      omega
    · intro c hc
      obtain ⟨z, _, rfl⟩ := List.mem_map.mp hc
      unfold iabs
      split <;> omega
    · exact (same_new hp).trans (s.trans (same_new hb))

theorem ifI {x y : Int} {A B : Prop} (h1 : x = y → A) (h2 : x ≠ y → B) : if decide (V.int x = V.int y) = true then A else B := by
  by_cases h : x = y
  · rw [if_pos (decide_eq_true (congrArg V.int h))]
    exact h1 h
  · rw [if_neg]
    · exact h2 h
    · intro z
      exact h (V.int.inj (of_decide_eq_true z))
theorem ifD {p : Prop} [Decidable p] {A B : Prop} (h1 : p → A) (h2 : ¬ p → B) : if decide p = true then A else B := by
  by_cases h : p
  · rw [if_pos (decide_eq_true h)]
    exact h1 h
  · rw [if_neg (fun z => h (of_decide_eq_true z))]
    exact h2 h
theorem div_ok {n : Int} (h0 : 0 < n) (h1 : n ≤ 10 ^ 100) : CDivW 0 n := by
  refine ⟨h0, ?_⟩
  have h2 : n.natAbs < 2 ^ 9000 := by
    have z : n.natAbs ≤ 10 ^ 100 := by omega
    have z2 : (10 : Nat) ^ 100 < 2 ^ 9000 := by decide +kernel
    omega
  by_cases e : n.natAbs = 0
  · rw [e]; decide
  · exact (Nat.log2_lt e).mpr h2
theorem rd_law_take {K : PySem.W.Frag} {vs : List V} {H : Hp} {Q : VK} {E : XK} (h : sp_law_take K vs H Q E) : t_law_take K (EndsOf Q) (start ["", "", "", "", "", "", ""] vs) H := by
  obtain ⟨b, l, n, rfl, B, h0, h1, k⟩ := h
  have nlb := B.ne
  obtain ⟨x, m, p, xs, hb, hl, x0, m0, m1, p0, l63, c0⟩ := B.ex
  refine ⟨fun σ' H' => ∃ (s2 s3 : Option V) (x m p : Int), σ' = [some (.ref b), some (.int n), s2, s3, none, none, none] ∧ H' b = some (.lst [.int x, .int m, .int p, .ref l]) ∧ H' l = some (.lst (xs.map V.int)) ∧ 0 ≤ x ∧ 0 ≤ m ∧ m < 2147483647 ∧ 0 ≤ p ∧ Kp b H H', ?_, ?_⟩
  · refine ⟨_, rfl, .inl ⟨b, _, _, _, rfl, rfl, SqL.of hb, rfl, .inl ⟨rfl, _, rfl, ?_⟩⟩⟩
    refine ifI (fun e => ?_) (fun _ => ⟨_, _, x, m, p, rfl, hb, hl, x0, m0, m1, p0, Kp.refl⟩)
    subst e
    -- the next cell, 0 behind the script
    refine ⟨fun σ' H' => H' = H ∧ ∃ c, 0 ≤ c ∧ σ' = [some (.ref b), some (.int n), some (.int c), none, none, none, none], ?_, ?_⟩
    · refine ⟨_, rfl, .inl ⟨b, _, _, _, rfl, rfl, SqL.of hb, rfl, _, rfl, .inl ⟨b, _, _, _, rfl, rfl, SqL.of hb, rfl, .inl ⟨_, _, rfl, .inl ⟨_, SqL.of hl, rfl⟩, _, _, rfl, rfl, _, rfl, ?_⟩⟩⟩⟩
      refine ifD (fun q => ?_) (fun _ => ⟨rfl, 0, by decide, rfl⟩)
      rw [List.length_map] at q
      have hp : p.toNat < xs.length := by omega
      have ep : p = ((p.toNat : Nat) : Int) := by omega
      have g : (xs.map V.int)[p.toNat]? = some (.int (xs[p.toNat])) := by rw [List.getElem?_map, List.getElem?_eq_getElem hp]; rfl
      refine ⟨_, rfl, .inl ⟨b, _, _, _, rfl, rfl, SqL.of hb, rfl, _, rfl, .inl ⟨b, _, _, _, rfl, rfl, SqL.of hb, rfl, .inl ⟨l, _, p, _, rfl, rfl, SqL.of hl, by rw [ep]; exact atI_nat g, ?_⟩⟩⟩⟩
      exact ⟨rfl, _, c0 _ (List.getElem_mem hp), rfl⟩
    rintro σ' H' ⟨rfl, c, cc, rfl⟩
    -- the place
    refine ⟨_, rfl, b, _, 2, _, rfl, rfl, by decide, SqL.of hb, rfl, _, _, rfl, rfl, b, _, 2, 2, rfl, rfl, hb, rfl, ?_⟩
    have hb' : (upd H' b (.lst [.int 0, .int m, .int (p + 1), .ref l])) b = some (.lst [.int 0, .int m, .int (p + 1), .ref l]) := upd_same
    have hl' : (upd H' b (.lst [.int 0, .int m, .int (p + 1), .ref l])) l = some (.lst (xs.map V.int)) := by rw [upd_ne nlb]; exact hl
    have kp' : Kp b H' (upd H' b (.lst [.int 0, .int m, .int (p + 1), .ref l])) := kp_put
    show Evl.tCut _ _ _ _ (upd H' b (.lst [.int 0, .int m, .int (p + 1), .ref l]))
    generalize upd H' b (.lst [.int 0, .int m, .int (p + 1), .ref l]) = H2 at hb' hl' kp' ⊢
    -- a great cell fills the bag
    refine ⟨fun σ' H3 => σ' = [some (.ref b), some (.int n), some (.int c), none, none, none, none] ∧ ∃ x, 0 ≤ x ∧ H3 b = some (.lst [.int x, .int m, .int (p + 1), .ref l]) ∧ H3 l = some (.lst (xs.map V.int)) ∧ Kp b H' H3, ?_, ?_⟩
    · refine ⟨_, rfl, _, _, rfl, rfl, _, rfl, ?_⟩
      refine ifD (fun q => ?_) (fun _ => ⟨rfl, 0, by decide, hb', hl', kp'⟩)
      refine ⟨_, rfl, _, rfl, b, _, 0, 0, rfl, rfl, hb', rfl, rfl, c, cc, upd_same, by rw [upd_ne nlb]; exact hl', kp'.put⟩
    rintro σ' H3 ⟨rfl, x, x0', hb3, hl3, kp3⟩
    refine ⟨_, rfl, .inl ⟨b, _, _, _, rfl, rfl, SqL.of hb3, rfl, .inl ⟨_, _, rfl, rfl, .inl (.inl (by omega)), ?_⟩⟩⟩
    refine ⟨_, rfl, .inl (.inl ⟨_, rfl, _, _, rfl, rfl, (by show (0 : Int) < _; decide), .inl ⟨_, _, rfl, rfl, ?_⟩⟩)⟩
    refine ⟨_, rfl, .inl ⟨b, _, _, _, rfl, rfl, SqL.of hb3, rfl, .inl ⟨_, _, rfl, rfl, .inl (.inl (by omega)), .inl ⟨_, _, rfl, rfl, ?_⟩⟩⟩⟩
    refine ⟨_, rfl, .inl (.inl ⟨_, rfl, _, _, rfl, rfl, (by show (0 : Int) < _; decide), ?_⟩)⟩
    refine ⟨_, rfl, b, _, 1, 1, rfl, rfl, hb3, rfl, ?_⟩
    exact ⟨_, _, x, _, p + 1, rfl, upd_same, by rw [upd_ne nlb]; exact hl3, x0', Int.emod_nonneg _ (by decide), Int.emod_lt_of_pos _ (by decide), by omega, kp3.put⟩
  · rintro σ' H' ⟨s2, s3, x, m, p, rfl, hb, hl, x0, m0, m1, p0, kp⟩
    refine ⟨_, rfl, .inl ⟨b, _, _, _, rfl, rfl, SqL.of hb, rfl, _, _, rfl, rfl, _, rfl, ?_⟩⟩
    refine ifD (fun hx => ?_) (fun hx => ?_)
    · refine ⟨_, rfl, .inl ⟨b, _, _, _, rfl, rfl, SqL.of hb, rfl, .inl (.inl ⟨_, rfl, _, rfl, _, _, rfl, rfl, h0, ?_⟩)⟩⟩
      refine ⟨_, rfl, .inl ⟨b, _, _, _, rfl, rfl, SqL.of hb, rfl, _, rfl, _, _, rfl, rfl, div_ok h0 h1, ?_⟩⟩
      refine ⟨_, rfl, b, _, _, 0, rfl, rfl, hb, rfl, ?_⟩
      refine ⟨_, rfl, k _ _ (Int.emod_nonneg _ (by omega)) (Int.emod_lt_of_pos _ h0) ⟨x / n, m, p, xs, upd_same, by rw [upd_ne nlb]; exact hl, Int.ediv_nonneg x0 (by omega), m0, m1, p0, l63, c0⟩ kp.put⟩
    · refine ⟨_, rfl, .inl ⟨b, _, _, _, rfl, rfl, SqL.of hb, rfl, .inl ⟨_, _, rfl, rfl, .inl ⟨_, _, rfl, rfl, .inl (.inl (by omega)), ?_⟩⟩⟩⟩
      refine .inl (.inl ⟨_, rfl, _, _, rfl, rfl, (by show (0 : Int) < _; decide), ?_⟩)
      generalize hw : (m + 1) * 39373 % 1000000007 = w
      have w0 : 0 ≤ w := by rw [← hw]; exact Int.emod_nonneg _ (by decide)
      have w1 : w < 1000000007 := by rw [← hw]; exact Int.emod_lt_of_pos _ (by decide)
      refine ⟨_, rfl, _, rfl, .inl ⟨_, _, rfl, rfl, .inl (.inl (by omega)), ?_⟩⟩
      refine .inl (.inl ⟨_, rfl, _, _, rfl, rfl, (by show (0 : Int) < _; decide), .inl ⟨_, _, rfl, rfl, .inl (.inr (by decide)), .inl (.inl ⟨_, rfl, _, _, rfl, rfl, (by show (0 : Int) < _; decide), ?_⟩)⟩⟩)
      generalize hz : w * w % 998244353 * 30011 % 998244353 = z
      have z0 : 0 ≤ z := by rw [← hz]; exact Int.emod_nonneg _ (by decide)
      have z1 : z < 998244353 := by rw [← hz]; exact Int.emod_lt_of_pos _ (by decide)
      refine ⟨_, rfl, _, _, rfl, rfl, _, rfl, ?_⟩
      have B' : Bag H' b l := ⟨x, m, p, xs, hb, hl, x0, m0, m1, p0, l63, c0⟩
      refine ifD (fun _ => ?_) (fun _ => ?_)
      · refine ⟨_, rfl, .inl ⟨_, _, rfl, rfl, .inl (.inl (by omega)), _, rfl, .inl ⟨_, _, rfl, rfl, .inl (.inl ⟨_, rfl, _, rfl, _, _, rfl, rfl, h0, ?_⟩)⟩⟩⟩
        exact k _ _ (Int.emod_nonneg _ (by omega)) (Int.emod_lt_of_pos _ h0) B' kp
      · refine ⟨_, rfl, _, _, rfl, rfl, ⟨by decide, by decide⟩, .inl (.inl ⟨_, rfl, _, rfl, _, _, rfl, rfl, h0, ?_⟩)⟩
        exact k _ _ (Int.emod_nonneg _ (by omega)) (Int.emod_lt_of_pos _ h0) B' kp
end Pk
set_option Elab.async false
set_option linter.all false
set_option maxRecDepth 100000
set_option maxHeartbeats 2000000
namespace Pk
open PySem PySem.Spec L2 PyProof.Rows
theorem kit_same {K : PySem.W.Frag} {v : Value} : PySem.W.kitOne K v v = some true := by
  unfold PySem.W.kitOne
  simp
/-! ### own classes: bundles of what the top says of them -/
/-- a def that is a class's own: where it stands, what it promises -/
structure Own (P : Program) (w : World) (K : PySem.W.Frag) (mg : Str → Option Value) (base : Heap) (CX : CXT) (k : Nat) (C : Addr) (m : Str) (ps : List Str) (sp : Sp) : Prop where
  ex : ∃ f fd, FnOk P w K mg base CX k f fd ps sp ∧ PySem.W.findIn K (.ref C) m = some (some (.ref f)) ∧ PySem.W.isFn K (.ref f) = true ∧ PySem.W.keepIn K (.ref f) = true ∧ PySem.W.fnIn K f = true ∧ Binds K fd ps []
/-- a property of a class -/
structure Pro (P : Program) (w : World) (K : PySem.W.Frag) (mg : Str → Option Value) (base : Heap) (CX : CXT) (k : Nat) (C : Addr) (m : Str) (ps : List Str) (sp : Sp) : Prop where
  ex : ∃ p f fd, FnOk P w K mg base CX k f fd ps sp ∧ PropOf K C m p f ∧ Binds K fd ps []
/-- a class of the text -/
structure Kls (K : PySem.W.Frag) (mg : Str → Option Value) (x : Str) (C : Addr) : Prop where
  at_ : mg x = some (.ref C)
  cl : Cls K C
  ma : PySem.W.makesIn K C = true
  kp : PySem.W.keepIn K (.ref C) = true
  sf : PySem.W.selfFirst K C = true
  ic : C8.InsC K C
  ne : PySem.W.findIn K (.ref C) "__ne__" = some (some (.builtin "object.__ne__"))
section
variable {X : Cx} {CX : CXT} {k j : Nat} {C : Addr} {ps : List Str} {sp : Sp} {E : XK} {x m : Str} {p pos apos : Pos} {e o fe : Expr} {es : List Expr} {ta tf te : TE} {t : TA}
theorem run_code {pins : List (Addr × Obj)} {σ : L2.St} {H : Hp} {s : Shared} {f : Addr} {fd : FuncData} {Q : VK} {us : List Value} {vs : List V} (F : FnOk X.prog X.w X.K X.mg X.base CX k f fd ps sp) (hr : Room k X.A) (hb : Binds X.K fd ps [])
    (hx : Passes CX X E) (I : Inv X pins σ H s) (r : Vals vs us) (h : sp vs H Q E) :
    codeAny (model X.prog X.w) X.A (.call (.ref f) ⟨us, []⟩) (fun r s' => match r with | .ok (.ret v) => EP X pins σ Q v s' | .ok _ => False | .error e => X.xe e s') s := by
  have n : (us ++ ([] : List Value)).length = ps.length := by
    rw [List.append_nil, ← r.length]
    exact F.len _ _ _ _ h
  have b := hb s us I.kIn n
  rw [List.append_nil] at b
  apply codeAny_mono (F.run X.A X.stack s H ⟨us, []⟩ us vs Q E hr I.env0 b r h)
  intro res s2 q
  match res, q with
  | .error er, q => exact hx pins σ H s er s2 I q
  | .ok (.ret u), q => exact I.after q
/-- C(e, ..) -/
theorem pe_mk (c : Kls X.K X.mg x C) (F : Own X.prog X.w X.K X.mg X.base CX k C "__init__" ps sp) (hr : Room j X.A) (hx : Passes CX X E) (ha : PA X (e :: es) t) (hj : k + 1 ≤ j := by first | decide | omega) (hg : Gl X x := by rfl)
    (h1 : (x == ("__debug__" : Str)) = false := by decide) (h2 : starEach (e :: es) X.env = (false, eval e X.env) :: starEach es X.env := by rfl) (h3 : (backTo pos (starEach es X.env)).any (·.1) = false := by rfl) :
    PE X (.Call (.Name x p) (e :: es) [] pos) (tMake C sp [] E t) := by
  obtain ⟨f, fd, G, a1, a2, a3, _, b⟩ := F.ex
  exact pe_make ⟨c.ma, a1, a2, c.kp⟩ G (hr.mono hj) hg c.at_ b .nil hx ha h1 h2 h3
/-- o.m(e, ..), o.m() -/
theorem pe_mt (c : Kls X.K X.mg x C) (F : Own X.prog X.w X.K X.mg X.base CX k C m ps sp) (he : PE X o ta) (hr : Room j X.A) (hx : Passes CX X E) (ha : PA X (e :: es) t) (hj : k ≤ j := by first | decide | omega)
    {pl : Sem Bool} (hst : starEach (e :: es) X.env = (false, eval e X.env) :: starEach es X.env := by rfl) (hpl : (backTo pos (starEach es X.env)).any (·.1) = false := by rfl)
    (ht : eval (.Call (.Attribute o m apos) (e :: es) [] pos) X.env = (do
      let ov ← eval o X.env
      standAt apos.atName
      let (f, first) ← holding [ov] (getMethod ov m pl)
      callWith pos f first (backTo pos (starEach (e :: es) X.env)) (backToKw pos (keywordEach [] X.env))) := by rfl) :
    PE X (.Call (.Attribute o m apos) (e :: es) [] pos) (tMeth C m sp [] E ta t) := by
  obtain ⟨f, fd, G, a1, a2, a3, _, b⟩ := F.ex
  exact pe_meth he c.cl ⟨a1, a2, a3⟩ G (hr.mono hj) b .nil hx ha hst hpl ht
theorem pe_mt0 (c : Kls X.K X.mg x C) (F : Own X.prog X.w X.K X.mg X.base CX k C m ps sp) (he : PE X o ta) (hr : Room j X.A) (hx : Passes CX X E) (hj : k ≤ j := by first | decide | omega)
    {pl : Sem Bool} (ht : eval (.Call (.Attribute o m apos) [] [] pos) X.env = (do
      let ov ← eval o X.env
      standAt apos.atName
      let (f, first) ← holding [ov] (getMethod ov m pl)
      callWith pos f first (backTo pos (starEach [] X.env)) (backToKw pos (keywordEach [] X.env))) := by rfl) :
    PE X (.Call (.Attribute o m apos) [] [] pos) (tMeth C m sp [] E ta tNil) := by
  obtain ⟨f, fd, G, a1, a2, a3, _, b⟩ := F.ex
  exact pe_meth0 he c.cl ⟨a1, a2, a3⟩ G (hr.mono hj) b .nil hx ht
/-- o.f, a property -/
theorem pe_pr (c : Kls X.K X.mg x C) (F : Pro X.prog X.w X.K X.mg X.base CX k C m ps sp) (he : PE X o ta) (hr : Room j X.A) (hx : Passes CX X.nox E) (hj : k + 1 ≤ j := by first | decide | omega)
    (hab : attributeBase o m X.env (eval o X.env) = eval o X.env := by rfl) : PE X (.Attribute o m pos) (tProp C sp [] E ta) := by
  obtain ⟨q, f, fd, G, a1, b⟩ := F.ex
  exact pe_prop he c.cl a1 G (hr.mono hj) b .nil hx hab
/-- f(e, ..), f an instance of the class at C -/
def tCallI (C : Addr) (sp : Sp) (E : XK) (tf : TE) (t : TA) : TE := fun σ H Q => tf σ H fun y H1 => ∃ a, y = V.ref a ∧ t σ H1 fun vs H2 => (∃ dx fs, H2 a = some (.ins C dx fs)) ∧ sp (V.ref a :: vs) H2 Q E
theorem pe_in (F : Own X.prog X.w X.K X.mg X.base CX k C "__call__" ps sp) (hf : PE X fe tf) (hr : Room j X.A) (hx : Passes CX X E) (ha : PA X (e :: es) t) (hj : k ≤ j := by first | decide | omega)
    (ht : eval (.Call fe (e :: es) [] pos) X.env = (do callWith pos (← eval fe X.env) [] (backTo pos (starEach (e :: es) X.env)) (backToKw pos (keywordEach [] X.env))) := by rfl)
    (h2 : starEach (e :: es) X.env = (false, eval e X.env) :: starEach es X.env := by rfl) (h3 : (backTo pos (starEach es X.env)).any (·.1) = false := by rfl) : PE X (.Call fe (e :: es) [] pos) (tCallI C sp E tf t) := by
  obtain ⟨f, fd, G, a1, a2, a3, a4, b⟩ := F.ex
  constructor
  intro pins s σ H Q I h
  refine Call_ (thn (hf.run pins s σ H _ I h) ?_) ht
  rintro u s1 ⟨y, H1, I1, ry, a, rfl, q⟩
  obtain rfl : u = Value.ref a := ry
  refine StX.callO_with (thn (ha.run pos pins s1 σ H1 _ I1 q) ?_) h2 h3
  rintro us s2 ⟨vs, H2, I2, r, hi, q2⟩
  obtain ⟨ox, od, J, hd⟩ := StX.insC_at I2 (.inr hi)
  exact ⟨⟨C, ox, od, J, hd⟩, wpAny_call (PySem.W.kco_code I2.kIn J hd a1 a2 a4 (run_code (us := .ref a :: us) (vs := .ref a :: vs) G (hr.mono hj) b hx I2 (.cons rfl r) q2))⟩
/-- x op y, both instances of the class at C -/
def rOwnB (C : Addr) (sp : Sp) (E : XK) : R2 := fun x y H Q => ∃ a b dx fs dy gs, x = .ref a ∧ y = .ref b ∧ H a = some (.ins C dx fs) ∧ H b = some (.ins C dy gs) ∧ sp [x, y] H Q E
theorem op_ownB {op : Operator} (c : Kls X.K X.mg x C) (F : Own X.prog X.w X.K X.mg X.base CX k C (PySem.dunder op.info.2) ps sp) (hr : Room j X.A) (hx : Passes CX X E) (hj : k ≤ j := by first | decide | omega) : OpR X (binaryOp op) (rOwnB C sp E) := by
  obtain ⟨f, fd, G, a1, a2, a3, a4, bb⟩ := F.ex
  intro pins s σ H u v ov iv Q I ru rv h
  obtain ⟨a, b, dx, fs, dy, gs, rfl, rfl, ha, hb, q⟩ := h
  cases (show ov = Value.ref a from ru)
  cases (show iv = Value.ref b from rv)
  obtain ⟨_, O, _⟩ := ins_get I.hok ha
  obtain ⟨od, J, _⟩ := O.look
  obtain ⟨_, O', _⟩ := ins_get I.hok hb
  obtain ⟨od', J', _⟩ := O'.look
  obtain ⟨_, hF⟩ := I.fr
  refine PySem.W.binop_K (op := op) hF I.ok.mod.kin J J'.type c.sf a1 a2 ?_
  refine wpAny_mono (run_fn (us := [.ref a, .ref b]) (vs := [.ref a, .ref b]) G (hr.mono hj) bb .nil hx I (.cons rfl (.cons rfl .nil)) q) ?_ fun _ _ z => z
  rintro w s' ⟨z, H', I', rz, qz⟩
  exact SlX.cmpback rz ⟨z, H', I', rz, qz⟩
/-- o op= y, o an instance of the class at C -/
def ipOwn (C : Addr) (sp : Sp) (E : XK) : TIp := fun x y H Q => ∃ a dx fs, x = .ref a ∧ H a = some (.ins C dx fs) ∧ sp [x, y] H Q E
theorem ip_own {op : Operator} (c : Kls X.K X.mg x C) (F : Own X.prog X.w X.K X.mg X.base CX k C (dunderI op.info.2) ps sp) (hr : Room j X.A) (hx : Passes CX X E) (hj : k ≤ j := by first | decide | omega) : PIp X op (ipOwn C sp E) := by
  obtain ⟨f, fd, G, a1, a2, a3, a4, bb⟩ := F.ex
  intro pins s σ H u v ov iv Q I ru rv h
  obtain ⟨a, dx, fs, rfl, ha, q⟩ := h
  cases (show ov = Value.ref a from ru)
  obtain ⟨_, O, _⟩ := ins_get I.hok ha
  obtain ⟨od, J, _⟩ := O.look
  obtain ⟨_, hF⟩ := I.fr
  refine PySem.W.ksp_inplace (op := op) hF I.ok.mod.kin J c.sf a1 a2 ?_
  refine wpAny_mono (run_fn (us := [.ref a, iv]) (vs := [.ref a, v]) G (hr.mono hj) bb .nil hx I (.cons rfl (.cons rv .nil)) q) ?_ fun _ _ z => z
  rintro w s' ⟨z, H', I', rz, qz⟩
  exact SlX.cmpback rz ⟨z, H', I', rz, qz⟩
end
end Pk
set_option Elab.async false
set_option linter.all false
set_option maxRecDepth 100000
set_option maxHeartbeats 2000000
namespace Pk
open PySem PySem.Spec L2 PyProof.Rows
/-- where the package's classes stand -/
structure Cs where
  PipeError : Addr
  Wrong : Addr
  TooMany : Addr
  Overdrawn : Addr
  NotPassed : Addr
  Rule : Addr
  Account : Addr
  at_least : Addr := 0
theorem iteT' {c : Bool} {A B : Prop} (e : c = true) (h : A) : if c = true then A else B := by
  rw [if_pos e]
  exact h
theorem iteF' {c : Bool} {A B : Prop} (e : c = false) (h : B) : if c = true then A else B := by
  rw [if_neg (by rw [e]; decide)]
  exact h
theorem vals_ints1 {i : Int} (t : Tok) : Vals [.int i] [.int i t] := .cons ⟨t, rfl⟩ .nil
/-! ### trees of rules -/
inductive Tr where
  | at (t q : Int)
  | or (a b : Tr)
  | and (a b : Tr)
namespace Tr
def lv : Tr → Nat
  | .at _ _ => 1
  | .or a b => lv a + lv b
  | .and a b => lv a + lv b
def dp : Tr → Nat
  | .at _ _ => 1
  | .or a b => max (dp a) (dp b) + 1
  | .and a b => max (dp a) (dp b) + 1
/-- nodes -/
def nd : Tr → Nat
  | .at _ _ => 1
  | .or a b => nd a + nd b + 1
  | .and a b => nd a + nd b + 1
def ok : Tr → Prop
  | .at t q => 1 ≤ t ∧ t ≤ 10 ^ 50 ∧ 1 ≤ q ∧ q ≤ 6
  | .or a b => ok a ∧ ok b
  | .and a b => ok a ∧ ok b
def give : Tr → Int → Int
  | .at t q, i => if t ≤ i then i - i % q else 0
  | .or a b, i => if give b i > give a i then give b i else give a i
  | .and a b, i => if give b i < give a i then give b i else give a i
def starts : Tr → List Int
  | .at t _ => [t]
  | .or a b => starts a ++ starts b
  | .and a b => starts a ++ starts b
def pd : Tr → PyData
  | .at t q => .tuple [.str "at", .int t, .int q]
  | .or a b => .tuple [.str "or", pd a, pd b]
  | .and a b => .tuple [.str "and", pd a, pd b]
theorem lv_pos : ∀ T : Tr, 1 ≤ lv T
  | .at _ _ => Nat.le_refl _
  | .or a b => Nat.le_trans (lv_pos a) (Nat.le_add_right _ _)
  | .and a b => Nat.le_trans (lv_pos a) (Nat.le_add_right _ _)
theorem dp_le : ∀ T : Tr, dp T ≤ lv T
  | .at _ _ => Nat.le_refl _
  | .or a b => by
    have h1 := dp_le a
    have h2 := dp_le b
    have h3 := lv_pos a
    have h4 := lv_pos b
    show max (dp a) (dp b) + 1 ≤ lv a + lv b
    omega
  | .and a b => by
    have h1 := dp_le a
    have h2 := dp_le b
    have h3 := lv_pos a
    have h4 := lv_pos b
    show max (dp a) (dp b) + 1 ≤ lv a + lv b
    omega
theorem dp_pos (T : Tr) : 1 ≤ dp T := by cases T <;> (unfold dp; omega)
theorem starts_len : ∀ T : Tr, (starts T).length = lv T
  | .at _ _ => rfl
  | .or a b => by show (starts a ++ starts b).length = _; rw [List.length_append, starts_len a, starts_len b]; rfl
  | .and a b => by show (starts a ++ starts b).length = _; rw [List.length_append, starts_len a, starts_len b]; rfl
/-- a tree as data: its depth, its text -/
theorem pd_depth : ∀ T : Tr, (pd T).depth ≤ dp T
  | .at t q => by show (PyData.tuple [.str "at", .int t, .int q]).depth ≤ 1; simp [PyData.depth, PyData.depthAll]
  | .or a b => by
    have h1 := pd_depth a
    have h2 := pd_depth b
    show (PyData.tuple [.str "or", pd a, pd b]).depth ≤ max (dp a) (dp b) + 1
    simp only [PyData.depth, PyData.depthAll]
    omega
  | .and a b => by
    have h1 := pd_depth a
    have h2 := pd_depth b
    show (PyData.tuple [.str "and", pd a, pd b]).depth ≤ max (dp a) (dp b) + 1
    simp only [PyData.depth, PyData.depthAll]
    omega
theorem pd_lay : ∀ T : Tr, (pd T).canLay0 = true
  | .at t q => by show (PyData.tuple [.str "at", .int t, .int q]).canLay0 = true; simp only [PyData.canLay0, PyData.canLayAll0]; decide +kernel
  | .or a b => by
    show (PyData.tuple [.str "or", pd a, pd b]).canLay0 = true
    simp only [PyData.canLay0, PyData.canLayAll0, pd_lay a, pd_lay b]; decide +kernel
  | .and a b => by
    show (PyData.tuple [.str "and", pd a, pd b]).canLay0 = true
    simp only [PyData.canLay0, PyData.canLayAll0, pd_lay a, pd_lay b]; decide +kernel
theorem log_ok {n : Int} (h0 : 0 ≤ n) (h1 : n ≤ 10 ^ 100) : n.natAbs.log2 < 1920 := by
  have h2 : n.natAbs < 2 ^ 1920 := by
    have z : n.natAbs ≤ 10 ^ 100 := by omega
    have z2 : (10 : Nat) ^ 100 < 2 ^ 1920 := by decide +kernel
    omega
  by_cases e : n.natAbs = 0
  · rw [e]; decide
  · exact (Nat.log2_lt e).mpr h2
theorem pd_show : ∀ T : Tr, ok T → (pd T).showable = true
  | .at t q, h => by
    obtain ⟨h1, h2, h3, h4⟩ := h
    show (PyData.tuple [.str "at", .int t, .int q]).showable = true
    have e1 : decide (t.natAbs.log2 < 1920) = true := decide_eq_true (log_ok (by omega) (by omega))
    have e2 : decide (q.natAbs.log2 < 1920) = true := decide_eq_true (log_ok (by omega) (by omega))
    simp only [PyData.showable, PyData.showableAll, e1, e2]; decide
  | .or a b, h => by
    show (PyData.tuple [.str "or", pd a, pd b]).showable = true
    simp only [PyData.showable, PyData.showableAll, pd_show a h.1, pd_show b h.2]; decide
  | .and a b, h => by
    show (PyData.tuple [.str "and", pd a, pd b]).showable = true
    simp only [PyData.showable, PyData.showableAll, pd_show a h.1, pd_show b h.2]; decide
theorem pd_siz : ∀ T : Tr, siz (pd T) + 100 ≤ 5000 * lv T
  | .at t q => by
    show siz (PyData.tuple [.str "at", .int t, .int q]) + 100 ≤ 5000 * 1
    have e : ((Str.ofString "at").length) = 2 := rfl
    simp only [siz, sizL]
    omega
  | .or a b => by
    have h1 := pd_siz a
    have h2 := pd_siz b
    have h3 := lv_pos a
    show siz (PyData.tuple [.str "or", pd a, pd b]) + 100 ≤ 5000 * (lv a + lv b)
    have e : ((Str.ofString "or").length) = 2 := rfl
    simp only [siz, sizL]
    omega
  | .and a b => by
    have h1 := pd_siz a
    have h2 := pd_siz b
    have h3 := lv_pos a
    show siz (PyData.tuple [.str "and", pd a, pd b]) + 100 ≤ 5000 * (lv a + lv b)
    have e : ((Str.ofString "and").length) = 3 := rfl
    simp only [siz, sizL]
    omega
end Tr
/-! ### trees in the heap -/
def TrAt (K : PySem.W.Frag) (H : Hp) : V → Tr → Prop
  | v, .at t q => ∃ a, v = .ref a ∧ SqT K H a [.str "at", .int t, .int q]
  | v, .or x y => ∃ a u w, v = .ref a ∧ SqT K H a [.str "or", u, w] ∧ TrAt K H u x ∧ TrAt K H w y
  | v, .and x y => ∃ a u w, v = .ref a ∧ SqT K H a [.str "and", u, w] ∧ TrAt K H u x ∧ TrAt K H w y
/-- tuples stay -/
def Tups (K : PySem.W.Frag) (H H' : Hp) : Prop := ∀ a xs, SqT K H a xs → SqT K H' a xs
section
variable {K : PySem.W.Frag} {H H' : Hp} {v : V} {T : Tr}
theorem TrAt.mono (s : Tups K H H') : ∀ {T : Tr} {v : V}, TrAt K H v T → TrAt K H' v T
  | .at t q, _, ⟨a, e, h⟩ => ⟨a, e, s _ _ h⟩
  | .or x y, _, ⟨a, u, w, e, h, h1, h2⟩ => ⟨a, u, w, e, s _ _ h, TrAt.mono s h1, TrAt.mono s h2⟩
  | .and x y, _, ⟨a, u, w, e, h, h1, h2⟩ => ⟨a, u, w, e, s _ _ h, TrAt.mono s h1, TrAt.mono s h2⟩
theorem Tups.same (s : Same H H') : Tups K H H' := fun a xs h => by
  rcases h with (h | ⟨o, h⟩) | h
  · exact .inl (.inl (s _ _ h))
  · exact .inl (.inr ⟨o, s _ _ h⟩)
  · exact .inr h
theorem Tups.kp {b : Addr} {ys : List V} (k : Kp b H H') (hb : H b = some (.lst ys)) : Tups K H H' := fun a xs h => k.tup hb h
theorem Tups.trans {H2 : Hp} (a : Tups K H H') (b : Tups K H' H2) : Tups K H H2 := fun x xs h => b x xs (a x xs h)
/-- an object that is no tuple is written -/
theorem Tups.put {p : Addr} {o u : HO} (h : H p = some u) (nt : ∀ xs, u ≠ .tup xs) (nf : ∀ ob xs, u ≠ .frz ob (.tup xs)) : Tups K H (upd H p o) := fun a xs q => by
  rcases q with (q | ⟨ob, q⟩) | q
  · exact .inl (.inl (by rw [upd_ne (ne_of q h fun e => nt _ e.symm)]; exact q))
  · exact .inl (.inr ⟨ob, by rw [upd_ne (ne_of q h fun e => nf _ _ e.symm)]; exact q⟩)
  · exact .inr q
theorem TrAt.ref (h : TrAt K H v T) : ∃ a, v = .ref a := by
  cases T with
  | «at» t q => obtain ⟨a, e, _⟩ := h; exact ⟨a, e⟩
  | or x y => obtain ⟨a, _, _, e, _⟩ := h; exact ⟨a, e⟩
  | and x y => obtain ⟨a, _, _, e, _⟩ := h; exact ⟨a, e⟩
theorem TrAt.dp : ∀ {T : Tr} {v : V}, TrAt K H v T → Dp K H v T.pd
  | .at t q, _, ⟨a, e, h⟩ => by subst e; exact .tup h (.cons (.str _) (.cons (.int _) (.cons (.int _) .nil)))
  | .or x y, _, ⟨a, u, w, e, h, h1, h2⟩ => by subst e; exact .tup h (.cons (.str _) (.cons (TrAt.dp h1) (.cons (TrAt.dp h2) .nil)))
  | .and x y, _, ⟨a, u, w, e, h, h1, h2⟩ => by subst e; exact .tup h (.cons (.str _) (.cons (TrAt.dp h1) (.cons (TrAt.dp h2) .nil)))
/-- what a tree's tuple is -/
theorem TrAt.tuple (h : TrAt K H v T) : ∃ a w x y, v = .ref a ∧ SqT K H a [.str w, x, y] ∧
    ((w = "at" ∧ ∃ t q, T = .at t q ∧ x = .int t ∧ y = .int q) ∨ (w = "or" ∧ ∃ A B, T = .or A B ∧ TrAt K H x A ∧ TrAt K H y B) ∨ (w = "and" ∧ ∃ A B, T = .and A B ∧ TrAt K H x A ∧ TrAt K H y B)) := by
  cases T with
  | «at» t q => obtain ⟨a, e, s⟩ := h; exact ⟨a, _, _, _, e, s, .inl ⟨rfl, t, q, rfl, rfl, rfl⟩⟩
  | or x y => obtain ⟨a, u, w, e, s, h1, h2⟩ := h; exact ⟨a, _, _, _, e, s, .inr (.inl ⟨rfl, x, y, rfl, h1, h2⟩)⟩
  | and x y => obtain ⟨a, u, w, e, s, h1, h2⟩ := h; exact ⟨a, _, _, _, e, s, .inr (.inr ⟨rfl, x, y, rfl, h1, h2⟩)⟩
end
end Pk
set_option Elab.async false
set_option linter.all false
set_option maxRecDepth 100000
set_option maxHeartbeats 2000000
namespace Pk
open PySem PySem.Spec L2 PyProof.Rows
section
variable {K : PySem.W.Frag} {C : Cs} {vs : List V} {H H' : Hp} {Q : VK} {E : XK} {n : Nat}
/-! ### numbers -/
def sp_is_integer (K : PySem.W.Frag) : Sp := fun vs H Q _ => ∃ i, vs = [.int i] ∧ Q (.bl true) H
def t_is_integer (K : PySem.W.Frag) : TS :=
  (tRet (tAndV (tCB (rIsi K) (tCons (tVar 0) (tCons (tC (.ty "int")) tNil))) (tNotV (tCB (rIsi K) (tCons (tVar 0) (tCons (tC (.ty "bool")) tNil))))))
theorem ln_is_integer (h : sp_is_integer K vs H Q E) : vs.length = 1 := by obtain ⟨_, rfl, _⟩ := h; rfl
theorem kit_ii {K : PySem.W.Frag} : PySem.W.kitOne K (.type "int") (.type "int") = some true := kit_ty (by decide +kernel)
theorem kit_ib {K : PySem.W.Frag} : PySem.W.kitOne K (.type "int") (.type "bool") = some false := kit_ty (by decide +kernel)
theorem kit_tt {K : PySem.W.Frag} : PySem.W.kitOne K (.type "tuple") (.type "tuple") = some true := kit_ty (by decide +kernel)
theorem kit_ss {K : PySem.W.Frag} : PySem.W.kitOne K (.type "str") (.type "str") = some true := kit_ty (by decide +kernel)
theorem rd_is_integer (h : sp_is_integer K vs H Q E) : t_is_integer K (EndsOf Q) (start [""] vs) H := by
  obtain ⟨i, rfl, k⟩ := h
  refine ⟨_, rfl, _, _, _, _, true, rfl, .ty _, .base (.int i), kit_ii, true, rfl, ?_⟩
  exact ⟨_, rfl, _, _, _, _, false, rfl, .ty _, .base (.int i), kit_ib, false, rfl, k⟩
def sp_is_number (K : PySem.W.Frag) : Sp := fun vs H Q _ => ∃ l i, vs = [.int l, .int i] ∧ Q (.bl (decide (l ≤ i))) H
def t_is_number (K : PySem.W.Frag) : TS :=
  (tRet (tAndV (tCall (sp_is_integer K) [] E0 (tCons (tVar 1) tNil)) (tOp (rGeI) (tVar 1) (tVar 0))))
theorem ln_is_number (h : sp_is_number K vs H Q E) : vs.length = 2 := by obtain ⟨_, _, rfl, _⟩ := h; rfl
theorem rd_is_number (h : sp_is_number K vs H Q E) : t_is_number K (EndsOf Q) (start ["", ""] vs) H := by
  obtain ⟨l, i, rfl, k⟩ := h
  exact ⟨_, rfl, i, rfl, true, rfl, _, rfl, _, rfl, _, _, rfl, rfl, k⟩
def sp_is_by (K : PySem.W.Frag) : Sp := fun vs H Q _ => ∃ i, vs = [.int i] ∧ Q (.bl (decide (1 ≤ i) && decide (i ≤ 6))) H
def t_is_by (K : PySem.W.Frag) : TS :=
  (tRet (tAndV (tCall (sp_is_number K) [] E0 (tCons (tC (.int 1)) (tCons (tVar 0) tNil))) (tOp (rLeU) (tVar 0) (tC (.int 6)))))
theorem ln_is_by (h : sp_is_by K vs H Q E) : vs.length = 1 := by obtain ⟨_, rfl, _⟩ := h; rfl
theorem rd_is_by (h : sp_is_by K vs H Q E) : t_is_by K (EndsOf Q) (start [""] vs) H := by
  obtain ⟨i, rfl, k⟩ := h
  refine ⟨_, rfl, 1, i, rfl, _, rfl, ?_⟩
  cases hb : decide ((1 : Int) ≤ i) with
  | false => rw [hb] at k; exact k
  | true => rw [hb] at k; exact ⟨_, rfl, .inl ⟨_, _, rfl, rfl, k⟩⟩
/-! ### trees -/
def Tr.word : Tr → Str
  | .at _ _ => "at"
  | .or _ _ => "or"
  | .and _ _ => "and"
def Tr.isAt : Tr → Bool
  | .at _ _ => true
  | _ => false
def sp_has_word (K : PySem.W.Frag) : Sp := fun vs H Q _ => ∃ (v : V) (T : Tr) (p : Addr) (ws : List Str), vs = [v, .ref p] ∧ TrAt K H v T ∧ SqT K H p (ws.map V.str) ∧ Q (.bl (inV (.str T.word) (ws.map V.str))) H
def t_has_word (K : PySem.W.Frag) : TS :=
  (tSeq (tIfS (tOr (tNot (tB (tCB (rIsi K) (tCons (tVar 0) (tCons (tC (.ty "tuple")) tNil))))) (tTest (tOp (rNeU K) (tCB (rLenU K) (tCons (tVar 0) tNil)) (tC (.int 3))))) (tRet (tC (.bl false))) tNext)
    (tRet (tAndV (tCB (rIsi K) (tCons (tOp (rIx K) (tVar 0) (tC (.int 0))) (tCons (tC (.ty "str")) tNil))) (tOp (rInU K) (tOp (rIx K) (tVar 0) (tC (.int 0))) (tVar 1)))))
theorem ln_has_word (h : sp_has_word K vs H Q E) : vs.length = 2 := by obtain ⟨_, _, _, _, rfl, _⟩ := h; rfl
theorem flat_strs (ws : List Str) : (ws.map V.str).all flatV = true := by
  induction ws with
  | nil => rfl
  | cons x r ih => exact ih
theorem sqt_ty {a : Addr} {xs : List V} (h : SqT K H a xs) : TyX K H (.ref a) (.type "tuple") := by
  rcases h with (h | ⟨o, h⟩) | ⟨o, its, n, h, c, _⟩
  · exact .base (.tup h)
  · exact .fTuple h
  · exact .kTuple h c
theorem rd_has_word (h : sp_has_word K vs H Q E) : t_has_word K (EndsOf Q) (start ["", ""] vs) H := by
  obtain ⟨v, T, p, ws, rfl, hT, hp, k⟩ := h
  obtain ⟨a, w, x, y, rfl, s, cw⟩ := hT.tuple
  have ew : w = T.word := by
    rcases cw with ⟨rfl, _, _, rfl, _⟩ | ⟨rfl, _, _, rfl, _⟩ | ⟨rfl, _, _, rfl, _⟩ <;> rfl
  subst ew
  refine ⟨_, rfl, _, _, _, _, true, rfl, .ty _, sqt_ty s, kit_tt, true, rfl, ?_⟩
  refine ⟨_, rfl, .inl ⟨_, 3, rfl, .inr ⟨_, s, rfl⟩, .inl ⟨rfl, _, rfl, ?_⟩⟩⟩
  refine ⟨_, rfl, .inr (.inl ⟨a, _, 0, _, rfl, rfl, s, rfl, ?_⟩)⟩
  refine ⟨_, _, _, _, true, rfl, .ty _, .base (.str _), kit_ss, true, rfl, ?_⟩
  refine ⟨_, rfl, .inr (.inl ⟨a, _, 0, _, rfl, rfl, s, rfl, ?_⟩)⟩
  exact ⟨_, rfl, .inl ⟨p, _, rfl, .inr hp, rfl, flat_strs ws, k⟩⟩
def sp_is_leaf (K : PySem.W.Frag) : Sp := fun vs H Q _ => ∃ v T, vs = [v] ∧ TrAt K H v T ∧ T.ok ∧ ∀ H', Same H H' → Q (.bl T.isAt) H'
def t_is_leaf (K : PySem.W.Frag) : TS :=
  (tRet (tAndV (tCall (sp_has_word K) [] E0 (tCons (tVar 0) (tCons (tTup (tCons (tC (.str "at")) tNil)) tNil))) (tAndV (tCall (sp_is_number K) [] E0 (tCons (tC (.int 1)) (tCons (tOp (rIx K) (tVar 0) (tC (.int 1))) tNil))) (tCall (sp_is_by K) [] E0 (tCons (tOp (rIx K) (tVar 0) (tC (.int 2))) tNil)))))
theorem ln_is_leaf (h : sp_is_leaf K vs H Q E) : vs.length = 1 := by obtain ⟨_, _, rfl, _⟩ := h; rfl
theorem two_fit : (1 : Nat) ≤ sizeLine ∧ (2 : Nat) ≤ sizeLine ∧ (3 : Nat) ≤ sizeLine ∧ (4 : Nat) ≤ sizeLine := by decide
theorem rd_is_leaf (h : sp_is_leaf K vs H Q E) : t_is_leaf K (EndsOf Q) (start [""] vs) H := by
  obtain ⟨v, T, rfl, hT, ok, k⟩ := h
  refine ⟨_, rfl, two_fit.1, fun p hp => ?_⟩
  have s := same_new (o := .tup [.str "at"]) hp
  have hT' := hT.mono (Tups.same s)
  refine ⟨v, T, p, ["at"], rfl, hT', SqT.of upd_same, _, rfl, ?_⟩
  obtain ⟨a, w, x, y, rfl, sq, cw⟩ := hT'.tuple
  rcases cw with ⟨rfl, t, q, rfl, rfl, rfl⟩ | ⟨rfl, A, B, rfl, _⟩ | ⟨rfl, A, B, rfl, _⟩
  · obtain ⟨o1, o2, o3, o4⟩ := ok
    refine iteT' (show inV (V.str "at") [V.str "at"] = true by decide +kernel) ?_
    refine ⟨_, rfl, .inr (.inl ⟨a, _, 1, _, rfl, rfl, sq, rfl, 1, t, rfl, _, rfl, ?_⟩)⟩
    rw [decide_eq_true o1]
    refine iteT' rfl ?_
    refine ⟨_, rfl, .inr (.inl ⟨a, _, 2, _, rfl, rfl, sq, rfl, q, rfl, ?_⟩)⟩
    rw [decide_eq_true o3, decide_eq_true o4]
    exact k _ s
  · refine iteF' (show inV (V.str "or") [V.str "at"] = false by decide +kernel) ?_
    exact k _ s
  · refine iteF' (show inV (V.str "and") [V.str "at"] = false by decide +kernel) ?_
    exact k _ s
/-! the stack of is_tree: values and trees -/
abbrev Ps := List (V × Tr)
def Ps.lvs (zs : Ps) : Nat := (zs.map fun z => z.2.lv).sum
def Ps.nds (zs : Ps) : Nat := (zs.map fun z => z.2.nd).sum
def Ps.At (K : PySem.W.Frag) (H : Hp) (zs : Ps) : Prop := ∀ z ∈ zs, TrAt K H z.1 z.2 ∧ z.2.ok
theorem Ps.At.mono {zs : Ps} (h : Ps.At K H zs) (s : Tups K H H') : Ps.At K H' zs := fun z hz => ⟨(h z hz).1.mono s, (h z hz).2⟩
theorem Ps.lvs_app (a b : Ps) : Ps.lvs (a ++ b) = Ps.lvs a + Ps.lvs b := by unfold Ps.lvs; rw [List.map_append, List.sum_append]
theorem Ps.nds_app (a b : Ps) : Ps.nds (a ++ b) = Ps.nds a + Ps.nds b := by unfold Ps.nds; rw [List.map_append, List.sum_append]
theorem Ps.len_le : ∀ zs : Ps, zs.length ≤ Ps.lvs zs
  | [] => Nat.le_refl _
  | z :: r => by
    have h1 := Ps.len_le r
    have h2 := z.2.lv_pos
    show r.length + 1 ≤ (z.2.lv :: (r.map fun z => z.2.lv)).sum
    rw [List.sum_cons]
    unfold Ps.lvs at h1
    omega
theorem nil_or_last {α : Type} (l : List α) : l = [] ∨ ∃ r x, l = r ++ [x] := by
  cases h : l.reverse with
  | nil => left; exact List.reverse_eq_nil_iff.mp h
  | cons x r => right; exact ⟨r.reverse, x, by rw [← List.reverse_cons, ← h, List.reverse_reverse]⟩
def sp_is_tree (K : PySem.W.Frag) : Sp := fun vs H Q _ => ∃ v T, vs = [v] ∧ TrAt K H v T ∧ T.ok ∧ T.lv ≤ 6 ∧ ∀ H', Same H H' → Q (.bl true) H'
def t_is_tree (K : PySem.W.Frag) : TS :=
  (tSeq (tAsg (tLst (tCons (tVar 0) tNil)) (gName 1))
    (tSeq (tAsg (tC (.int 0)) (gName 2))
    (tSeq (tWhile (tTest (tOp (rGtI) (tCB (rLenU K) (tCons (tVar 1) tNil)) (tC (.int 0)))) (tSeq (tAsg (tBM0 K "list" rPop (tVar 1)) (gName 3))
    (Evl.tCut (tIfS (tB (tCall (sp_is_leaf K) [] E0 (tCons (tVar 3) tNil))) (tAsg (tOp (rAddU K) (tVar 2) (tC (.int 1))) (gName 2)) (tIfS (tB (tCall (sp_has_word K) [] E0 (tCons (tVar 3) (tCons (tTup (tCons (tC (.str "or")) (tCons (tC (.str "and")) tNil))) tNil)))) (tSeq (tDrop (tBM K "list" rAppend (tVar 1) (tCons (tOp (rIx K) (tVar 3) (tC (.int 1))) tNil)))
    (tDrop (tBM K "list" rAppend (tVar 1) (tCons (tOp (rIx K) (tVar 3) (tC (.int 2))) tNil)))) (tRet (tC (.bl false)))))
    (tIfS (tTest (tOp (rGtI) (tOp (rAddU K) (tVar 2) (tCB (rLenU K) (tCons (tVar 1) tNil))) (tC (.int 6)))) (tRet (tC (.bl false))) tNext))))
    (tRet (tC (.bl true))))))
theorem ln_is_tree (h : sp_is_tree K vs H Q E) : vs.length = 1 := by obtain ⟨_, _, rfl, _⟩ := h; rfl
theorem rd_is_tree (h : sp_is_tree K vs H Q E) : t_is_tree K (EndsOf Q) (start ["", "", "", ""] vs) H := by
  obtain ⟨v, T, rfl, hT, ok, l6, k⟩ := h
  refine ⟨_, rfl, two_fit.1, fun w hw => ?_⟩
  have s0 := same_new (o := .lst [v]) hw
  refine ⟨fun m σ' H' => ∃ (zs : Ps) (lf : Nat) (pt : Option V), σ' = [some v, some (.ref w), some (.int lf), pt] ∧ H' w = some (.lst (zs.map (·.1))) ∧ Ps.At K H' zs ∧ lf + zs.lvs = T.lv ∧ Same H H' ∧ m = zs.nds,
    ⟨_, [(v, T)], 0, none, rfl, upd_same, fun z hz => ?_, ?_, s0, rfl⟩, ?_⟩
  · rw [List.mem_singleton.mp hz]
    exact ⟨hT.mono (Tups.same s0), ok⟩
  · show 0 + (T.lv + 0) = T.lv
    omega
  rintro m σ' H' ⟨zs, lf, pt, rfl, hwl, hz, hl, s, rfl⟩
  refine ⟨_, rfl, .inl ⟨_, _, rfl, .inl ⟨_, SqL.of hwl, rfl⟩, _, _, rfl, rfl, _, rfl, ?_⟩⟩
  rw [List.length_map]
  rcases nil_or_last zs with rfl | ⟨rs, ⟨u, S⟩, rfl⟩
  · refine iteF' (by decide) ?_
    exact k H' s
  refine iteT' (decide_eq_true (by rw [List.length_append, List.length_singleton]; omega)) ?_
  obtain ⟨hu, hok⟩ := hz (u, S) (List.mem_append_right _ (List.mem_singleton.mpr rfl))
  have hu : TrAt K H' u S := hu
  have hok : S.ok := hok
  have e1 : (rs ++ [(u, S)]).map (·.1) = rs.map (·.1) ++ [u] := by rw [List.map_append]; rfl
  rw [e1] at hwl
  refine ⟨fun σ2 H2 => ∃ (zs : Ps) (lf : Nat) (pt : Option V), σ2 = [some v, some (.ref w), some (.int lf), pt] ∧ H2 w = some (.lst (zs.map (·.1))) ∧ Ps.At K H2 zs ∧ lf + zs.lvs = T.lv ∧ Same H H2 ∧ zs.nds < Ps.nds (rs ++ [(u, S)]), fun σ2 H2 ⟨zs, lf, pt, a1, a2, a3, a4, a5, a6⟩ => ⟨_, a6, zs, lf, pt, a1, a2, a3, a4, a5, rfl⟩, ?_⟩
  -- part = waiting.pop()
  refine ⟨_, rfl, .inl ⟨rfl, _, SqL.of hwl⟩, w, _, u, rfl, rfl, hwl, ?_, ?_⟩
  · rw [List.length_append, List.length_singleton, Nat.add_sub_cancel, List.getElem?_append_right (Nat.le_refl _), Nat.sub_self]
    rfl
  rw [List.dropLast_concat]
  have tp : Tups K H' (upd H' w (.lst (rs.map (·.1)))) := Tups.put hwl (fun _ z => nomatch z) fun _ _ z => nomatch z
  have s1 : Same H (upd H' w (.lst (rs.map (·.1)))) := fun b o e => by rw [upd_ne (ne_of_none e hw)]; exact s b o e
  have hrs : Ps.At K (upd H' w (.lst (rs.map (·.1)))) rs := fun z q => ⟨(hz z (List.mem_append_left _ q)).1.mono tp, (hz z (List.mem_append_left _ q)).2⟩
  have hu1 := hu.mono tp
  have hw1 : (upd H' w (.lst (rs.map (·.1)))) w = some (.lst (rs.map (·.1))) := upd_same
  rw [Ps.lvs_app] at hl
  have hS : Ps.lvs [(u, S)] = S.lv := by show S.lv + 0 = S.lv; omega
  have hN : Ps.nds [(u, S)] = S.nd := by show S.nd + 0 = S.nd; omega
  rw [hS] at hl
  rw [Ps.nds_app, hN]
  generalize upd H' w (.lst (rs.map (·.1))) = G at s1 hrs hu1 hw1 ⊢
  -- is it a leaf, is it two trees
  refine ⟨fun σ2 H2 => ∃ (zs : Ps) (lf : Nat), σ2 = [some v, some (.ref w), some (.int lf), some u] ∧ H2 w = some (.lst (zs.map (·.1))) ∧ Ps.At K H2 zs ∧ lf + zs.lvs = T.lv ∧ Same H H2 ∧ Ps.nds zs < Ps.nds rs + S.nd, ?_, ?_⟩
  · refine ⟨_, rfl, u, S, rfl, hu1, hok, fun G1 g1 => ⟨_, rfl, ?_⟩⟩
    have hu2 := hu1.mono (Tups.same g1)
    obtain ⟨a, wd, x, y, rfl, sq, cw⟩ := hu2.tuple
    rcases cw with ⟨rfl, t, q, rfl, rfl, rfl⟩ | cw
    · refine iteT' rfl ?_
      refine ⟨_, rfl, .inl ⟨_, _, rfl, rfl, ?_⟩⟩
      exact ⟨rs, lf + 1, rfl, g1 _ _ hw1, hrs.mono (Tups.same g1), by have h1 : (Tr.at t q).lv = 1 := rfl; omega, s1.trans g1, by have h1 : (Tr.at t q).nd = 1 := rfl; omega⟩
    obtain ⟨A, B, hAB, hA, hB, oA, oB, eL, eN, hin⟩ : ∃ A B, S.isAt = false ∧ TrAt K G1 x A ∧ TrAt K G1 y B ∧ A.ok ∧ B.ok ∧ S.lv = A.lv + B.lv ∧ S.nd = A.nd + B.nd + 1 ∧ inV (.str S.word) (([("or" : Str), ("and" : Str)] : List Str).map V.str) = true := by
      rcases cw with ⟨rfl, A, B, rfl, hA, hB⟩ | ⟨rfl, A, B, rfl, hA, hB⟩
      · exact ⟨A, B, rfl, hA, hB, hok.1, hok.2, rfl, rfl, show inV (V.str "or") [V.str "or", V.str "and"] = true by decide +kernel⟩
      · exact ⟨A, B, rfl, hA, hB, hok.1, hok.2, rfl, rfl, show inV (V.str "and") [V.str "or", V.str "and"] = true by decide +kernel⟩
    refine iteF' hAB ?_
    refine ⟨_, rfl, two_fit.2.1, fun p hp => ?_⟩
    have g2 := same_new (o := .tup [.str "or", .str "and"]) hp
    refine ⟨_, S, p, ["or", "and"], rfl, hu2.mono (Tups.same g2), SqT.of upd_same, _, rfl, ?_⟩
    refine iteT' hin ?_
    have hw2 := g2 _ _ (g1 _ _ hw1)
    have sq2 := (Tups.same (K := K) g2) _ _ sq
    have hr2 := (hrs.mono (Tups.same g1)).mono (Tups.same g2)
    have hA2 := hA.mono (Tups.same g2)
    have hB2 := hB.mono (Tups.same g2)
    have s2 := s1.trans (g1.trans g2)
    generalize upd G1 p (.tup [.str "or", .str "and"]) = G2 at hw2 sq2 hr2 hA2 hB2 s2 ⊢
    have nw : H w = none := hw
    have lr : (rs.map (·.1)).length ≤ 6 := by
      rw [List.length_map]
      have z := Ps.len_le rs
      omega
    refine ⟨_, rfl, .inl ⟨rfl, _, SqL.of hw2⟩, _, rfl, .inr (.inl ⟨a, _, 1, _, rfl, rfl, sq2, rfl, ?_⟩)⟩
    refine ⟨w, _, x, rfl, rfl, hw2, small1000 (by omega), ?_⟩
    have t3 : Tups K G2 (upd G2 w (.lst (rs.map (·.1) ++ [x]))) := Tups.put hw2 (fun _ z => nomatch z) fun _ _ z => nomatch z
    refine ⟨_, rfl, .inl ⟨rfl, _, SqL.of upd_same⟩, _, rfl, .inr (.inl ⟨a, _, 2, _, rfl, rfl, t3 _ _ sq2, rfl, ?_⟩)⟩
    refine ⟨w, _, y, rfl, rfl, upd_same, small1000 (by rw [List.length_append, List.length_singleton]; omega), ?_⟩
    rw [upd_upd]
    have t4 : Tups K G2 (upd G2 w (.lst (rs.map (·.1) ++ [x] ++ [y]))) := Tups.put hw2 (fun _ z => nomatch z) fun _ _ z => nomatch z
    refine ⟨rs ++ [(x, A), (y, B)], lf, rfl, ?_, fun z q => ?_, ?_, fun b o e => ?_, ?_⟩
    · rw [upd_same, List.map_append, List.append_assoc]
      rfl
    · rcases List.mem_append.mp q with q | q
      · exact ⟨(hr2 z q).1.mono t4, (hr2 z q).2⟩
      · rcases List.mem_cons.mp q with rfl | q
        · exact ⟨hA2.mono t4, oA⟩
        · rw [List.mem_singleton.mp q]
          exact ⟨hB2.mono t4, oB⟩
    · rw [Ps.lvs_app]
      have h1 : Ps.lvs [(x, A), (y, B)] = A.lv + B.lv := by show A.lv + (B.lv + 0) = _; omega
      omega
    · rw [upd_ne (ne_of_none e hw)]
      exact s2 b o e
    · rw [Ps.nds_app]
      have h1 : Ps.nds [(x, A), (y, B)] = A.nd + B.nd := by show A.nd + (B.nd + 0) = _; omega
      omega
  rintro σ2 H2 ⟨zs2, lf2, rfl, b2, b3, b4, b5, b6⟩
  -- not too many
  refine ⟨_, rfl, _, rfl, .inl ⟨_, _, rfl, .inl ⟨_, SqL.of b2, rfl⟩, .inl ⟨_, _, rfl, rfl, _, _, rfl, rfl, _, rfl, ?_⟩⟩⟩
  have z := Ps.len_le zs2
  refine iteF' (decide_eq_false (by rw [List.length_map]; omega)) ?_
  exact ⟨zs2, lf2, _, rfl, b2, b3, b4, b5, b6⟩
end
end Pk
set_option Elab.async false
set_option linter.all false
set_option maxRecDepth 100000
set_option maxHeartbeats 2000000
namespace Pk
open PySem PySem.Spec L2 PyProof.Rows
section
variable {K : PySem.W.Frag} {C : Cs} {vs : List V} {H H' : Hp} {Q : VK} {E : XK} {n : Nat}
theorem g3 {i j l : Nat} {a : Addr} {σ : L2.St} {R : L2.St → Hp → Prop} {x y z : V} (s : SqT K H a [x, y, z]) (h : R (((σ.set i (some x)).set j (some y)).set l (some z)) H) :
    gTup K 3 (gCons (gName i) (gCons (gName j) (gCons (gName l) gNil))) (.ref a) σ H R := ⟨a, _, rfl, s, rfl, _, _, rfl, _, _, rfl, _, _, rfl, rfl, h⟩
theorem ifS {x y : Str} {A B : Prop} (h1 : x = y → A) (h2 : x ≠ y → B) : if decide (V.str x = V.str y) = true then A else B := by
  by_cases h : x = y
  · rw [if_pos (decide_eq_true (congrArg V.str h))]
    exact h1 h
  · rw [if_neg]
    · exact h2 h
    · intro z
      exact h (V.str.inj (of_decide_eq_true z))
theorem or_at : ("or" : Str) ≠ "at" := by decide +kernel
theorem and_at : ("and" : Str) ≠ "at" := by decide +kernel
theorem and_or : ("and" : Str) ≠ "or" := by decide +kernel
def sp_given (K : PySem.W.Frag) (n : Nat) : Sp := fun vs H Q _ => ∃ v T i, vs = [v, .int i] ∧ TrAt K H v T ∧ T.ok ∧ T.dp ≤ n ∧ Q (.int (T.give i)) H
def t_given (K : PySem.W.Frag) (n : Nat) : TS :=
  (tSeq (tAsg (tVar 0) (gTup K 3 (gCons (gName 2) (gCons (gName 3) (gCons (gName 4) gNil)))))
    (tSeq (tIfS (tTest (tOp (rEqU K) (tVar 2) (tC (.str "at")))) (tRet (tIf (tTest (tOp (rGeI) (tVar 1) (tVar 3))) (tOp (rSubI) (tVar 1) (tOp (rModI) (tVar 1) (tVar 4))) (tC (.int 0)))) tNext)
    (tSeq (tIfS (tTest (tOp (rEqU K) (tVar 2) (tC (.str "or")))) (tRet (tCB (rMax2) (tCons (tCall (sp_given K n) [] E0 (tCons (tVar 3) (tCons (tVar 1) tNil))) (tCons (tCall (sp_given K n) [] E0 (tCons (tVar 4) (tCons (tVar 1) tNil))) tNil)))) tNext)
    (tRet (tCB (rMin2) (tCons (tCall (sp_given K n) [] E0 (tCons (tVar 3) (tCons (tVar 1) tNil))) (tCons (tCall (sp_given K n) [] E0 (tCons (tVar 4) (tCons (tVar 1) tNil))) tNil)))))))
theorem no_given (h : sp_given K 0 vs H Q E) : False := by
  obtain ⟨_, T, _, _, _, _, h, _⟩ := h
  have := T.dp_pos
  omega
theorem ln_given (h : sp_given K n vs H Q E) : vs.length = 2 := by obtain ⟨_, _, _, rfl, _⟩ := h; rfl
theorem rd_given (h : sp_given K (n + 1) vs H Q E) : t_given K n (EndsOf Q) (start ["", "", "", "", ""] vs) H := by
  obtain ⟨v, T, i, rfl, hT, ok, hd, k⟩ := h
  obtain ⟨a, w, x, y, rfl, s, cw⟩ := hT.tuple
  refine ⟨_, rfl, g3 s ?_⟩
  refine ⟨_, rfl, .inl ⟨rfl, _, rfl, ?_⟩⟩
  rcases cw with ⟨rfl, t, q, rfl, rfl, rfl⟩ | ⟨rfl, A, B, rfl, hA, hB⟩ | ⟨rfl, A, B, rfl, hA, hB⟩
  · refine ifS (fun _ => ?_) (fun z => absurd rfl z)
    obtain ⟨o1, o2, o3, o4⟩ := ok
    have e : (Tr.at t q).give i = if t ≤ i then i - i % q else 0 := rfl
    rw [e] at k
    refine ⟨_, rfl, _, rfl, _, _, rfl, rfl, _, rfl, ?_⟩
    refine ifD (fun c => ?_) (fun c => ?_)
    · rw [if_pos c] at k
      exact ⟨_, rfl, _, rfl, _, rfl, _, _, rfl, rfl, (by show (0 : Int) < q; omega), _, _, rfl, rfl, k⟩
    · rw [if_neg c] at k
      exact k
  · refine ifS (fun z => absurd z or_at) (fun _ => ?_)
    refine ⟨_, rfl, .inl ⟨rfl, _, rfl, ?_⟩⟩
    refine ifS (fun _ => ?_) (fun z => absurd rfl z)
    have hd' : max A.dp B.dp + 1 ≤ n + 1 := hd
    exact ⟨_, rfl, _, rfl, x, A, i, rfl, hA, ok.1, by omega, _, rfl, _, rfl, y, B, i, rfl, hB, ok.2, by omega, _, _, rfl, k⟩
  · refine ifS (fun z => absurd z and_at) (fun _ => ?_)
    refine ⟨_, rfl, .inl ⟨rfl, _, rfl, ?_⟩⟩
    refine ifS (fun z => absurd z and_or) (fun _ => ?_)
    have hd' : max A.dp B.dp + 1 ≤ n + 1 := hd
    exact ⟨_, rfl, _, rfl, x, A, i, rfl, hA, ok.1, by omega, _, rfl, _, rfl, y, B, i, rfl, hB, ok.2, by omega, _, _, rfl, k⟩
/-- the leaves of a tree: from where on, multiples of what -/
def Tr.lvs : Tr → List (Int × Int)
  | .at t q => [(t, q)]
  | .or a b => a.lvs ++ b.lvs
  | .and a b => a.lvs ++ b.lvs
theorem Tr.lvs_len : ∀ T : Tr, T.lvs.length = T.lv
  | .at _ _ => rfl
  | .or a b => by show (a.lvs ++ b.lvs).length = _; rw [List.length_append, a.lvs_len, b.lvs_len]; rfl
  | .and a b => by show (a.lvs ++ b.lvs).length = _; rw [List.length_append, a.lvs_len, b.lvs_len]; rfl
theorem Tr.lvs_starts : ∀ T : Tr, T.lvs.map Prod.fst = T.starts
  | .at _ _ => rfl
  | .or a b => by show (a.lvs ++ b.lvs).map _ = _; rw [List.map_append, a.lvs_starts, b.lvs_starts]; rfl
  | .and a b => by show (a.lvs ++ b.lvs).map _ = _; rw [List.map_append, a.lvs_starts, b.lvs_starts]; rfl
def LeafAt (K : PySem.W.Frag) (H : Hp) (v : V) (l : Int × Int) : Prop := ∃ a, v = .ref a ∧ SqT K H a [.str "at", .int l.1, .int l.2]
def LvsAt (K : PySem.W.Frag) (H : Hp) (xs : List V) (ls : List (Int × Int)) : Prop := xs.length = ls.length ∧ ∀ (i : Nat) x l, xs[i]? = some x → ls[i]? = some l → LeafAt K H x l
theorem LvsAt.mono {xs : List V} {ls : List (Int × Int)} (h : LvsAt K H xs ls) (s : Tups K H H') : LvsAt K H' xs ls := ⟨h.1, fun i x l e1 e2 => by
  obtain ⟨a, e, q⟩ := h.2 i x l e1 e2
  exact ⟨a, e, s _ _ q⟩⟩
theorem LvsAt.app {xs ys : List V} {ls ms : List (Int × Int)} (h : LvsAt K H xs ls) (h2 : LvsAt K H ys ms) : LvsAt K H (xs ++ ys) (ls ++ ms) := by
  refine ⟨by rw [List.length_append, List.length_append, h.1, h2.1], fun i x l e1 e2 => ?_⟩
  by_cases c : i < xs.length
  · rw [List.getElem?_append_left c] at e1
    rw [List.getElem?_append_left (by rw [← h.1]; exact c)] at e2
    exact h.2 i x l e1 e2
  · rw [List.getElem?_append_right (by omega)] at e1
    rw [List.getElem?_append_right (by rw [← h.1]; omega), ← h.1] at e2
    exact h2.2 _ x l e1 e2
def sp_leaves_of (K : PySem.W.Frag) (n : Nat) : Sp := fun vs H Q _ => ∃ v T, vs = [v] ∧ TrAt K H v T ∧ T.dp ≤ n ∧ T.lv ≤ 6 ∧ ∀ p H' xs, H p = none → Same H H' → H' p = some (.lst xs) → LvsAt K H' xs T.lvs → Q (.ref p) H'
def t_leaves_of (K : PySem.W.Frag) (n : Nat) : TS :=
  (tSeq (tAsg (tVar 0) (gTup K 3 (gCons (gName 1) (gCons (gName 2) (gCons (gName 3) gNil)))))
    (tSeq (tIfS (tTest (tOp (rEqU K) (tVar 1) (tC (.str "at")))) (tRet (tLst (tCons (tVar 0) tNil))) tNext)
    (tRet (tOp (rAddU K) (tCall (sp_leaves_of K n) [] E0 (tCons (tVar 2) tNil)) (tCall (sp_leaves_of K n) [] E0 (tCons (tVar 3) tNil))))))
theorem no_leaves_of (h : sp_leaves_of K 0 vs H Q E) : False := by
  obtain ⟨_, T, _, _, h, _⟩ := h
  have := T.dp_pos
  omega
theorem ln_leaves_of (h : sp_leaves_of K n vs H Q E) : vs.length = 1 := by obtain ⟨_, _, rfl, _⟩ := h; rfl
theorem rd_leaves_of (h : sp_leaves_of K (n + 1) vs H Q E) : t_leaves_of K n (EndsOf Q) (start ["", "", "", ""] vs) H := by
  obtain ⟨v, T, rfl, hT, hd, hl, k⟩ := h
  obtain ⟨a, w, x, y, rfl, s, cw⟩ := hT.tuple
  refine ⟨_, rfl, g3 s ?_⟩
  refine ⟨_, rfl, .inl ⟨rfl, _, rfl, ?_⟩⟩
  have two : ∀ {A B : Tr}, T.lvs = A.lvs ++ B.lvs → T.lv = A.lv + B.lv → max A.dp B.dp + 1 ≤ n + 1 → TrAt K H x A → TrAt K H y B →
      tRet (tOp (rAddU K) (tCall (sp_leaves_of K n) [] E0 (tCons (tVar 2) tNil)) (tCall (sp_leaves_of K n) [] E0 (tCons (tVar 3) tNil))) (EndsOf Q) [some (.ref a), some (.str w), some x, some y] H := by
    intro A B e1 e2 hd' hA hB
    refine ⟨_, rfl, x, A, rfl, hA, by omega, by omega, fun p H1 xs hp s1 h1 l1 => ?_⟩
    refine ⟨_, rfl, y, B, rfl, hB.mono (Tups.same s1), by omega, by omega, fun p2 H2 ys hp2 s2 h2 l2 => ?_⟩
    refine .inr (.inr (.inl ⟨p, p2, _, _, rfl, rfl, s2 _ _ h1, h2, ?_, fun r hr => ?_⟩))
    · rw [l1.1, l2.1, A.lvs_len, B.lvs_len]
      exact Nat.le_of_lt (small1000 (by omega))
    · refine k r _ _ ((s1.trans s2).free hr) ((s1.trans s2).trans (same_new hr)) upd_same ?_
      rw [e1]
      exact ((l1.mono (Tups.same s2)).app l2).mono (Tups.same (same_new hr))
  rcases cw with ⟨rfl, t, q, rfl, rfl, rfl⟩ | ⟨rfl, A, B, rfl, hA, hB⟩ | ⟨rfl, A, B, rfl, hA, hB⟩
  · refine ifS (fun _ => ?_) (fun z => absurd rfl z)
    refine ⟨_, rfl, two_fit.1, fun p hp => k p _ _ hp (same_new hp) upd_same ⟨rfl, fun i x l e1 e2 => ?_⟩⟩
    match i, e1, e2 with
    | 0, e1, e2 =>
      cases e1
      cases e2
      exact ⟨a, rfl, Tups.same (same_new hp) _ _ s⟩
    | i + 1, e1, _ => exact nomatch e1
  · refine ifS (fun z => absurd z or_at) (fun _ => ?_)
    exact two rfl rfl hd hA hB
  · refine ifS (fun z => absurd z and_at) (fun _ => ?_)
    exact two rfl rfl hd hA hB
def sp_starts_of (K : PySem.W.Frag) : Sp := fun vs H Q _ => ∃ v T, vs = [v] ∧ TrAt K H v T ∧ T.dp ≤ 7 ∧ T.lv ≤ 6 ∧ ∀ p H', H p = none → Same H H' → H' p = some (.lst (T.starts.map V.int)) → Q (.ref p) H'
def t_starts_of (K : PySem.W.Frag) : TS :=
  (tRet (tLc (iList K (tCall (sp_leaves_of K 7) [] E0 (tCons (tVar 0) tNil))) (gTup K 3 (gCons (gName 1) (gCons (gName 2) (gCons (gName 1) gNil)))) tYes (tVar 2) [1, 2]))
theorem ln_starts_of (h : sp_starts_of K vs H Q E) : vs.length = 1 := by obtain ⟨_, _, rfl, _⟩ := h; rfl
theorem rd_starts_of (h : sp_starts_of K vs H Q E) : t_starts_of K (EndsOf Q) (start ["", "", ""] vs) H := by
  obtain ⟨v, T, rfl, hT, hd, hl, k⟩ := h
  refine ⟨_, rfl, v, T, rfl, hT, hd, hl, fun p G xs hp s1 h1 l1 => ?_⟩
  refine ⟨p, rfl, ⟨_, SqL.of h1⟩, fun D hD => ?_⟩
  refine lc_list (K := K) (a := p) (xs := xs) (fun i F => Same G F ∧ F D = some (.lst ((T.starts.take i).map V.int))) ⟨same_new hD, upd_same⟩ (fun i F _ s => s.1.seq (SqL.of h1)) ?_ ?_
  · rintro i x F hx ⟨s, hz⟩
    obtain ⟨lt, ex⟩ := List.getElem?_eq_some_iff.mp hx
    have lt2 : i < T.lvs.length := by rw [← l1.1]; exact lt
    obtain ⟨a, rfl, sa⟩ := l1.2 i x T.lvs[i] hx (List.getElem?_eq_getElem lt2)
    have lt3 : i < T.starts.length := by rw [T.starts_len, ← T.lvs_len]; exact lt2
    refine g3 (Tups.same s _ _ sa) ⟨rfl, ?_⟩
    refine ⟨_, rfl, _, hz, small1000 ?_, fun c o q => ?_, ?_⟩
    · rw [List.length_map, List.length_take]
      have := T.starts_len
      omega
    · rw [upd_ne (ne_of_none q hD)]
      exact s c o q
    · rw [upd_same, List.take_succ_eq_append_getElem lt3, List.map_append]
      have e : T.starts[i] = (T.lvs[i]).1 := by
        have z : (T.lvs.map Prod.fst)[i]? = T.starts[i]? := by rw [T.lvs_starts]
        rw [List.getElem?_map, List.getElem?_eq_getElem lt2, List.getElem?_eq_getElem lt3] at z
        exact (Option.some.inj z).symm
      rw [e]
      rfl
  · rintro F ⟨s, hz⟩
    rw [l1.1, T.lvs_len, ← T.starts_len, List.take_length] at hz
    exact k D F (s1.free hD) (s1.trans s) hz
/-! ### Rules -/
structure FxRule (K : PySem.W.Frag) (C : Cs) : Prop where
  cl : Cls K C.Rule
  no : NoAttr K C.Rule "_tree"
  ic : C8.InsC K C.Rule
theorem lk_tree {f : Str} {u : V} (h : (f == ("_tree" : Str)) = false) : List.lookup f [(("_tree" : Str), u)] = none := by simp [List.lookup, h]
def RuleAt (K : PySem.W.Frag) (C : Cs) (H : Hp) (v : V) (T : Tr) : Prop := ∃ a dx u, v = .ref a ∧ H a = some (.ins C.Rule dx [("_tree", u)]) ∧ TrAt K H u T ∧ T.ok ∧ T.lv ≤ 6 ∧ FxRule K C
theorem RuleAt.mono {v : V} {T : Tr} (h : RuleAt K C H v T) (s : Tups K H H') (k : ∀ a dx fs, H a = some (.ins C.Rule dx fs) → H' a = some (.ins C.Rule dx fs)) : RuleAt K C H' v T := by
  obtain ⟨a, dx, u, e, h1, h2, r⟩ := h
  exact ⟨a, dx, u, e, k _ _ _ h1, h2.mono s, r⟩
theorem RuleAt.same {v : V} {T : Tr} (h : RuleAt K C H v T) (s : Same H H') : RuleAt K C H' v T := h.mono (Tups.same s) fun _ _ _ e => s _ _ e
theorem RuleAt.kp {v : V} {T : Tr} {b : Addr} {ys : List V} (h : RuleAt K C H v T) (k : Kp b H H') (hb : H b = some (.lst ys)) : RuleAt K C H' v T := h.mono (Tups.kp k hb) fun _ _ _ e => k _ _ e (ne_of e hb fun z => nomatch z)
def sp_Rule___init__ (K : PySem.W.Frag) (C : Cs) : Sp := fun vs H Q _ => ∃ p dx u T, vs = [.ref p, u] ∧ H p = some (.ins C.Rule dx []) ∧ TrAt K H u T ∧ T.ok ∧ T.lv ≤ 6 ∧ FxRule K C ∧
  ∀ H', H' p = some (.ins C.Rule dx [("_tree", u)]) → (∀ b o, H b = some o → b ≠ p → H' b = some o) → Q .non H'
def t_Rule___init__ (K : PySem.W.Frag) : TS :=
  (tSeq (tIfS (tNot (tB (tCall (sp_is_tree K) [] E0 (tCons (tVar 1) tNil)))) tNever tNext)
    (sFld K (tVar 0) (tVar 1) "_tree"))
theorem ln_Rule___init__ (h : sp_Rule___init__ K C vs H Q E) : vs.length = 2 := by obtain ⟨_, _, _, _, rfl, _⟩ := h; rfl
theorem rd_Rule___init__ (h : sp_Rule___init__ K C vs H Q E) : t_Rule___init__ K (EndsOf Q) (start ["", ""] vs) H := by
  obtain ⟨p, dx, u, T, rfl, hp, hT, ok, l6, fx, k⟩ := h
  refine ⟨_, rfl, u, T, rfl, hT, ok, l6, fun H1 s => ⟨true, rfl, ?_⟩⟩
  refine ⟨_, rfl, _, rfl, p, _, dx, _, rfl, s _ _ hp, fx.cl, fx.no, by show 0 < 1000; decide, ?_⟩
  refine k _ upd_same fun b o e n => ?_
  rw [upd_ne n]
  exact s b o e
/-- what Rule(tree) makes -/
theorem make_rule {t : TA} {σ : L2.St} {u : V} {T : Tr} {G : Hp} (fx : FxRule K C) (ok : T.ok) (l6 : T.lv ≤ 6) (hT : TrAt K G u T) (k : ∀ x H', G x = none → Same G H' → RuleAt K C H' (.ref x) T → Q (.ref x) H') :
    ∀ x dx, G x = none → G dx = none → dx ≠ x → sp_Rule___init__ K C (.ref x :: ([u] ++ [])) (upd (upd G dx (.own x)) x (.ins C.Rule dx [])) (fun v H2 => v = .non ∧ Q (.ref x) H2) E := by
  intro x dx hx hd ne
  have s : Same G (upd (upd G dx (.own x)) x (.ins C.Rule dx [])) := fun b o e => by
    rw [upd_ne (ne_of_none e hx), upd_ne (ne_of_none e hd)]
    exact e
  refine ⟨x, dx, u, T, rfl, upd_same, hT.mono (Tups.same s), ok, l6, fx, fun H' h1 h2 => ⟨rfl, ?_⟩⟩
  have s2 : Same G H' := fun b o e => h2 b o (s b o e) (ne_of_none e hx)
  exact k x H' hx s2 ⟨x, dx, u, rfl, h1, hT.mono (Tups.same s2), ok, l6, fx⟩
theorem Tr.dp6 {T : Tr} (h : T.lv ≤ 6) : T.dp ≤ 7 := by have := T.dp_le; omega
def sp_Rule___call__ (K : PySem.W.Frag) (C : Cs) : Sp := fun vs H Q _ => ∃ v T i, vs = [v, .int i] ∧ RuleAt K C H v T ∧ Q (.int (T.give i)) H
def t_Rule___call__ (K : PySem.W.Frag) : TS :=
  (tRet (tCall (sp_given K 7) [] E0 (tCons (tFld K (tVar 0) "_tree") (tCons (tVar 1) tNil))))
theorem ln_Rule___call__ (h : sp_Rule___call__ K C vs H Q E) : vs.length = 2 := by obtain ⟨_, _, _, rfl, _⟩ := h; rfl
theorem rd_Rule___call__ (h : sp_Rule___call__ K C vs H Q E) : t_Rule___call__ K (EndsOf Q) (start ["", ""] vs) H := by
  obtain ⟨v, T, i, rfl, ⟨a, dx, u, rfl, ha, hT, ok, l6, fx⟩, k⟩ := h
  exact ⟨_, rfl, a, _, dx, _, u, rfl, ha, fx.cl, fx.no, rfl, _, rfl, u, T, i, rfl, hT, ok, Tr.dp6 l6, k⟩
def sp_Rule_rest (K : PySem.W.Frag) (C : Cs) : Sp := fun vs H Q _ => ∃ v T i, vs = [v, .int i] ∧ RuleAt K C H v T ∧ Q (.int (i - T.give i)) H
def t_Rule_rest (K : PySem.W.Frag) : TS :=
  (tRet (tOp (rSubI) (tVar 1) (tCall (sp_given K 7) [] E0 (tCons (tFld K (tVar 0) "_tree") (tCons (tVar 1) tNil)))))
theorem ln_Rule_rest (h : sp_Rule_rest K C vs H Q E) : vs.length = 2 := by obtain ⟨_, _, _, rfl, _⟩ := h; rfl
theorem rd_Rule_rest (h : sp_Rule_rest K C vs H Q E) : t_Rule_rest K (EndsOf Q) (start ["", ""] vs) H := by
  obtain ⟨v, T, i, rfl, ⟨a, dx, u, rfl, ha, hT, ok, l6, fx⟩, k⟩ := h
  exact ⟨_, rfl, _, rfl, a, _, dx, _, u, rfl, ha, fx.cl, fx.no, rfl, _, rfl, u, T, i, rfl, hT, ok, Tr.dp6 l6, _, _, rfl, rfl, k⟩
def sp_Rule_tree (K : PySem.W.Frag) (C : Cs) : Sp := fun vs H Q _ => ∃ v T, vs = [v] ∧ RuleAt K C H v T ∧ ∀ u, TrAt K H u T → Q u H
def t_Rule_tree (K : PySem.W.Frag) : TS :=
  (tRet (tFld K (tVar 0) "_tree"))
theorem ln_Rule_tree (h : sp_Rule_tree K C vs H Q E) : vs.length = 1 := by obtain ⟨_, _, rfl, _⟩ := h; rfl
theorem rd_Rule_tree (h : sp_Rule_tree K C vs H Q E) : t_Rule_tree K (EndsOf Q) (start [""] vs) H := by
  obtain ⟨v, T, rfl, ⟨a, dx, u, rfl, ha, hT, ok, l6, fx⟩, k⟩ := h
  exact ⟨_, rfl, a, _, dx, _, u, rfl, ha, fx.cl, fx.no, rfl, k u hT⟩
def Tr.join (w : Str) (A B : Tr) : Tr := if w = "or" then .or A B else .and A B
theorem Tr.join_lv (w : Str) (A B : Tr) : (Tr.join w A B).lv = A.lv + B.lv := by unfold Tr.join; split <;> rfl
theorem Tr.join_ok {w : Str} {A B : Tr} (a : A.ok) (b : B.ok) : (Tr.join w A B).ok := by unfold Tr.join; split <;> exact ⟨a, b⟩
def sp_joined (K : PySem.W.Frag) (C : Cs) : Sp := fun vs H Q _ => ∃ (w : Str) (u v : V) (A B : Tr), vs = [.str w, u, v] ∧ (w = "or" ∨ w = "and") ∧ TrAt K H u A ∧ TrAt K H v B ∧ A.ok ∧ B.ok ∧ A.lv + B.lv ≤ 6 ∧ FxRule K C ∧
  ∀ x H', H x = none → Same H H' → RuleAt K C H' (.ref x) (Tr.join w A B) → Q (.ref x) H'
def t_joined (K : PySem.W.Frag) (C : Cs) : TS :=
  (tSeq (tIfS (tTest (tOp (rGtI) (tOp (rAddU K) (tCB (rLenU K) (tCons (tCall (sp_starts_of K) [] E0 (tCons (tVar 1) tNil)) tNil)) (tCB (rLenU K) (tCons (tCall (sp_starts_of K) [] E0 (tCons (tVar 2) tNil)) tNil))) (tC (.int 6)))) tNever tNext)
    (tRet (tMake C.Rule (sp_Rule___init__ K C) [] E0 (tCons (tTup (tCons (tVar 0) (tCons (tVar 1) (tCons (tVar 2) tNil)))) tNil))))
theorem ln_joined (h : sp_joined K C vs H Q E) : vs.length = 3 := by obtain ⟨_, _, _, _, _, rfl, _⟩ := h; rfl
theorem rd_joined (h : sp_joined K C vs H Q E) : t_joined K C (EndsOf Q) (start ["", "", ""] vs) H := by
  obtain ⟨w, u, v, A, B, rfl, hw, hA, hB, oA, oB, l6, fx, k⟩ := h
  refine ⟨_, rfl, u, A, rfl, hA, Tr.dp6 (by omega), by omega, fun p H1 hp s1 h1 => ?_⟩
  refine .inl ⟨_, _, rfl, .inl ⟨_, SqL.of h1, rfl⟩, ?_⟩
  refine ⟨_, rfl, v, B, rfl, hB.mono (Tups.same s1), Tr.dp6 (by omega), by omega, fun p2 H2 hp2 s2 h2 => ?_⟩
  refine .inl ⟨_, _, rfl, .inl ⟨_, SqL.of h2, rfl⟩, .inl ⟨_, _, rfl, rfl, _, _, rfl, rfl, _, rfl, ?_⟩⟩
  rw [List.length_map, List.length_map, A.starts_len, B.starts_len]
  refine iteF' (decide_eq_false (by omega)) ?_
  have s := s1.trans s2
  refine ⟨_, rfl, _, rfl, _, rfl, two_fit.2.2.1, fun q hq => ?_⟩
  have s3 := same_new (o := .tup [.str w, u, v]) hq
  have hT : TrAt K (upd H2 q (.tup [.str w, u, v])) (.ref q) (Tr.join w A B) := by
    unfold Tr.join
    rcases hw with rfl | rfl
    · rw [if_pos rfl]
      exact ⟨q, u, v, rfl, SqT.of upd_same, hA.mono (Tups.same (s.trans s3)), hB.mono (Tups.same (s.trans s3))⟩
    · rw [if_neg and_or]
      exact ⟨q, u, v, rfl, SqT.of upd_same, hA.mono (Tups.same (s.trans s3)), hB.mono (Tups.same (s.trans s3))⟩
  exact make_rule (t := tNil) (σ := []) fx (Tr.join_ok oA oB) (by rw [Tr.join_lv]; exact l6) hT fun x H' hx s4 r => k x H' ((s.trans s3).free hx) ((s.trans s3).trans s4) r
def sp_Rule___or__ (K : PySem.W.Frag) (C : Cs) : Sp := fun vs H Q _ => ∃ u v A B, vs = [u, v] ∧ RuleAt K C H u A ∧ RuleAt K C H v B ∧ A.lv + B.lv ≤ 6 ∧ ∀ x H', H x = none → Same H H' → RuleAt K C H' (.ref x) (.or A B) → Q (.ref x) H'
def sp_Rule___and__ (K : PySem.W.Frag) (C : Cs) : Sp := fun vs H Q _ => ∃ u v A B, vs = [u, v] ∧ RuleAt K C H u A ∧ RuleAt K C H v B ∧ A.lv + B.lv ≤ 6 ∧ ∀ x H', H x = none → Same H H' → RuleAt K C H' (.ref x) (.and A B) → Q (.ref x) H'
def t_Rule___or__ (K : PySem.W.Frag) (C : Cs) : TS :=
  (tRet (tCall (sp_joined K C) [] E0 (tCons (tC (.str "or")) (tCons (tFld K (tVar 0) "_tree") (tCons (tFld K (tVar 1) "_tree") tNil)))))
def t_Rule___and__ (K : PySem.W.Frag) (C : Cs) : TS :=
  (tRet (tCall (sp_joined K C) [] E0 (tCons (tC (.str "and")) (tCons (tFld K (tVar 0) "_tree") (tCons (tFld K (tVar 1) "_tree") tNil)))))
theorem ln_Rule___or__ (h : sp_Rule___or__ K C vs H Q E) : vs.length = 2 := by obtain ⟨_, _, _, _, rfl, _⟩ := h; rfl
theorem ln_Rule___and__ (h : sp_Rule___and__ K C vs H Q E) : vs.length = 2 := by obtain ⟨_, _, _, _, rfl, _⟩ := h; rfl
theorem rd_Rule___or__ (h : sp_Rule___or__ K C vs H Q E) : t_Rule___or__ K C (EndsOf Q) (start ["", ""] vs) H := by
  obtain ⟨u, v, A, B, rfl, ⟨a, dx, x, rfl, ha, hA, oA, _, fx⟩, ⟨b, dy, y, rfl, hb, hB, oB, _, _⟩, l6, k⟩ := h
  refine ⟨_, rfl, a, _, dx, _, x, rfl, ha, fx.cl, fx.no, rfl, _, rfl, b, _, dy, _, y, rfl, hb, fx.cl, fx.no, rfl, ?_⟩
  exact ⟨"or", x, y, A, B, rfl, .inl rfl, hA, hB, oA, oB, l6, fx, fun r H' hr s q => k r H' hr s (by unfold Tr.join at q; rw [if_pos rfl] at q; exact q)⟩
theorem rd_Rule___and__ (h : sp_Rule___and__ K C vs H Q E) : t_Rule___and__ K C (EndsOf Q) (start ["", ""] vs) H := by
  obtain ⟨u, v, A, B, rfl, ⟨a, dx, x, rfl, ha, hA, oA, _, fx⟩, ⟨b, dy, y, rfl, hb, hB, oB, _, _⟩, l6, k⟩ := h
  refine ⟨_, rfl, a, _, dx, _, x, rfl, ha, fx.cl, fx.no, rfl, _, rfl, b, _, dy, _, y, rfl, hb, fx.cl, fx.no, rfl, ?_⟩
  exact ⟨"and", x, y, A, B, rfl, .inr rfl, hA, hB, oA, oB, l6, fx, fun r H' hr s q => k r H' hr s (by unfold Tr.join at q; rw [if_neg and_or] at q; exact q)⟩
def sp_at_least (K : PySem.W.Frag) (C : Cs) : Sp := fun vs H Q _ => ∃ t q, vs = [.int t, .int q] ∧ (Tr.at t q).ok ∧ FxRule K C ∧ ∀ x H', H x = none → Same H H' → RuleAt K C H' (.ref x) (.at t q) → Q (.ref x) H'
def t_at_least (K : PySem.W.Frag) (C : Cs) : TS :=
  (tSeq (tIfS (tNot (tB (tCall (sp_is_number K) [] E0 (tCons (tC (.int 1)) (tCons (tVar 0) tNil))))) tNever tNext)
    (tSeq (tIfS (tNot (tB (tCall (sp_is_by K) [] E0 (tCons (tVar 1) tNil)))) tNever tNext)
    (tRet (tMake C.Rule (sp_Rule___init__ K C) [] E0 (tCons (tTup (tCons (tC (.str "at")) (tCons (tVar 0) (tCons (tVar 1) tNil)))) tNil)))))
theorem ln_at_least (h : sp_at_least K C vs H Q E) : vs.length = 2 := by obtain ⟨_, _, rfl, _⟩ := h; rfl
theorem rd_at_least (h : sp_at_least K C vs H Q E) : t_at_least K C (EndsOf Q) (start ["", ""] vs) H := by
  obtain ⟨t, q, rfl, ok, fx, k⟩ := h
  obtain ⟨o1, o2, o3, o4⟩ := id ok
  refine ⟨_, rfl, 1, t, rfl, _, rfl, ?_⟩
  rw [decide_eq_true o1]
  refine ⟨_, rfl, q, rfl, _, rfl, ?_⟩
  rw [decide_eq_true o3, decide_eq_true o4]
  refine ⟨_, rfl, _, rfl, two_fit.2.2.1, fun p hp => ?_⟩
  have s := same_new (o := .tup [.str "at", .int t, .int q]) hp
  exact make_rule (t := tNil) (σ := []) fx ok (by show 1 ≤ 6; decide) ⟨p, rfl, SqT.of upd_same⟩ fun x H' hx s2 r => k x H' (s.free hx) (s.trans s2) r
end
end Pk
set_option Elab.async false
set_option linter.all false
set_option maxRecDepth 100000
set_option maxHeartbeats 2000000
namespace Pk
open PySem PySem.Spec L2 PyProof.Rows
section
variable {K : PySem.W.Frag} {C : Cs} {vs : List V} {H H' : Hp} {Q : VK} {E : XK} {n : Nat}
def sp_law_alike (K : PySem.W.Frag) : Sp := fun vs H Q _ => ∃ x y d, vs = [x, y] ∧ Dp K H x d ∧ Dp K H y d ∧ Good d ∧ Q (.bl true) H
def t_law_alike (K : PySem.W.Frag) : TS :=
  (tRet (tAndV (tOp (rEqU K) (tVar 0) (tVar 1)) (tOp (rEqU K) (tCB (rRepr K) (tCons (tVar 0) tNil)) (tCB (rRepr K) (tCons (tVar 1) tNil)))))
theorem ln_law_alike (h : sp_law_alike K vs H Q E) : vs.length = 2 := by obtain ⟨_, _, _, rfl, _⟩ := h; rfl
theorem rd_law_alike (h : sp_law_alike K vs H Q E) : t_law_alike K (EndsOf Q) (start ["", ""] vs) H := by
  obtain ⟨x, y, d, rfl, hx, hy, g, k⟩ := h
  refine ⟨_, rfl, _, rfl, .inr ⟨d, d, hx, hy, g.sh, g.sh, _, rfl, ?_⟩⟩
  rw [g.same]
  refine ⟨_, rfl, x, d, rfl, hx, g, _, rfl, y, d, rfl, hy, g, .inl ⟨rfl, ?_⟩⟩
  rw [decide_eq_true rfl]
  exact k
theorem pick2 {x y : V} {v : Int} (h0 : 0 ≤ v) (h1 : v < 2) : ∃ z, atI [x, y] v = some z ∧ ((v = 0 ∧ z = x) ∨ (v = 1 ∧ z = y)) := by
  rcases (by omega : v = 0 ∨ v = 1) with rfl | rfl
  · exact ⟨x, rfl, .inl ⟨rfl, rfl⟩⟩
  · exact ⟨y, rfl, .inr ⟨rfl, rfl⟩⟩
def sp_law_draw_size (K : PySem.W.Frag) : Sp := fun vs H Q _ => ∃ b l top sc, vs = [.ref b, .int top, .int sc] ∧ Bag H b l ∧ 1 ≤ top ∧ top ≤ 1000 ∧ 1 ≤ sc ∧ ∀ v H', 1 ≤ v → v ≤ top * sc → Bag H' b l → Kp b H H' → Q (.int v) H'
def t_law_draw_size (K : PySem.W.Frag) : TS :=
  (tRet (tOp (rMulU K) (tOp (rAddU K) (tC (.int 1)) (tCall (sp_law_take K) [] E0 (tCons (tVar 0) (tCons (tVar 1) tNil)))) (tOp (rIx K) (tLst (tCons (tC (.int 1)) (tCons (tVar 2) tNil))) (tCall (sp_law_take K) [] E0 (tCons (tVar 0) (tCons (tC (.int 2)) tNil))))))
theorem ln_law_draw_size (h : sp_law_draw_size K vs H Q E) : vs.length = 3 := by obtain ⟨_, _, _, _, rfl, _⟩ := h; rfl
theorem rd_law_draw_size (h : sp_law_draw_size K vs H Q E) : t_law_draw_size K (EndsOf Q) (start ["", "", ""] vs) H := by
  obtain ⟨b, l, top, sc, rfl, B, t1, t2, s1, k⟩ := h
  refine ⟨_, rfl, _, rfl, b, l, top, rfl, B, by omega, by omega, fun r H1 r0 r1 B1 k1 => ?_⟩
  refine .inl ⟨_, _, rfl, rfl, _, rfl, two_fit.2.1, fun p hp => ?_⟩
  have k2 := k1.laid (o := .lst [.int 1, .int sc]) hp
  refine ⟨_, rfl, b, l, 2, rfl, B1.same (same_new hp), by decide, by decide, fun j H2 j0 j1 B2 k3 => ?_⟩
  have hp2 : H2 p = some (.lst [.int 1, .int sc]) := by
    refine k3 p _ upd_same ?_
    obtain ⟨ys, hb⟩ := B1.at
    exact (ne_of_none hb hp).symm
  obtain ⟨z, hz, cz⟩ := pick2 (x := .int 1) (y := .int sc) j0 j1
  refine .inl ⟨p, _, j, z, rfl, rfl, SqL.of hp2, hz, ?_⟩
  rcases cz with ⟨_, rfl⟩ | ⟨_, rfl⟩
  · refine .inl ⟨_, _, rfl, rfl, .inl (.inl (by omega)), ?_⟩
    refine k _ _ (by omega) ?_ B2 (k2.trans k3)
    have : top * 1 ≤ top * sc := Int.mul_le_mul_of_nonneg_left s1 (by omega)
    omega
  · refine .inl ⟨_, _, rfl, rfl, .inl (.inl (by omega)), ?_⟩
    have h1 : (1 + r) * sc ≤ top * sc := Int.mul_le_mul_of_nonneg_right (by omega) (by omega)
    have h2 : 1 * 1 ≤ (1 + r) * sc := Int.mul_le_mul (by omega) s1 (by omega) (by omega)
    exact k _ _ (by omega) h1 B2 (k2.trans k3)
theorem Tr.give_or (a b : Tr) (i : Int) : (Tr.or a b).give i = if b.give i > a.give i then b.give i else a.give i := rfl
theorem Tr.give_and (a b : Tr) (i : Int) : (Tr.and a b).give i = if b.give i < a.give i then b.give i else a.give i := rfl
def sp_law_give (K : PySem.W.Frag) (n : Nat) : Sp := fun vs H Q _ => ∃ v T i, vs = [v, .int i] ∧ TrAt K H v T ∧ T.ok ∧ T.dp ≤ n ∧ ∀ H', Same H H' → Q (.int (T.give i)) H'
def t_law_give (K : PySem.W.Frag) (n : Nat) : TS :=
  (tSeq (tAsg (tVar 0) (gTup K 3 (gCons (gName 2) (gCons (gName 3) (gCons (gName 4) gNil)))))
    (tSeq (tIfS (tTest (tOp (rEqU K) (tVar 2) (tC (.str "at")))) (tRet (tIf (tTest (tOp (rGeI) (tVar 1) (tVar 3))) (tOp (rSubI) (tVar 1) (tOp (rModI) (tCB (rIntU) (tCons (tVar 1) tNil)) (tVar 4))) (tC (.int 0)))) tNext)
    (tSeq (tAsg (tLst (tCons (tCall (sp_law_give K n) [] E0 (tCons (tVar 3) (tCons (tVar 1) tNil))) (tCons (tCall (sp_law_give K n) [] E0 (tCons (tVar 4) (tCons (tVar 1) tNil))) tNil))) (gName 5))
    (tRet (tIf (tTest (tOp (rEqU K) (tVar 2) (tC (.str "or")))) (tCB (rMax K) (tCons (tVar 5) tNil)) (tCB (rMin K) (tCons (tVar 5) tNil)))))))
theorem no_law_give (h : sp_law_give K 0 vs H Q E) : False := by
  obtain ⟨_, T, _, _, _, _, h, _⟩ := h
  have := T.dp_pos
  omega
theorem ln_law_give (h : sp_law_give K n vs H Q E) : vs.length = 2 := by obtain ⟨_, _, _, rfl, _⟩ := h; rfl
theorem rd_law_give (h : sp_law_give K (n + 1) vs H Q E) : t_law_give K n (EndsOf Q) (start ["", "", "", "", "", ""] vs) H := by
  obtain ⟨v, T, i, rfl, hT, ok, hd, k⟩ := h
  obtain ⟨a, w, x, y, rfl, s, cw⟩ := hT.tuple
  refine ⟨_, rfl, g3 s ?_⟩
  refine ⟨_, rfl, .inl ⟨rfl, _, rfl, ?_⟩⟩
  rcases cw with ⟨rfl, t, q, rfl, rfl, rfl⟩ | ⟨rfl, A, B, rfl, hA, hB⟩ | ⟨rfl, A, B, rfl, hA, hB⟩
  · refine ifS (fun _ => ?_) (fun z => absurd rfl z)
    obtain ⟨o1, o2, o3, o4⟩ := ok
    have k := k H (Same.refl H)
    have e : (Tr.at t q).give i = if t ≤ i then i - i % q else 0 := rfl
    rw [e] at k
    refine ⟨_, rfl, _, rfl, _, _, rfl, rfl, _, rfl, ?_⟩
    refine ifD (fun c => ?_) (fun c => ?_)
    · rw [if_pos c] at k
      exact ⟨_, rfl, _, rfl, .inl (.inl ⟨_, rfl, _, rfl, _, _, rfl, rfl, (by show (0 : Int) < q; omega), _, _, rfl, rfl, k⟩)⟩
    · rw [if_neg c] at k
      exact k
  · refine ifS (fun z => absurd z or_at) (fun _ => ?_)
    have hd' : max A.dp B.dp + 1 ≤ n + 1 := hd
    refine ⟨_, rfl, _, rfl, x, A, i, rfl, hA, ok.1, by omega, fun H1 s1 => ?_⟩
    refine ⟨_, rfl, _, rfl, y, B, i, rfl, hB.mono (Tups.same s1), ok.2, by omega, fun H2 s2 => ⟨two_fit.2.1, fun p hp => ?_⟩⟩
    refine ⟨_, rfl, .inl ⟨rfl, _, rfl, ?_⟩⟩
    refine ifS (fun _ => ?_) (fun z => absurd rfl z)
    refine ⟨_, rfl, p, [A.give i, B.give i], rfl, SqL.of upd_same, Nat.succ_pos _, fun m hm hy => ?_⟩
    have e : m = (Tr.or A B).give i := by
      rw [Tr.give_or]
      have h1 := hy (A.give i) (List.mem_cons_self ..)
      have h2 := hy (B.give i) (List.mem_cons_of_mem _ (List.mem_cons_self ..))
      rcases List.mem_cons.mp hm with rfl | hm
      · split <;> omega
      · have := List.mem_singleton.mp hm
        split <;> omega
    rw [e]
    exact k _ ((s1.trans s2).trans (same_new hp))
  · refine ifS (fun z => absurd z and_at) (fun _ => ?_)
    have hd' : max A.dp B.dp + 1 ≤ n + 1 := hd
    refine ⟨_, rfl, _, rfl, x, A, i, rfl, hA, ok.1, by omega, fun H1 s1 => ?_⟩
    refine ⟨_, rfl, _, rfl, y, B, i, rfl, hB.mono (Tups.same s1), ok.2, by omega, fun H2 s2 => ⟨two_fit.2.1, fun p hp => ?_⟩⟩
    refine ⟨_, rfl, .inl ⟨rfl, _, rfl, ?_⟩⟩
    refine ifS (fun z => absurd z and_or) (fun _ => ?_)
    refine ⟨_, rfl, p, [A.give i, B.give i], rfl, SqL.of upd_same, Nat.succ_pos _, fun m hm hy => ?_⟩
    have e : m = (Tr.and A B).give i := by
      rw [Tr.give_and]
      have h1 := hy (A.give i) (List.mem_cons_self ..)
      have h2 := hy (B.give i) (List.mem_cons_of_mem _ (List.mem_cons_self ..))
      rcases List.mem_cons.mp hm with rfl | hm
      · split <;> omega
      · have := List.mem_singleton.mp hm
        split <;> omega
    rw [e]
    exact k _ ((s1.trans s2).trans (same_new hp))
/-! ### a drawn rule -/
def Tr.le (m : Int) : Tr → Prop
  | .at t _ => t ≤ m
  | .or a b => le m a ∧ le m b
  | .and a b => le m a ∧ le m b
theorem Bag.nb {b l D : Addr} (B : Bag H b l) (h : H D = none) : D ≠ b := by
  obtain ⟨ys, hb⟩ := B.at
  exact (ne_of_none hb h).symm
theorem Bag.nl {b l D : Addr} (B : Bag H b l) (h : H D = none) : D ≠ l := by
  obtain ⟨ys, hb⟩ := B.at2
  exact (ne_of_none hb h).symm
theorem Bag.tups {b l : Addr} (B : Bag H b l) (k : Kp b H H') : Tups K H H' := by
  obtain ⟨ys, hb⟩ := B.at
  exact Tups.kp k hb
def Ps.Ok (K : PySem.W.Frag) (H : Hp) (m : Int) (zs : Ps) : Prop := ∀ z ∈ zs, TrAt K H z.1 z.2 ∧ z.2.ok ∧ z.2.le m
theorem Ps.Ok.mono {zs : Ps} {m : Int} (h : Ps.Ok K H m zs) (s : Tups K H H') : Ps.Ok K H' m zs := fun z hz => ⟨(h z hz).1.mono s, (h z hz).2⟩
theorem Tups.add {p : Addr} {o u : HO} (h : H p = some u) (nt : ∀ xs, u ≠ .tup xs) (nf : ∀ ob xs, u ≠ .frz ob (.tup xs)) : Tups K H (upd H p o) := Tups.put h nt nf
theorem lst_tups {p : Addr} {o : HO} {xs : List V} (h : H p = some (.lst xs)) : Tups K H (upd H p o) := Tups.put h (fun _ z => nomatch z) fun _ _ z => nomatch z
def sp_law_draw_rule (K : PySem.W.Frag) : Sp := fun vs H Q _ => ∃ b l top sc many, vs = [.ref b, .int top, .int sc, .int many] ∧ Bag H b l ∧ 1 ≤ top ∧ top ≤ 1000 ∧ 1 ≤ sc ∧ top * sc ≤ 10 ^ 50 ∧ 1 ≤ many ∧ many ≤ 100 ∧
  ∀ v T H', TrAt K H' v T → T.ok → T.le (top * sc) → (T.lv : Int) = many → Bag H' b l → Kp b H H' → Q v H'
def t_law_draw_rule (K : PySem.W.Frag) : TS :=
  (tSeq (tAsg (tLc (iRng1 (tCons (tVar 3) tNil)) (gName 6) tYes (tTup (tCons (tC (.str "at")) (tCons (tCall (sp_law_draw_size K) [] E0 (tCons (tVar 0) (tCons (tVar 1) (tCons (tVar 2) tNil)))) (tCons (tOp (rAddU K) (tC (.int 1)) (tCall (sp_law_take K) [] E0 (tCons (tVar 0) (tCons (tC (.int 6)) tNil)))) tNil)))) [6]) (gName 4))
    (tSeq (tWhile (tTest (tOp (rGtI) (tCB (rLenU K) (tCons (tVar 4) tNil)) (tC (.int 1)))) (tSeq (tAsg (tCall (sp_law_take K) [] E0 (tCons (tVar 0) (tCons (tOp (rSubI) (tCB (rLenU K) (tCons (tVar 4) tNil)) (tC (.int 1))) tNil))) (gName 5))
    (tAsg (tOp (rAddU K) (tOp (rAddU K) (tSl (rSlU K) (tVar 4) tNoPart (tPart (tVar 5))) (tLst (tCons (tTup (tCons (tOp (rIx K) (tLst (tCons (tC (.str "or")) (tCons (tC (.str "and")) tNil))) (tCall (sp_law_take K) [] E0 (tCons (tVar 0) (tCons (tC (.int 2)) tNil)))) (tCons (tOp (rIx K) (tVar 4) (tVar 5)) (tCons (tOp (rIx K) (tVar 4) (tOp (rAddU K) (tVar 5) (tC (.int 1)))) tNil)))) tNil))) (tSl (rSlU K) (tVar 4) (tPart (tOp (rAddU K) (tVar 5) (tC (.int 2)))) tNoPart)) (gName 4))))
    (tRet (tOp (rIx K) (tVar 4) (tC (.int 0))))))
theorem ln_law_draw_rule (h : sp_law_draw_rule K vs H Q E) : vs.length = 4 := by obtain ⟨_, _, _, _, _, rfl, _⟩ := h; rfl
theorem split2 {α : Type} {l : List α} {j : Nat} (h : j + 1 < l.length) : l = l.take j ++ (l[j] :: l[j + 1] :: l.drop (j + 2)) := by
  rw [← List.drop_eq_getElem_cons (by omega), ← List.drop_eq_getElem_cons (by omega), List.take_append_drop]
theorem rd_law_draw_rule (h : sp_law_draw_rule K vs H Q E) : t_law_draw_rule K (EndsOf Q) (start ["", "", "", "", "", "", ""] vs) H := by
  obtain ⟨b, l, top, sc, many, rfl, B, t1, t2, s1, ts, m1, m2, k⟩ := h
  have nb : ∀ {D : Addr}, H D = none → D ≠ b := fun h => B.nb h
  refine ⟨_, rfl, many, rfl, by omega, by omega, fun D hD => ?_⟩
  refine lc_range (lo := 0) (n := many.toNat) (fun i H' => Bag H' b l ∧ Kp b H H' ∧ ∃ zs : Ps, zs.length = i ∧ zs.lvs = i ∧ H' D = some (.lst (zs.map (·.1))) ∧ Ps.Ok K H' (top * sc) zs) ⟨B.same (same_new hD), kp_new hD, [], rfl, rfl, upd_same, fun z hz => nomatch hz⟩ ?_ ?_
  · rintro i G hi ⟨B1, k1, zs, hl, hv, hz, ok⟩
    refine ⟨rfl, ?_⟩
    refine ⟨_, rfl, _, rfl, _, rfl, b, l, top, sc, rfl, B1, t1, t2, s1, fun t G1 a0 a1 B2 k2 => ?_⟩
    refine ⟨_, rfl, b, l, 6, rfl, B2, by decide, by decide, fun q G2 q0 q1 B3 k3 => .inl ⟨_, _, rfl, rfl, two_fit.2.2.1, fun p hp => ?_⟩⟩
    have k23 := k2.trans k3
    have hz2 := k23 D _ hz (nb hD)
    have s4 := same_new (o := .tup [.str "at", .int t, .int (1 + q)]) hp
    have tp : Tups K G (upd G2 p (.tup [.str "at", .int t, .int (1 + q)])) := (B1.tups k23).trans (Tups.same s4)
    refine ⟨_, s4 _ _ hz2, small1000 (by rw [List.length_map]; omega), ?_, (k1.trans (k23.trans (Kp.of s4))).other hD, zs ++ [(.ref p, .at t (1 + q))], ?_, ?_, ?_, ?_⟩
    · exact (B3.same s4).put (nb hD).symm (B.nl hD).symm
    · rw [List.length_append, hl]; rfl
    · rw [Ps.lvs_app, hv]; rfl
    · rw [upd_same, List.map_append]; rfl
    · intro z q
      have tD := lst_tups (K := K) (o := .lst (zs.map (·.1) ++ [V.ref p])) (s4 _ _ hz2)
      rcases List.mem_append.mp q with q | q
      · exact ⟨((ok z q).1.mono tp).mono tD, (ok z q).2⟩
      · rw [List.mem_singleton.mp q]
        exact ⟨⟨p, rfl, tD _ _ (SqT.of upd_same)⟩, ⟨a0, by omega, by omega, by omega⟩, a1⟩
  rintro G ⟨B1, k1, zs, hl, hv, hz, ok⟩
  refine ⟨fun m σ' H' => ∃ (zs : Ps) (D : Addr) (at' : Option V), σ' = [some (.ref b), some (.int top), some (.int sc), some (.int many), some (.ref D), at', none] ∧ H D = none ∧ H' D = some (.lst (zs.map (·.1))) ∧ Ps.Ok K H' (top * sc) zs ∧
    zs.lvs = many.toNat ∧ 1 ≤ zs.length ∧ zs.length ≤ 100 ∧ Bag H' b l ∧ Kp b H H' ∧ m = zs.length, ⟨_, zs, D, none, rfl, hD, hz, ok, hv, by omega, by omega, B1, k1, rfl⟩, ?_⟩
  clear hl hv hz ok zs B1 k1 hD
  rintro m σ' G ⟨zs, D, at', rfl, hD, hz, ok, hv, l1, l2, B1, k1, rfl⟩
  refine ⟨_, rfl, .inl ⟨_, _, rfl, .inl ⟨_, SqL.of hz, rfl⟩, _, _, rfl, rfl, _, rfl, ?_⟩⟩
  rw [List.length_map]
  refine ifD (fun c => ?_) (fun c => ?_)
  · -- two neighbours become one
    refine ⟨fun σ2 H2 => ∃ (zs2 : Ps) (D2 : Addr) (at' : Option V), σ2 = [some (.ref b), some (.int top), some (.int sc), some (.int many), some (.ref D2), at', none] ∧ H D2 = none ∧ H2 D2 = some (.lst (zs2.map (·.1))) ∧ Ps.Ok K H2 (top * sc) zs2 ∧
      zs2.lvs = many.toNat ∧ 1 ≤ zs2.length ∧ zs2.length ≤ 100 ∧ Bag H2 b l ∧ Kp b H H2 ∧ zs2.length < zs.length, fun σ2 H2 ⟨zs2, D2, at', a1, a2, a3, a4, a5, a6, a7, a8, a9, a10⟩ => ⟨_, a10, zs2, D2, at', a1, a2, a3, a4, a5, a6, a7, a8, a9, rfl⟩, ?_⟩
    refine ⟨_, rfl, _, rfl, .inl ⟨_, _, rfl, .inl ⟨_, SqL.of hz, rfl⟩, _, _, rfl, rfl, ?_⟩⟩
    rw [List.length_map]
    refine ⟨b, l, _, rfl, B1, by omega, by omega, fun at' G1 a0 a1 B2 k2 => ?_⟩
    have hz1 := k2 D _ hz (nb hD)
    obtain ⟨j, rfl⟩ : ∃ j : Nat, at' = (j : Int) := ⟨at'.toNat, by omega⟩
    have hj : j + 1 < zs.length := by omega
    have t1 := B1.tups (K := K) k2
    have kp1 := k1.trans k2
    have ok1 := ok.mono t1
    clear hz ok B1 k1 t1
    -- some[:at]
    refine ⟨_, rfl, _, rfl, _, rfl, .inl ⟨D, _, rfl, SqL.of hz1, fun p1 hp1 => ?_⟩⟩
    rw [cutV_to]
    have e1 := same_new (o := .lst ((zs.map (·.1)).take j)) hp1
    -- ['or', 'and'][..]
    refine ⟨two_fit.2.1, fun p2 hp2 => ?_⟩
    have e2 := same_new (o := .lst [.str "or", .str "and"]) hp2
    have e12 := e1.trans e2
    refine ⟨_, rfl, b, l, 2, rfl, B2.same e12, by decide, by decide, fun w G2 w0 w1 B3 k3 => ?_⟩
    have np2 : p2 ≠ b := (B2.same e1).nb hp2
    have np1 : p1 ≠ b := B2.nb hp1
    obtain ⟨wd, hw, cw⟩ := pick2 (x := .str "or") (y := .str "and") w0 w1
    have h2 := k3 p2 _ upd_same np2
    have h1 := k3 p1 _ (e2 _ _ upd_same) np1
    have hz2 := k3 D _ (e12 _ _ hz1) (nb hD)
    have tt : Tups K G1 G2 := (Tups.same e12).trans ((B2.same e12).tups k3)
    have ok2 := ok1.mono tt
    have kp2 := kp1.trans ((Kp.of e12).trans k3)
    refine .inl ⟨p2, _, w, wd, rfl, rfl, SqL.of h2, hw, ?_⟩
    -- some[at], some[at + 1]
    have g1 : (zs.map (·.1))[j]? = some (zs[j].1) := by rw [List.getElem?_map, List.getElem?_eq_getElem (by omega)]; rfl
    have g2 : (zs.map (·.1))[j + 1]? = some (zs[j + 1].1) := by rw [List.getElem?_map, List.getElem?_eq_getElem hj]; rfl
    refine ⟨_, rfl, _, rfl, .inl ⟨D, _, _, _, rfl, rfl, SqL.of hz2, at_of rfl g1, ?_⟩⟩
    refine ⟨_, rfl, _, rfl, .inl ⟨_, _, rfl, rfl, .inl ⟨D, _, _, _, rfl, rfl, SqL.of hz2, at_of (by omega) g2, ?_⟩⟩⟩
    refine ⟨two_fit.2.2.1, fun p3 hp3 => ?_⟩
    have e3 := same_new (o := .tup [wd, zs[j].1, zs[j + 1].1]) hp3
    refine ⟨two_fit.1, fun p4 hp4 => ?_⟩
    have e4 := same_new (o := .lst [.ref p3]) hp4
    have e34 := e3.trans e4
    refine .inr (.inr (.inl ⟨p1, p4, _, _, rfl, rfl, e34 _ _ h1, upd_same, ?_, fun p5 hp5 => ?_⟩))
    · rw [List.length_take, List.length_map, List.length_singleton]
      exact Nat.le_of_lt (small1000 (by omega))
    have e5 := same_new (o := .lst ((zs.map (·.1)).take j ++ [.ref p3])) hp5
    have e35 := e34.trans e5
    refine ⟨_, rfl, _, rfl, .inl ⟨_, _, rfl, rfl, _, rfl, .inl ⟨D, _, rfl, SqL.of (e35 _ _ hz2), fun p6 hp6 => ?_⟩⟩⟩
    rw [show ((j : Int) + 2) = ((j + 2 : Nat) : Int) from rfl, cutV_from]
    have e6 := same_new (o := .lst ((zs.map (·.1)).drop (j + 2))) hp6
    refine .inr (.inr (.inl ⟨p5, p6, _, _, rfl, rfl, e6 _ _ upd_same, upd_same, ?_, fun p7 hp7 => ?_⟩))
    · rw [List.length_append, List.length_take, List.length_drop, List.length_map, List.length_singleton]
      exact Nat.le_of_lt (small1000 (by omega))
    have e7 := same_new (o := .lst ((zs.map (·.1)).take j ++ [.ref p3] ++ (zs.map (·.1)).drop (j + 2))) hp7
    have all : Same G2 _ := e35.trans (e6.trans e7)
    obtain ⟨A, hA⟩ : ∃ A, A = (zs[j]).2 := ⟨_, rfl⟩
    obtain ⟨Z, hZ⟩ : ∃ Z, Z = (zs[j + 1]).2 := ⟨_, rfl⟩
    obtain ⟨q1, q2, q3⟩ := ok2 _ (List.getElem_mem (show j < zs.length by omega))
    obtain ⟨r1, r2, r3⟩ := ok2 _ (List.getElem_mem hj)
    rw [← hA] at q1 q2 q3
    rw [← hZ] at r1 r2 r3
    -- the tree of both
    obtain ⟨W, hW, oW, lW, vW⟩ : ∃ W : Tr, (∀ G', Same G2 G' → G' p3 = some (.tup [wd, zs[j].1, zs[j + 1].1]) → TrAt K G' (.ref p3) W) ∧ W.ok ∧ W.le (top * sc) ∧ W.lv = A.lv + Z.lv := by
      rcases cw with ⟨_, rfl⟩ | ⟨_, rfl⟩
      · exact ⟨.or A Z, fun G' s h => ⟨p3, _, _, rfl, SqT.of h, q1.mono (Tups.same s), r1.mono (Tups.same s)⟩, ⟨q2, r2⟩, ⟨q3, r3⟩, rfl⟩
      · exact ⟨.and A Z, fun G' s h => ⟨p3, _, _, rfl, SqT.of h, q1.mono (Tups.same s), r1.mono (Tups.same s)⟩, ⟨q2, r2⟩, ⟨q3, r3⟩, rfl⟩
    have hp3' := (e4.trans (e5.trans (e6.trans e7))) p3 _ upd_same
    refine ⟨zs.take j ++ [(.ref p3, W)] ++ zs.drop (j + 2), p7, _, rfl, ?_, ?_, ?_, ?_, ?_, ?_, B3.same all, kp2.trans (Kp.of all), ?_⟩
    · cases e : H p7 with
      | none => rfl
      | some o =>
        have z1 := (kp2.trans (Kp.of (e35.trans e6))) p7 o e
        by_cases hb : p7 = b
        · obtain ⟨ys, hb'⟩ := (B3.same (e35.trans e6)).at
          rw [hb, hb'] at hp7
          cases hp7
        · rw [z1 hb] at hp7
          cases hp7
    · rw [upd_same, List.map_append, List.map_append, List.map_take, List.map_drop]
      rfl
    · intro z hz
      rcases List.mem_append.mp hz with hz | hz
      · rcases List.mem_append.mp hz with hz | hz
        · exact (ok2.mono (Tups.same all)) z (List.mem_of_mem_take hz)
        · rw [List.mem_singleton.mp hz]
          exact ⟨hW _ all hp3', oW, lW⟩
      · exact (ok2.mono (Tups.same all)) z (List.mem_of_mem_drop hz)
    · have e0 : Ps.lvs zs = Ps.lvs (zs.take j) + (A.lv + (Z.lv + Ps.lvs (zs.drop (j + 2)))) := by
        conv => lhs; rw [split2 hj, Ps.lvs_app]
        rw [hA, hZ]
        rfl
      have e1 : Ps.lvs [((.ref p3 : V), W)] = W.lv := by show W.lv + 0 = W.lv; omega
      rw [Ps.lvs_app, Ps.lvs_app, e1, vW]
      omega
    all_goals
      rw [List.length_append, List.length_append, List.length_take, List.length_drop, List.length_singleton]
      omega
  · -- one is left
    obtain ⟨⟨v, T⟩, rfl⟩ : ∃ z, zs = [z] := by
      cases zs with
      | nil => exact absurd l1 (by decide)
      | cons z r =>
        cases r with
        | nil => exact ⟨z, rfl⟩
        | cons y r => exact absurd (by rw [List.length_cons, List.length_cons]; omega) c
    obtain ⟨a1, a2, a3⟩ := ok (v, T) (List.mem_singleton.mpr rfl)
    have e : T.lv = many.toNat := hv
    exact ⟨_, rfl, .inl ⟨D, _, 0, v, rfl, rfl, SqL.of hz, rfl, k v T G a1 a2 a3 (by omega) B1 k1⟩⟩
end
end Pk
set_option Elab.async false
set_option linter.all false
set_option maxRecDepth 100000
set_option maxHeartbeats 2000000
namespace Pk
open PySem PySem.Spec L2 PyProof.Rows
section
variable {K : PySem.W.Frag} {C : Cs} {vs : List V} {H H' : Hp} {Q : VK} {E : XK} {n : Nat}
theorem RuleAt.kpB {v : V} {T : Tr} {b l : Addr} (h : RuleAt K C H v T) (B : Bag H b l) (k : Kp b H H') : RuleAt K C H' v T := by
  obtain ⟨ys, hb⟩ := B.at
  exact h.kp k hb
def sp_law_made (K : PySem.W.Frag) (C : Cs) (n : Nat) : Sp := fun vs H Q _ => ∃ b l v T, vs = [.ref b, v] ∧ Bag H b l ∧ TrAt K H v T ∧ T.ok ∧ T.lv ≤ 6 ∧ T.dp ≤ n ∧ FxRule K C ∧ ∀ x H', RuleAt K C H' x T → Bag H' b l → Kp b H H' → Q x H'
def t_law_made (K : PySem.W.Frag) (C : Cs) (n : Nat) : TS :=
  (tSeq (tAsg (tVar 1) (gTup K 3 (gCons (gName 2) (gCons (gName 3) (gCons (gName 4) gNil)))))
    (tSeq (tIfS (tTest (tOp (rEqU K) (tCall (sp_law_take K) [] E0 (tCons (tVar 0) (tCons (tC (.int 2)) tNil))) (tC (.int 0)))) (tRet (tMake C.Rule (sp_Rule___init__ K C) [] E0 (tCons (tVar 1) tNil))) tNext)
    (tSeq (tIfS (tTest (tOp (rEqU K) (tVar 2) (tC (.str "at")))) (tRet (tIf (tTest (tOp (rEqU K) (tVar 4) (tC (.int 1)))) (tCall (sp_at_least K C) [.int 1] E0 (tCons (tVar 3) tNil)) (tCall (sp_at_least K C) [] E0 (tCons (tVar 3) (tCons (tVar 4) tNil))))) tNext)
    (tSeq (tPar 5 6 (tCons (tCall (sp_law_made K C n) [] E0 (tCons (tVar 0) (tCons (tVar 3) tNil))) (tCons (tCall (sp_law_made K C n) [] E0 (tCons (tVar 0) (tCons (tVar 4) tNil))) tNil)))
    (tRet (tIf (tTest (tOp (rEqU K) (tVar 2) (tC (.str "or")))) (tOp (rOwnB C.Rule (sp_Rule___or__ K C) E0) (tVar 5) (tVar 6)) (tOp (rOwnB C.Rule (sp_Rule___and__ K C) E0) (tVar 5) (tVar 6))))))))
theorem no_law_made (h : sp_law_made K C 0 vs H Q E) : False := by
  obtain ⟨_, _, _, T, _, _, _, _, _, h, _⟩ := h
  have := T.dp_pos
  omega
theorem ln_law_made (h : sp_law_made K C n vs H Q E) : vs.length = 2 := by obtain ⟨_, _, _, _, rfl, _⟩ := h; rfl
theorem rd_law_made (h : sp_law_made K C (n + 1) vs H Q E) : t_law_made K C n (EndsOf Q) (start ["", "", "", "", "", "", ""] vs) H := by
  obtain ⟨b, l, v, T, rfl, B, hT, ok, l6, hd, fx, k⟩ := h
  obtain ⟨a, w, x, y, rfl, s, cw⟩ := hT.tuple
  refine ⟨_, rfl, g3 s ?_⟩
  refine ⟨_, rfl, b, l, 2, rfl, B, by decide, by decide, fun r G r0 r1 B1 k1 => .inl ⟨rfl, _, rfl, ?_⟩⟩
  have tt := B.tups (K := K) k1
  refine ifI (fun _ => ?_) (fun _ => ?_)
  · refine ⟨_, rfl, make_rule (t := tNil) (σ := []) fx ok l6 (hT.mono tt) fun x H' hx s2 r => k (.ref x) H' r (B1.same s2) (k1.trans (Kp.of s2))⟩
  refine ⟨_, rfl, .inl ⟨rfl, _, rfl, ?_⟩⟩
  have two : ∀ {A Z : Tr} {w : Str}, T.ok → max A.dp Z.dp + 1 ≤ n + 1 → A.lv + Z.lv ≤ 6 → A.ok → Z.ok → TrAt K H x A → TrAt K H y Z → ((w = "or" ∧ T = .or A Z) ∨ (w = "and" ∧ T = .and A Z)) →
      tSeq (tPar 5 6 (tCons (tCall (sp_law_made K C n) [] E0 (tCons (tVar 0) (tCons (tVar 3) tNil))) (tCons (tCall (sp_law_made K C n) [] E0 (tCons (tVar 0) (tCons (tVar 4) tNil))) tNil)))
        (tRet (tIf (tTest (tOp (rEqU K) (tVar 2) (tC (.str "or")))) (tOp (rOwnB C.Rule (sp_Rule___or__ K C) E0) (tVar 5) (tVar 6)) (tOp (rOwnB C.Rule (sp_Rule___and__ K C) E0) (tVar 5) (tVar 6)))) (EndsOf Q)
        [some (.ref b), some (.ref a), some (.str w), some x, some y, none, none] G := by
    intro A Z w _ hd' l6 oA oZ hA hZ c
    refine ⟨_, rfl, _, rfl, b, l, x, A, rfl, B1, hA.mono tt, oA, by omega, by omega, fx, fun u G1 R1 B2 k2 => ?_⟩
    refine ⟨_, rfl, _, rfl, b, l, y, Z, rfl, B2, (hZ.mono tt).mono (B1.tups k2), oZ, by omega, by omega, fx, fun z G2 R2 B3 k3 => ⟨_, _, rfl, ?_⟩⟩
    have R1' := R1.kpB B2 k3
    have kk := k1.trans (k2.trans k3)
    obtain ⟨ru, du, xu, rfl, hu, ru'⟩ := id R1'
    obtain ⟨rz, dz, xz, rfl, hz, rz'⟩ := id R2
    refine ⟨_, rfl, .inl ⟨rfl, _, rfl, ?_⟩⟩
    rcases c with ⟨rfl, rfl⟩ | ⟨rfl, rfl⟩
    · refine ifS (fun _ => ?_) (fun z => absurd rfl z)
      exact ⟨_, rfl, _, rfl, ru, rz, du, _, dz, _, rfl, rfl, hu, hz, _, _, A, Z, rfl, R1', R2, l6, fun q G3 hq s3 R3 => k _ G3 R3 (B3.same s3) (kk.trans (Kp.of s3))⟩
    · refine ifS (fun z => absurd z and_or) (fun _ => ?_)
      exact ⟨_, rfl, _, rfl, ru, rz, du, _, dz, _, rfl, rfl, hu, hz, _, _, A, Z, rfl, R1', R2, l6, fun q G3 hq s3 R3 => k _ G3 R3 (B3.same s3) (kk.trans (Kp.of s3))⟩
  rcases cw with ⟨rfl, t, q, rfl, rfl, rfl⟩ | ⟨rfl, A, Z, rfl, hA, hZ⟩ | ⟨rfl, A, Z, rfl, hA, hZ⟩
  · refine ifS (fun _ => ?_) (fun z => absurd rfl z)
    refine ⟨_, rfl, .inl ⟨rfl, _, rfl, ?_⟩⟩
    refine ifI (fun e => ?_) (fun _ => ?_)
    · subst e
      exact ⟨_, rfl, t, 1, rfl, ok, fx, fun x G1 hx s2 r => k _ G1 r (B1.same s2) (k1.trans (Kp.of s2))⟩
    · exact ⟨_, rfl, _, rfl, t, q, rfl, ok, fx, fun x G1 hx s2 r => k _ G1 r (B1.same s2) (k1.trans (Kp.of s2))⟩
  · refine ifS (fun z => absurd z or_at) (fun _ => ?_)
    exact two ok hd l6 ok.1 ok.2 hA hZ (.inl ⟨rfl, rfl⟩)
  · refine ifS (fun z => absurd z and_at) (fun _ => ?_)
    exact two ok hd l6 ok.1 ok.2 hA hZ (.inr ⟨rfl, rfl⟩)
/-! ### amounts near the thresholds -/
def imax (i j : Int) : Int := if j > i then j else i
def Tr.tops : Tr → List Int
  | .at t q => [imax t q]
  | .or a b => tops a ++ tops b
  | .and a b => tops a ++ tops b
theorem Tr.tops_len : ∀ T : Tr, T.tops.length = T.lv
  | .at _ _ => rfl
  | .or a b => by show (tops a ++ tops b).length = _; rw [List.length_append, tops_len a, tops_len b]; rfl
  | .and a b => by show (tops a ++ tops b).length = _; rw [List.length_append, tops_len a, tops_len b]; rfl
theorem Tr.tops_ok : ∀ {T : Tr}, T.ok → ∀ i ∈ T.tops, 1 ≤ i ∧ i ≤ 10 ^ 50
  | .at t q, h, i, hi => by
    obtain ⟨h1, h2, h3, h4⟩ := h
    rw [List.mem_singleton.mp hi]
    unfold imax
    split <;> omega
  | .or a b, h, i, hi => (List.mem_append.mp hi).elim (tops_ok h.1 i) (tops_ok h.2 i)
  | .and a b, h, i, hi => (List.mem_append.mp hi).elim (tops_ok h.1 i) (tops_ok h.2 i)
def sp_law_bounds (K : PySem.W.Frag) (n : Nat) : Sp := fun vs H Q _ => ∃ v T, vs = [v] ∧ TrAt K H v T ∧ T.dp ≤ n ∧ T.lv ≤ 100 ∧ ∀ p H', H p = none → Same H H' → H' p = some (.lst (T.tops.map V.int)) → Q (.ref p) H'
def t_law_bounds (K : PySem.W.Frag) (n : Nat) : TS :=
  (tSeq (tAsg (tVar 0) (gTup K 3 (gCons (gName 1) (gCons (gName 2) (gCons (gName 3) gNil)))))
    (tRet (tIf (tTest (tOp (rEqU K) (tVar 1) (tC (.str "at")))) (tLst (tCons (tCB (rMax2) (tCons (tVar 2) (tCons (tVar 3) tNil))) tNil)) (tOp (rAddU K) (tCall (sp_law_bounds K n) [] E0 (tCons (tVar 2) tNil)) (tCall (sp_law_bounds K n) [] E0 (tCons (tVar 3) tNil))))))
theorem no_law_bounds (h : sp_law_bounds K 0 vs H Q E) : False := by
  obtain ⟨_, T, _, _, h, _⟩ := h
  have := T.dp_pos
  omega
theorem ln_law_bounds (h : sp_law_bounds K n vs H Q E) : vs.length = 1 := by obtain ⟨_, _, rfl, _⟩ := h; rfl
theorem rd_law_bounds (h : sp_law_bounds K (n + 1) vs H Q E) : t_law_bounds K n (EndsOf Q) (start ["", "", "", ""] vs) H := by
  obtain ⟨v, T, rfl, hT, hd, hl, k⟩ := h
  obtain ⟨a, w, x, y, rfl, s, cw⟩ := hT.tuple
  refine ⟨_, rfl, g3 s ?_⟩
  refine ⟨_, rfl, .inl ⟨rfl, _, rfl, ?_⟩⟩
  have two : ∀ {A B : Tr}, T.tops = A.tops ++ B.tops → T.lv = A.lv + B.lv → max A.dp B.dp + 1 ≤ n + 1 → TrAt K H x A → TrAt K H y B →
      tOp (rAddU K) (tCall (sp_law_bounds K n) [] E0 (tCons (tVar 2) tNil)) (tCall (sp_law_bounds K n) [] E0 (tCons (tVar 3) tNil)) [some (.ref a), some (.str w), some x, some y] H Q := by
    intro A B e1 e2 hd' hA hB
    refine ⟨_, rfl, x, A, rfl, hA, by omega, by omega, fun p H1 hp s1 h1 => ?_⟩
    refine ⟨_, rfl, y, B, rfl, hB.mono (Tups.same s1), by omega, by omega, fun p2 H2 hp2 s2 h2 => ?_⟩
    refine .inr (.inr (.inl ⟨p, p2, _, _, rfl, rfl, s2 _ _ h1, h2, ?_, fun r hr => ?_⟩))
    · rw [List.length_map, List.length_map, A.tops_len, B.tops_len]
      exact Nat.le_of_lt (small1000 (by omega))
    · refine k r _ ((s1.trans s2).free hr) ((s1.trans s2).trans (same_new hr)) ?_
      rw [upd_same, e1, List.map_append]
  rcases cw with ⟨rfl, t, q, rfl, rfl, rfl⟩ | ⟨rfl, A, B, rfl, hA, hB⟩ | ⟨rfl, A, B, rfl, hA, hB⟩
  · refine ifS (fun _ => ?_) (fun z => absurd rfl z)
    exact ⟨_, rfl, _, rfl, _, _, rfl, two_fit.1, fun p hp => k p _ hp (same_new hp) upd_same⟩
  · refine ifS (fun z => absurd z or_at) (fun _ => ?_)
    exact two rfl rfl hd hA hB
  · refine ifS (fun z => absurd z and_at) (fun _ => ?_)
    exact two rfl rfl hd hA hB
theorem pick3 {x y z : V} {v : Int} (h0 : 0 ≤ v) (h1 : v < 3) : ∃ u, atI [x, y, z] v = some u ∧ (u = x ∨ u = y ∨ u = z) := by
  rcases (by omega : v = 0 ∨ v = 1 ∨ v = 2) with rfl | rfl | rfl
  · exact ⟨x, rfl, .inl rfl⟩
  · exact ⟨y, rfl, .inr (.inl rfl)⟩
  · exact ⟨z, rfl, .inr (.inr rfl)⟩
theorem kp_keep {b p : Addr} {xs : List V} (k : Kp b H H') (h : H p = some (.lst xs)) (n : p ≠ b) : H' p = some (.lst xs) := k p _ h n
/-- a number of amounts, none below nought -/
def sp_law_amounts (K : PySem.W.Frag) : Sp := fun vs H Q _ => ∃ b l v T many, vs = [.ref b, v, .int many] ∧ Bag H b l ∧ TrAt K H v T ∧ T.ok ∧ T.lv ≤ 6 ∧ 0 ≤ many ∧ many ≤ 100 ∧
  ∀ (p : Addr) (ns : List Int) (H' : Hp), H p = none → H' p = some (.lst (ns.map V.int)) → ns.length = many.toNat + 2 → (∀ i ∈ ns, 0 ≤ i ∧ i ≤ 10 ^ 60) → Bag H' b l → Kp b H H' → Q (.ref p) H'
def t_law_amounts (K : PySem.W.Frag) : TS :=
  (tSeq (tPar 3 4 (tCons (tCall (sp_law_bounds K 7) [] E0 (tCons (tVar 1) tNil)) (tCons (tLst (tCons (tC (.int 0)) (tCons (tC (.int 1)) tNil))) tNil)))
    (tSeq (tFor (iRng1 (tCons (tVar 2) tNil)) (gName 5) (tSeq (tAsg (tOp (rSubI) (tOp (rAddU K) (tOp (rIx K) (tVar 3) (tCall (sp_law_take K) [] E0 (tCons (tVar 0) (tCons (tCB (rLenU K) (tCons (tVar 3) tNil)) tNil)))) (tCall (sp_law_take K) [] E0 (tCons (tVar 0) (tCons (tC (.int 70)) tNil)))) (tC (.int 9))) (gName 6))
    (tDrop (tBM K "list" rAppend (tVar 4) (tCons (tOp (rIx K) (tLst (tCons (tCB (rMax2) (tCons (tC (.int 0)) (tCons (tVar 6) tNil))) (tCons (tCall (sp_law_take K) [] E0 (tCons (tVar 0) (tCons (tOp (rPowI) (tC (.int 10)) (tC (.int 30))) tNil))) (tCons (tCall (sp_law_take K) [] E0 (tCons (tVar 0) (tCons (tC (.int 80)) tNil))) tNil)))) (tCall (sp_law_take K) [] E0 (tCons (tVar 0) (tCons (tC (.int 3)) tNil)))) tNil)))))
    (tRet (tVar 4))))
theorem ln_law_amounts (h : sp_law_amounts K vs H Q E) : vs.length = 3 := by obtain ⟨_, _, _, _, _, rfl, _⟩ := h; rfl
theorem rd_law_amounts (h : sp_law_amounts K vs H Q E) : t_law_amounts K (EndsOf Q) (start ["", "", "", "", "", "", ""] vs) H := by
  obtain ⟨b, l, v, T, many, rfl, B, hT, ok, l6, m0, m1, k⟩ := h
  refine ⟨_, rfl, v, T, rfl, hT, Tr.dp6 l6, by omega, fun p H1 hp s1 h1 => ?_⟩
  refine ⟨two_fit.2.1, fun f hf => ⟨_, _, rfl, ?_⟩⟩
  have s2 := same_new (o := .lst [.int 0, .int 1]) hf
  have s12 := s1.trans s2
  have nb : ∀ {D : Addr}, H D = none → D ≠ b := fun h => B.nb h
  have hf0 : H f = none := s1.free hf
  have hp2 := s2 _ _ h1
  have hf2 : (upd H1 f (.lst [.int 0, .int 1])) f = some (.lst [.int 0, .int 1]) := upd_same
  have npf : p ≠ f := ne_of_none h1 hf
  generalize upd H1 f (.lst [.int 0, .int 1]) = G at s12 hp2 hf2 ⊢
  refine ⟨_, rfl, many, rfl, by omega, by omega, ?_⟩
  refine for_range (lo := 0) (n := many.toNat) (fun i σ' G' => ∃ (c1 c2 : Option V) (ns : List Int), σ' = [some (.ref b), some v, some (.int many), some (.ref p), some (.ref f), c1, c2] ∧ Bag G' b l ∧ Kp b H G' ∧ G' p = some (.lst (T.tops.map V.int)) ∧
    G' f = some (.lst (ns.map V.int)) ∧ ns.length = i + 2 ∧ ∀ z ∈ ns, 0 ≤ z ∧ z ≤ 10 ^ 60) ⟨none, none, [0, 1], rfl, B.same s12, Kp.of s12, hp2, hf2, rfl, ?_⟩ ?_ ?_
  · intro z hz
    rcases List.mem_cons.mp hz with rfl | hz
    · decide
    · rw [List.mem_singleton.mp hz]; decide
  · rintro i σ' G' hi ⟨c1, c2, ns, rfl, B1, k1, hp1, hf1, hl, hn⟩
    refine ⟨_, rfl, _, rfl, _, rfl, .inl ⟨_, _, rfl, .inl ⟨_, SqL.of hp1, rfl⟩, ?_⟩⟩
    have tl := T.tops_len
    have lp := T.lv_pos
    rw [List.length_map, tl]
    refine ⟨b, l, _, rfl, B1, by omega, by omega, fun j G1 j0 j1 B2 k2 => ?_⟩
    have hp2 := k2 p _ hp1 (nb hp)
    have hj : j.toNat < T.tops.length := by omega
    have g : (T.tops.map V.int)[j.toNat]? = some (.int (T.tops[j.toNat])) := by rw [List.getElem?_map, List.getElem?_eq_getElem hj]; rfl
    obtain ⟨t1, t2⟩ := Tr.tops_ok ok _ (List.getElem_mem hj)
    generalize T.tops[j.toNat] = tj at g t1 t2
    refine .inl ⟨p, _, j, .int tj, rfl, rfl, SqL.of hp2, at_of (by omega) g, ?_⟩
    refine ⟨_, rfl, b, l, 70, rfl, B2, by decide, by decide, fun r G2 r0 r1 B3 k3 => .inl ⟨_, _, rfl, rfl, _, _, rfl, rfl, ?_⟩⟩
    have k13 := k1.trans (k2.trans k3)
    have hf3 := k3 f _ (k2 f _ hf1 (nb hf0)) (nb hf0)
    have hp3 := k3 p _ hp2 (nb hp)
    -- found.append(..)
    refine ⟨_, rfl, .inl ⟨rfl, _, SqL.of hf3⟩, _, rfl, _, _, rfl, _, rfl, _, _, rfl, rfl, ⟨by decide, by decide, by decide⟩, ?_⟩
    refine ⟨b, l, _, rfl, B3, by decide, by decide, fun y1 G3 y0 y2 B4 k4 => ?_⟩
    refine ⟨_, rfl, b, l, 80, rfl, B4, by decide, by decide, fun y3 G4 y4 y5 B5 k5 => ⟨two_fit.2.2.1, fun q hq => ?_⟩⟩
    refine ⟨_, rfl, b, l, 3, rfl, B5.same (same_new hq), by decide, by decide, fun y6 G5 y7 y8 B6 k6 => ?_⟩
    have nq : q ≠ b := B5.nb hq
    have hq5 := k6 q _ upd_same nq
    obtain ⟨u, hu, cu⟩ := pick3 (x := .int (if tj + r - 9 > 0 then tj + r - 9 else 0)) (y := .int y1) (z := .int y3) y7 y8
    refine .inl ⟨q, _, y6, u, rfl, rfl, SqL.of hq5, hu, ?_⟩
    have k46 := k4.trans (k5.trans ((kp_new hq).trans k6))
    have hf6 := k46 f _ hf3 (nb hf0)
    have hp6 := k46 p _ hp3 (nb hp)
    refine ⟨f, _, u, rfl, rfl, hf6, small1000 (by rw [List.length_map]; omega), ?_⟩
    have e10 : (10 : Int) ^ (30 : Int).toNat = 10 ^ 30 := rfl
    have lim : (10 : Int) ^ 30 ≤ 10 ^ 60 := by decide
    have lim2 : (10 : Int) ^ 50 + 100 ≤ 10 ^ 60 := by decide
    obtain ⟨z, rfl, hz⟩ : ∃ z, u = .int z ∧ 0 ≤ z ∧ z ≤ 10 ^ 60 := by
      rcases cu with rfl | rfl | rfl
      · refine ⟨_, rfl, ?_⟩
        split <;> omega
      · exact ⟨_, rfl, y0, by rw [e10] at y2; omega⟩
      · exact ⟨_, rfl, y4, by omega⟩
    refine ⟨_, _, ns ++ [z], rfl, (B6).put (nb hf0).symm (B.nl hf0).symm, (k13.trans k46).other hf0, by rw [upd_ne npf]; exact hp6, ?_, ?_, ?_⟩
    · rw [upd_same, List.map_append]; rfl
    · rw [List.length_append, hl]; rfl
    · intro y hy
      rcases List.mem_append.mp hy with hy | hy
      · exact hn y hy
      · rw [List.mem_singleton.mp hy]; exact hz
  · rintro σ' G' ⟨c1, c2, ns, rfl, B1, k1, hp1, hf1, hl, hn⟩
    exact ⟨_, rfl, k f ns G' hf0 hf1 hl hn B1 k1⟩
end
end Pk
set_option Elab.async false
set_option linter.all false
set_option maxRecDepth 100000
set_option maxHeartbeats 2000000
namespace Pk
open PySem PySem.Spec L2 PyProof.Rows
/-- the law: of a list of at most 63 ints it gives True -/
def sp_law (K : PySem.W.Frag) : Sp := fun vs H Q _ => ∃ (a : Addr) (ns : List Int), vs = [.ref a] ∧ SqL K H a (ns.map V.int) ∧ ns.length ≤ 63 ∧ ∀ H', Q (.bl true) H'
theorem ln_law {K : PySem.W.Frag} {vs : List V} {H : Hp} {Q : VK} {E : XK} (h : sp_law K vs H Q E) : vs.length = 1 := by obtain ⟨_, _, rfl, _⟩ := h; rfl
/-! ### data that is shown -/
theorem small_log {n : Int} (h : n.natAbs ≤ 10 ^ 100) : decide (n.natAbs.log2 < 1920) = true := by
  refine decide_eq_true ?_
  have h2 : n.natAbs < 2 ^ 1920 := by
    have z2 : (10 : Nat) ^ 100 < 2 ^ 1920 := by decide +kernel
    omega
  by_cases e : n.natAbs = 0
  · rw [e]; decide
  · exact (Nat.log2_lt e).mpr h2
theorem good_int {n : Int} (h : n.natAbs ≤ 10 ^ 100) : Good (.int n) := ⟨rfl, small_log h, by simp [siz]⟩
theorem good_bool (b : Bool) : Good (.bool b) := ⟨rfl, rfl, by cases b <;> decide⟩
theorem good_none : Good .none := ⟨rfl, rfl, by decide⟩
theorem shaped_iff {d : PyData} : SeqAt.shaped d = true ↔ d.canLay0 = true ∧ d.depth ≤ 64 := by
  constructor
  · intro h; exact ⟨SeqAt.canLay_of_shaped h, SeqAt.depth_of_shaped h⟩
  · rintro ⟨h1, h2⟩
    show (d.canLay0 && decide (d.depth ≤ 64)) = true
    rw [h1, decide_eq_true h2]; rfl
/-- items of a list or tuple: each one good to a depth and a size -/
structure GoodTo (n m : Nat) (d : PyData) : Prop where
  lay : d.canLay0 = true
  dep : d.depth ≤ n
  wr : d.showable = true
  sz : siz d ≤ m
theorem GoodTo.good {n m : Nat} {d : PyData} (g : GoodTo n m d) (h1 : n ≤ 64 := by decide) (h2 : m ≤ 16000000 := by decide) : Good d :=
  ⟨shaped_iff.mpr ⟨g.lay, Nat.le_trans g.dep h1⟩, g.wr, Nat.le_trans g.sz h2⟩
theorem GoodTo.mono {n m n' m' : Nat} {d : PyData} (g : GoodTo n m d) (h1 : n ≤ n' := by omega) (h2 : m ≤ m' := by omega) : GoodTo n' m' d := ⟨g.lay, Nat.le_trans g.dep h1, g.wr, Nat.le_trans g.sz h2⟩
theorem gt_int {n : Int} (h : n.natAbs ≤ 10 ^ 100) : GoodTo 0 2000 (.int n) := ⟨rfl, by simp [PyData.depth], small_log h, by simp [siz]⟩
theorem gt_bool (b : Bool) : GoodTo 0 8 (.bool b) := ⟨rfl, by simp [PyData.depth], rfl, by simp [siz]⟩
theorem gt_none : GoodTo 0 8 .none := ⟨rfl, by simp [PyData.depth], rfl, by simp [siz]⟩
theorem gt_tree {T : Tr} (h : T.ok) : GoodTo T.lv (5000 * T.lv) T.pd := ⟨T.pd_lay, Nat.le_trans T.pd_depth T.dp_le, T.pd_show h, by have := T.pd_siz; omega⟩
/-- all items of a list good -/
structure AllTo (n m : Nat) (ds : List PyData) : Prop where
  lay : PyData.canLayAll0 ds = true
  dep : PyData.depthAll ds ≤ n
  wr : PyData.showableAll ds = true
  sz : sizL ds ≤ m
theorem at_nil : AllTo 0 0 [] := ⟨rfl, by simp [PyData.depthAll], rfl, by simp [sizL]⟩
theorem at_cons {n m k j : Nat} {d : PyData} {ds : List PyData} (g : GoodTo n m d) (a : AllTo k j ds) : AllTo (max n k) (m + 4 + j) (d :: ds) := by
  refine ⟨?_, ?_, ?_, ?_⟩
  · simp only [PyData.canLayAll0, g.lay, a.lay, Bool.and_self]
  · have h1 := g.dep
    have h2 := a.dep
    simp only [PyData.depthAll]
    omega
  · simp only [PyData.showableAll, g.wr, a.wr, Bool.and_self]
  · have h1 := g.sz
    have h2 := a.sz
    simp only [sizL]
    omega
theorem gt_list {n m : Nat} {ds : List PyData} (a : AllTo n m ds) : GoodTo (n + 1) (8 + m) (.list ds) := by
  refine ⟨?_, ?_, ?_, ?_⟩
  · simp only [PyData.canLay0]; exact a.lay
  · have := a.dep
    simp only [PyData.depth]; omega
  · simp only [PyData.showable]; exact a.wr
  · have := a.sz
    simp only [siz]; omega
theorem gt_tuple {n m : Nat} {ds : List PyData} (a : AllTo n m ds) : GoodTo (n + 1) (8 + m) (.tuple ds) := by
  refine ⟨?_, ?_, ?_, ?_⟩
  · simp only [PyData.canLay0]; exact a.lay
  · have := a.dep
    simp only [PyData.depth]; omega
  · simp only [PyData.showable]; exact a.wr
  · have := a.sz
    simp only [siz]; omega
theorem Tr.give_le : ∀ {T : Tr} {i : Int}, T.ok → 0 ≤ i → 0 ≤ T.give i ∧ T.give i ≤ i
  | .at t q, i, h, h0 => by
    obtain ⟨h1, h2, h3, h4⟩ := h
    show 0 ≤ (if t ≤ i then i - i % q else 0) ∧ (if t ≤ i then i - i % q else 0) ≤ i
    have e1 := Int.emod_nonneg i (show q ≠ 0 by omega)
    have e2 : 0 ≤ q * (i / q) := Int.mul_nonneg (by omega) (Int.ediv_nonneg h0 (by omega))
    have e3 := Int.emod_def i q
    split <;> omega
  | .or a b, i, h, h0 => by
    have q1 := give_le h.1 h0
    have q2 := give_le h.2 h0
    rw [Tr.give_or]
    split <;> omega
  | .and a b, i, h, h0 => by
    have q1 := give_le h.1 h0
    have q2 := give_le h.2 h0
    rw [Tr.give_and]
    split <;> omega
/-! ### the drawn scale -/
theorem scale_text : ∀ n : Nat, n < 31 → PySem.intText? ("1" ++ Txt.mul "0" (n : Int)) = some (10 ^ n) ∧ (("1" : Str) ++ Txt.mul "0" (n : Int)).length ≤ 640 ∧ (Txt.mul "0" (n : Int)).length ≤ 100 := by decide +kernel
end Pk
set_option Elab.async false
set_option linter.all false
set_option maxRecDepth 100000
set_option maxHeartbeats 2000000
namespace Pk
open PySem PySem.Spec L2 PyProof.Rows
section
variable {K : PySem.W.Frag} {C : Cs} {vs : List V} {H H' G G' : Hp} {Q : VK} {E : XK} {n : Nat}
theorem Kp.free {b D : Addr} {ys : List V} (k : Kp b H G) (hb : G b = some (.lst ys)) (h : G D = none) : H D = none := by
  cases e : H D with
  | none => rfl
  | some o =>
    by_cases q : D = b
    · rw [q, hb] at h; cases h
    · rw [k D o e q] at h; cases h
theorem Kp.freeB {b l D : Addr} (k : Kp b H G) (B : Bag G b l) (h : G D = none) : H D = none := by
  obtain ⟨ys, hb⟩ := B.at
  exact k.free hb h
/-- scale = int('1' + '0' * take(bag, 31)) -/
theorem scale_asg {i j : Nat} {D : Ends} {σ : L2.St} {b l : Addr} (hv : σ[i]? = some (some (.ref b))) (B : Bag H b l) (k : ∀ sc H', 1 ≤ sc → sc ≤ 10 ^ 30 → Bag H' b l → Kp b H H' → D.nx (σ.set j (some (.int sc))) H') :
    tAsg (tCB (rIntU) (tCons (tOp (rAddU K) (tC (.str "1")) (tOp (rMulU K) (tC (.str "0")) (tCall (sp_law_take K) [] E0 (tCons (tVar i) (tCons (tC (.int 31)) tNil))))) tNil)) (gName j) D σ H := by
  refine ⟨_, hv, b, l, 31, rfl, B, by decide, by decide, fun e H2 e0 e1 B1 k1 => ?_⟩
  obtain ⟨m, rfl⟩ : ∃ m : Nat, e = (m : Int) := ⟨e.toNat, by omega⟩
  obtain ⟨q1, q2, q3⟩ := scale_text m (by omega)
  refine .inr (.inl ⟨_, _, rfl, rfl, by decide, by omega, by omega, .inr (.inl ⟨_, _, rfl, rfl, ?_, .inr ⟨_, _, rfl, q1, q2, ?_⟩⟩)⟩)
  · have e : ((Str.ofString "1").length) = 1 := rfl
    exact Nat.le_of_lt (small1000 (by omega))
  have sc1 : (1 : Int) ≤ 10 ^ m := Int.pow_pos (by decide)
  have sc2 : (10 : Int) ^ m ≤ 10 ^ 30 := by
    have h := Nat.pow_le_pow_right (n := 10) (by decide) (show m ≤ 30 by omega)
    exact_mod_cast h
  exact k _ _ sc1 sc2 B1 k1
/-! ### thresholds -/
def imin (i j : Int) : Int := if j < i then j else i
def Tr.top : Tr → Int
  | .at t q => imax t q
  | .or a b => imin (top a) (top b)
  | .and a b => imax (top a) (top b)
def Tr.by_ : Tr → List Int
  | .at _ q => [q]
  | .or a b => by_ a ++ by_ b
  | .and a b => by_ a ++ by_ b
theorem Tr.by_len : ∀ T : Tr, T.by_.length = T.lv
  | .at _ _ => rfl
  | .or a b => by show (by_ a ++ by_ b).length = _; rw [List.length_append, by_len a, by_len b]; rfl
  | .and a b => by show (by_ a ++ by_ b).length = _; rw [List.length_append, by_len a, by_len b]; rfl
theorem Tr.by_ok : ∀ {T : Tr}, T.ok → ∀ q ∈ T.by_, 1 ≤ q ∧ q ≤ 6
  | .at t q, h, i, hi => by
    obtain ⟨h1, h2, h3, h4⟩ := h
    rw [List.mem_singleton.mp hi]
    exact ⟨h3, h4⟩
  | .or a b, h, i, hi => (List.mem_append.mp hi).elim (by_ok h.1 i) (by_ok h.2 i)
  | .and a b, h, i, hi => (List.mem_append.mp hi).elim (by_ok h.1 i) (by_ok h.2 i)
theorem Tr.top_ok : ∀ {T : Tr}, T.ok → 1 ≤ T.top ∧ T.top ≤ 10 ^ 50
  | .at t q, h => by
    obtain ⟨h1, h2, h3, h4⟩ := h
    show 1 ≤ imax t q ∧ imax t q ≤ 10 ^ 50
    unfold imax
    split <;> omega
  | .or a b, h => by
    have h1 := top_ok h.1
    have h2 := top_ok h.2
    show 1 ≤ imin a.top b.top ∧ imin a.top b.top ≤ 10 ^ 50
    unfold imin
    split <;> omega
  | .and a b, h => by
    have h1 := top_ok h.1
    have h2 := top_ok h.2
    show 1 ≤ imax a.top b.top ∧ imax a.top b.top ≤ 10 ^ 50
    unfold imax
    split <;> omega
/-- [5]: what rests is below the threshold; nothing is given just below it -/
theorem Tr.rest_lt : ∀ {T : Tr} {i : Int}, T.ok → 0 ≤ i → i - T.give i < T.top ∧ (T.give i = 0 ↔ i < T.top)
  | .at t q, i, h, h0 => by
    obtain ⟨h1, h2, h3, h4⟩ := h
    have e1 := Int.emod_nonneg i (show q ≠ 0 by omega)
    have e2 := Int.emod_lt_of_pos i (show 0 < q by omega)
    have eg : (Tr.at t q).give i = if t ≤ i then i - i % q else 0 := rfl
    have et : (Tr.at t q).top = imax t q := rfl
    rw [eg, et]
    unfold imax
    by_cases c : t ≤ i
    · rw [if_pos c]
      have e3 : i < q → i % q = i := fun z => Int.emod_eq_of_lt h0 z
      constructor
      · split <;> omega
      · constructor
        · intro z
          split <;> omega
        · intro z
          split at z
          · have := e3 z; omega
          · omega
    · rw [if_neg c]
      constructor
      · split <;> omega
      · constructor
        · intro _
          split <;> omega
        · intro _; rfl
  | .or a b, i, h, h0 => by
    have q1 := rest_lt h.1 h0
    have q2 := rest_lt h.2 h0
    have g1 := Tr.give_le h.1 h0
    have g2 := Tr.give_le h.2 h0
    have et : (Tr.or a b).top = imin a.top b.top := rfl
    rw [Tr.give_or, et]
    unfold imin
    obtain ⟨r1, s1⟩ := q1
    obtain ⟨r2, s2⟩ := q2
    constructor
    · split <;> split <;> omega
    · constructor
      · intro z
        split at z <;> split <;> omega
      · intro z
        split at z <;> split <;> omega
  | .and a b, i, h, h0 => by
    have q1 := rest_lt h.1 h0
    have q2 := rest_lt h.2 h0
    have g1 := Tr.give_le h.1 h0
    have g2 := Tr.give_le h.2 h0
    have et : (Tr.and a b).top = imax a.top b.top := rfl
    rw [Tr.give_and, et]
    unfold imax
    obtain ⟨r1, s1⟩ := q1
    obtain ⟨r2, s2⟩ := q2
    constructor
    · split <;> split <;> omega
    · constructor
      · intro z
        split at z <;> split <;> omega
      · intro z
        split at z <;> split <;> omega
/-- from the threshold on a remainder by one of the multiples rests -/
theorem Tr.rest_by : ∀ {T : Tr} {i : Int}, T.ok → 0 ≤ i → T.top ≤ i → ∃ q ∈ T.by_, i - T.give i = i % q
  | .at t q, i, h, h0, hi => by
    obtain ⟨h1, h2, h3, h4⟩ := h
    have et : (Tr.at t q).top = imax t q := rfl
    have eg : (Tr.at t q).give i = if t ≤ i then i - i % q else 0 := rfl
    rw [et] at hi
    unfold imax at hi
    refine ⟨q, List.mem_singleton.mpr rfl, ?_⟩
    rw [eg, if_pos (by split at hi <;> omega)]
    omega
  | .or a b, i, h, h0, hi => by
    have q1 := rest_lt h.1 h0
    have q2 := rest_lt h.2 h0
    have g1 := Tr.give_le h.1 h0
    have g2 := Tr.give_le h.2 h0
    have et : (Tr.or a b).top = imin a.top b.top := rfl
    rw [et] at hi
    unfold imin at hi
    rw [Tr.give_or]
    have left : a.top ≤ i → ∃ q ∈ (Tr.or a b).by_, i - a.give i = i % q := fun z => by
      obtain ⟨q, m, e⟩ := rest_by h.1 h0 z
      exact ⟨q, List.mem_append_left _ m, e⟩
    have right : b.top ≤ i → ∃ q ∈ (Tr.or a b).by_, i - b.give i = i % q := fun z => by
      obtain ⟨q, m, e⟩ := rest_by h.2 h0 z
      exact ⟨q, List.mem_append_right _ m, e⟩
    obtain ⟨r1, s1⟩ := q1
    obtain ⟨r2, s2⟩ := q2
    by_cases c : b.give i > a.give i
    · rw [if_pos c]
      exact right (by omega)
    · rw [if_neg c]
      refine left ?_
      split at hi <;> omega
  | .and a b, i, h, h0, hi => by
    have g1 := Tr.give_le h.1 h0
    have g2 := Tr.give_le h.2 h0
    have et : (Tr.and a b).top = imax a.top b.top := rfl
    rw [et] at hi
    unfold imax at hi
    rw [Tr.give_and]
    by_cases c : b.give i < a.give i
    · rw [if_pos c]
      obtain ⟨q, m, e⟩ := rest_by h.2 h0 (show b.top ≤ i by split at hi <;> omega)
      exact ⟨q, List.mem_append_right _ m, e⟩
    · rw [if_neg c]
      obtain ⟨q, m, e⟩ := rest_by h.1 h0 (show a.top ≤ i by split at hi <;> omega)
      exact ⟨q, List.mem_append_left _ m, e⟩
def sp_threshold_of (K : PySem.W.Frag) (n : Nat) : Sp := fun vs H Q _ => ∃ v T, vs = [v] ∧ TrAt K H v T ∧ T.dp ≤ n ∧ Q (.int T.top) H
def t_threshold_of (K : PySem.W.Frag) (n : Nat) : TS :=
  (tSeq (tAsg (tVar 0) (gTup K 3 (gCons (gName 1) (gCons (gName 2) (gCons (gName 3) gNil)))))
    (tSeq (tIfS (tTest (tOp (rEqU K) (tVar 1) (tC (.str "at")))) (tRet (tCB (rMax2) (tCons (tVar 2) (tCons (tVar 3) tNil)))) tNext)
    (tSeq (tIfS (tTest (tOp (rEqU K) (tVar 1) (tC (.str "or")))) (tRet (tCB (rMin2) (tCons (tCall (sp_threshold_of K n) [] E0 (tCons (tVar 2) tNil)) (tCons (tCall (sp_threshold_of K n) [] E0 (tCons (tVar 3) tNil)) tNil)))) tNext)
    (tRet (tCB (rMax2) (tCons (tCall (sp_threshold_of K n) [] E0 (tCons (tVar 2) tNil)) (tCons (tCall (sp_threshold_of K n) [] E0 (tCons (tVar 3) tNil)) tNil)))))))
theorem no_threshold_of (h : sp_threshold_of K 0 vs H Q E) : False := by
  obtain ⟨_, T, _, _, h, _⟩ := h
  have := T.dp_pos
  omega
theorem ln_threshold_of (h : sp_threshold_of K n vs H Q E) : vs.length = 1 := by obtain ⟨_, _, rfl, _⟩ := h; rfl
theorem rd_threshold_of (h : sp_threshold_of K (n + 1) vs H Q E) : t_threshold_of K n (EndsOf Q) (start ["", "", "", ""] vs) H := by
  obtain ⟨v, T, rfl, hT, hd, k⟩ := h
  obtain ⟨a, w, x, y, rfl, s, cw⟩ := hT.tuple
  refine ⟨_, rfl, g3 s ?_⟩
  refine ⟨_, rfl, .inl ⟨rfl, _, rfl, ?_⟩⟩
  rcases cw with ⟨rfl, t, q, rfl, rfl, rfl⟩ | ⟨rfl, A, B, rfl, hA, hB⟩ | ⟨rfl, A, B, rfl, hA, hB⟩
  · refine ifS (fun _ => ?_) (fun z => absurd rfl z)
    exact ⟨_, rfl, _, rfl, _, _, rfl, k⟩
  · refine ifS (fun z => absurd z or_at) (fun _ => ?_)
    refine ⟨_, rfl, .inl ⟨rfl, _, rfl, ?_⟩⟩
    refine ifS (fun _ => ?_) (fun z => absurd rfl z)
    have hd' : max A.dp B.dp + 1 ≤ n + 1 := hd
    exact ⟨_, rfl, x, A, rfl, hA, by omega, _, rfl, y, B, rfl, hB, by omega, _, _, rfl, k⟩
  · refine ifS (fun z => absurd z and_at) (fun _ => ?_)
    refine ⟨_, rfl, .inl ⟨rfl, _, rfl, ?_⟩⟩
    refine ifS (fun z => absurd z and_or) (fun _ => ?_)
    have hd' : max A.dp B.dp + 1 ≤ n + 1 := hd
    exact ⟨_, rfl, x, A, rfl, hA, by omega, _, rfl, y, B, rfl, hB, by omega, _, _, rfl, k⟩
def sp_Rule_threshold (K : PySem.W.Frag) (C : Cs) : Sp := fun vs H Q _ => ∃ v T, vs = [v] ∧ RuleAt K C H v T ∧ Q (.int T.top) H
def t_Rule_threshold (K : PySem.W.Frag) : TS :=
  (tRet (tCall (sp_threshold_of K 7) [] E0 (tCons (tFld K (tVar 0) "_tree") tNil)))
theorem ln_Rule_threshold (h : sp_Rule_threshold K C vs H Q E) : vs.length = 1 := by obtain ⟨_, _, rfl, _⟩ := h; rfl
theorem rd_Rule_threshold (h : sp_Rule_threshold K C vs H Q E) : t_Rule_threshold K (EndsOf Q) (start [""] vs) H := by
  obtain ⟨v, T, rfl, ⟨a, dx, u, rfl, ha, hT, ok, l6, fx⟩, k⟩ := h
  exact ⟨_, rfl, a, _, dx, _, u, rfl, ha, fx.cl, fx.no, rfl, u, T, rfl, hT, Tr.dp6 l6, k⟩
def sp_law_threshold (K : PySem.W.Frag) (n : Nat) : Sp := fun vs H Q _ => ∃ v T, vs = [v] ∧ TrAt K H v T ∧ T.dp ≤ n ∧ ∀ H', Same H H' → Q (.int T.top) H'
def t_law_threshold (K : PySem.W.Frag) (n : Nat) : TS :=
  (tSeq (tAsg (tVar 0) (gTup K 3 (gCons (gName 1) (gCons (gName 2) (gCons (gName 3) gNil)))))
    (tSeq (tIfS (tTest (tOp (rEqU K) (tVar 1) (tC (.str "at")))) (tRet (tCB (rMax2) (tCons (tVar 2) (tCons (tVar 3) tNil)))) tNext)
    (tSeq (tAsg (tLst (tCons (tCall (sp_law_threshold K n) [] E0 (tCons (tVar 2) tNil)) (tCons (tCall (sp_law_threshold K n) [] E0 (tCons (tVar 3) tNil)) tNil))) (gName 4))
    (tRet (tIf (tTest (tOp (rEqU K) (tVar 1) (tC (.str "or")))) (tCB (rMin K) (tCons (tVar 4) tNil)) (tCB (rMax K) (tCons (tVar 4) tNil)))))))
theorem no_law_threshold (h : sp_law_threshold K 0 vs H Q E) : False := by
  obtain ⟨_, T, _, _, h, _⟩ := h
  have := T.dp_pos
  omega
theorem ln_law_threshold (h : sp_law_threshold K n vs H Q E) : vs.length = 1 := by obtain ⟨_, _, rfl, _⟩ := h; rfl
theorem two_max {x y m : Int} (hm : m ∈ [x, y]) (hy : ∀ z, z ∈ [x, y] → z ≤ m) : m = imax x y := by
  have h1 := hy x (List.mem_cons_self ..)
  have h2 := hy y (List.mem_cons_of_mem _ (List.mem_cons_self ..))
  unfold imax
  rcases List.mem_cons.mp hm with rfl | hm
  · split <;> omega
  · have := List.mem_singleton.mp hm
    split <;> omega
theorem two_min {x y m : Int} (hm : m ∈ [x, y]) (hy : ∀ z, z ∈ [x, y] → m ≤ z) : m = imin x y := by
  have h1 := hy x (List.mem_cons_self ..)
  have h2 := hy y (List.mem_cons_of_mem _ (List.mem_cons_self ..))
  unfold imin
  rcases List.mem_cons.mp hm with rfl | hm
  · split <;> omega
  · have := List.mem_singleton.mp hm
    split <;> omega
theorem rd_law_threshold (h : sp_law_threshold K (n + 1) vs H Q E) : t_law_threshold K n (EndsOf Q) (start ["", "", "", "", ""] vs) H := by
  obtain ⟨v, T, rfl, hT, hd, k⟩ := h
  obtain ⟨a, w, x, y, rfl, s, cw⟩ := hT.tuple
  refine ⟨_, rfl, g3 s ?_⟩
  refine ⟨_, rfl, .inl ⟨rfl, _, rfl, ?_⟩⟩
  rcases cw with ⟨rfl, t, q, rfl, rfl, rfl⟩ | ⟨rfl, A, B, rfl, hA, hB⟩ | ⟨rfl, A, B, rfl, hA, hB⟩
  · refine ifS (fun _ => ?_) (fun z => absurd rfl z)
    exact ⟨_, rfl, _, rfl, _, _, rfl, k H (Same.refl H)⟩
  · refine ifS (fun z => absurd z or_at) (fun _ => ?_)
    have hd' : max A.dp B.dp + 1 ≤ n + 1 := hd
    refine ⟨_, rfl, x, A, rfl, hA, by omega, fun H1 s1 => ⟨_, rfl, y, B, rfl, hB.mono (Tups.same s1), by omega, fun H2 s2 => ⟨two_fit.2.1, fun p hp => ?_⟩⟩⟩
    refine ⟨_, rfl, .inl ⟨rfl, _, rfl, ?_⟩⟩
    refine ifS (fun _ => ?_) (fun z => absurd rfl z)
    refine ⟨_, rfl, p, [A.top, B.top], rfl, SqL.of upd_same, Nat.succ_pos _, fun m hm hy => ?_⟩
    rw [two_min hm hy]
    exact k _ ((s1.trans s2).trans (same_new hp))
  · refine ifS (fun z => absurd z and_at) (fun _ => ?_)
    have hd' : max A.dp B.dp + 1 ≤ n + 1 := hd
    refine ⟨_, rfl, x, A, rfl, hA, by omega, fun H1 s1 => ⟨_, rfl, y, B, rfl, hB.mono (Tups.same s1), by omega, fun H2 s2 => ⟨two_fit.2.1, fun p hp => ?_⟩⟩⟩
    refine ⟨_, rfl, .inl ⟨rfl, _, rfl, ?_⟩⟩
    refine ifS (fun z => absurd z and_or) (fun _ => ?_)
    refine ⟨_, rfl, p, [A.top, B.top], rfl, SqL.of upd_same, Nat.succ_pos _, fun m hm hy => ?_⟩
    rw [two_max hm hy]
    exact k _ ((s1.trans s2).trans (same_new hp))
def sp_law_parts_of (K : PySem.W.Frag) (n : Nat) : Sp := fun vs H Q _ => ∃ v T, vs = [v] ∧ TrAt K H v T ∧ T.dp ≤ n ∧ T.lv ≤ 100 ∧ ∀ p H', H p = none → Same H H' → H' p = some (.lst (T.by_.map V.int)) → Q (.ref p) H'
def t_law_parts_of (K : PySem.W.Frag) (n : Nat) : TS :=
  (tSeq (tAsg (tVar 0) (gTup K 3 (gCons (gName 1) (gCons (gName 2) (gCons (gName 3) gNil)))))
    (tRet (tIf (tTest (tOp (rEqU K) (tVar 1) (tC (.str "at")))) (tLst (tCons (tVar 3) tNil)) (tOp (rAddU K) (tCall (sp_law_parts_of K n) [] E0 (tCons (tVar 2) tNil)) (tCall (sp_law_parts_of K n) [] E0 (tCons (tVar 3) tNil))))))
theorem no_law_parts_of (h : sp_law_parts_of K 0 vs H Q E) : False := by
  obtain ⟨_, T, _, _, h, _⟩ := h
  have := T.dp_pos
  omega
theorem ln_law_parts_of (h : sp_law_parts_of K n vs H Q E) : vs.length = 1 := by obtain ⟨_, _, rfl, _⟩ := h; rfl
theorem rd_law_parts_of (h : sp_law_parts_of K (n + 1) vs H Q E) : t_law_parts_of K n (EndsOf Q) (start ["", "", "", ""] vs) H := by
  obtain ⟨v, T, rfl, hT, hd, hl, k⟩ := h
  obtain ⟨a, w, x, y, rfl, s, cw⟩ := hT.tuple
  refine ⟨_, rfl, g3 s ?_⟩
  refine ⟨_, rfl, .inl ⟨rfl, _, rfl, ?_⟩⟩
  have two : ∀ {A B : Tr}, T.by_ = A.by_ ++ B.by_ → T.lv = A.lv + B.lv → max A.dp B.dp + 1 ≤ n + 1 → TrAt K H x A → TrAt K H y B →
      tOp (rAddU K) (tCall (sp_law_parts_of K n) [] E0 (tCons (tVar 2) tNil)) (tCall (sp_law_parts_of K n) [] E0 (tCons (tVar 3) tNil)) [some (.ref a), some (.str w), some x, some y] H Q := by
    intro A B e1 e2 hd' hA hB
    refine ⟨_, rfl, x, A, rfl, hA, by omega, by omega, fun p H1 hp s1 h1 => ?_⟩
    refine ⟨_, rfl, y, B, rfl, hB.mono (Tups.same s1), by omega, by omega, fun p2 H2 hp2 s2 h2 => ?_⟩
    refine .inr (.inr (.inl ⟨p, p2, _, _, rfl, rfl, s2 _ _ h1, h2, ?_, fun r hr => ?_⟩))
    · rw [List.length_map, List.length_map, A.by_len, B.by_len]
      exact Nat.le_of_lt (small1000 (by omega))
    · refine k r _ ((s1.trans s2).free hr) ((s1.trans s2).trans (same_new hr)) ?_
      rw [upd_same, e1, List.map_append]
  rcases cw with ⟨rfl, t, q, rfl, rfl, rfl⟩ | ⟨rfl, A, B, rfl, hA, hB⟩ | ⟨rfl, A, B, rfl, hA, hB⟩
  · refine ifS (fun _ => ?_) (fun z => absurd rfl z)
    exact ⟨_, rfl, two_fit.1, fun p hp => k p _ hp (same_new hp) upd_same⟩
  · refine ifS (fun z => absurd z or_at) (fun _ => ?_)
    exact two rfl rfl hd hA hB
  · refine ifS (fun z => absurd z and_at) (fun _ => ?_)
    exact two rfl rfl hd hA hB
theorem inV_int {r : Int} {ns : List Int} (h : r ∈ ns) : inV (.int r) (ns.map V.int) = true := by
  unfold inV
  rw [List.any_map]
  exact List.any_eq_true.mpr ⟨r, h, by show (r == r) = true; exact beq_self_eq_true r⟩
theorem flat_ints (ns : List Int) : (ns.map V.int).all flatV = true := by
  induction ns with
  | nil => rfl
  | cons x r ih => exact ih
end
end Pk
set_option Elab.async false
set_option linter.all false
set_option maxRecDepth 100000
set_option maxHeartbeats 2000000
namespace Pk
open PySem PySem.Spec L2 PyProof.Rows
/-! ### amounts of one size, one after another -/
/-- what is withheld behind so many amounts of size z -/
def Tr.kp (T : Tr) (z w : Int) : Nat → Int
  | 0 => w
  | n + 1 => (kp T z w n + z) - T.give (kp T z w n + z)
/-- the greatest that is withheld ahead of one of them -/
def Tr.pk (T : Tr) (z w : Int) : Nat → Int
  | 0 => 0
  | n + 1 => max (pk T z w n) (kp T z w n)
section
variable {T : Tr} {z w : Int}
theorem Tr.kp_s (n : Nat) : T.kp z w (n + 1) = (T.kp z w n + z) - T.give (T.kp z w n + z) := rfl
theorem Tr.pk_s (n : Nat) : T.pk z w (n + 1) = max (T.pk z w n) (T.kp z w n) := rfl
theorem Tr.kp_add (n : Nat) : ∀ m : Nat, T.kp z w (n + m) = T.kp z (T.kp z w n) m
  | 0 => rfl
  | m + 1 => by
    show (T.kp z w (n + m) + z) - T.give (T.kp z w (n + m) + z) = _
    rw [kp_add n m]
    rfl
theorem Tr.pk_nn : ∀ n : Nat, 0 ≤ T.pk z w n
  | 0 => Int.le_refl _
  | n + 1 => by
    have := pk_nn n
    show 0 ≤ max (T.pk z w n) (T.kp z w n)
    omega
theorem Tr.pk_add (n : Nat) : ∀ m : Nat, T.pk z w (n + m) = max (T.pk z w n) (T.pk z (T.kp z w n) m)
  | 0 => by
    have := Tr.pk_nn (T := T) (z := z) (w := w) n
    show T.pk z w n = max (T.pk z w n) 0
    omega
  | m + 1 => by
    show max (T.pk z w (n + m)) (T.kp z w (n + m)) = max (T.pk z w n) (max (T.pk z (T.kp z w n) m) (T.kp z (T.kp z w n) m))
    rw [pk_add n m, Tr.kp_add]
    omega
theorem Tr.kp_ok (ok : T.ok) (z1 : 1 ≤ z) (w0 : 0 ≤ w) (w1 : w < T.top) : ∀ n : Nat, 0 ≤ T.kp z w n ∧ T.kp z w n < T.top
  | 0 => ⟨w0, w1⟩
  | n + 1 => by
    obtain ⟨h1, h2⟩ := kp_ok ok z1 w0 w1 n
    have g := Tr.give_le ok (show 0 ≤ T.kp z w n + z by omega)
    have r := Tr.rest_lt ok (show 0 ≤ T.kp z w n + z by omega)
    rw [Tr.kp_s]
    omega
theorem Tr.pk_lt (ok : T.ok) (z1 : 1 ≤ z) (w0 : 0 ≤ w) (w1 : w < T.top) : ∀ n : Nat, T.pk z w n < T.top
  | 0 => by
    show 0 < T.top
    omega
  | n + 1 => by
    have h := pk_lt ok z1 w0 w1 n
    have h2 := Tr.kp_ok ok z1 w0 w1 n
    rw [Tr.pk_s]
    omega
theorem Tr.kp_le (ok : T.ok) (z1 : 1 ≤ z) (w0 : 0 ≤ w) : ∀ n : Nat, 0 ≤ T.kp z w n ∧ T.kp z w n ≤ w + n * z
  | 0 => by
    show 0 ≤ w ∧ w ≤ w + 0 * z
    omega
  | n + 1 => by
    obtain ⟨h1, h2⟩ := kp_le ok z1 w0 n
    have g := Tr.give_le ok (show 0 ≤ T.kp z w n + z by omega)
    rw [Tr.kp_s, Int.natCast_add, Int.add_mul]
    omega
theorem Tr.kp_few (ok : T.ok) (z1 : 1 ≤ z) (w0 : 0 ≤ w) : ∀ n : Nat, w + (n : Int) * z < T.top → T.kp z w n = w + n * z ∧ T.pk z w (n + 1) = w + n * z
  | 0, h => by
    show w = w + 0 * z ∧ max 0 w = w + 0 * z
    omega
  | n + 1, h => by
    have e : ((n + 1 : Nat) : Int) * z = n * z + z := by rw [Int.natCast_add, Int.add_mul]; omega
    have nz : 0 ≤ (n : Int) * z := Int.mul_nonneg (by omega) (by omega)
    rw [e] at h ⊢
    obtain ⟨h1, h2⟩ := kp_few ok z1 w0 n (by omega)
    have r := (Tr.rest_lt ok (show 0 ≤ w + n * z + z by omega)).2.mpr (by omega)
    have e1 : T.kp z w (n + 1) = w + (n * z + z) := by
      rw [Tr.kp_s, h1, r]
      omega
    refine ⟨e1, ?_⟩
    rw [Tr.pk_s, h2, e1]
    omega
theorem Tr.kp_loop {d : Nat} (h : T.kp z w d = w) : ∀ t : Nat, T.kp z w (t * d) = w ∧ T.pk z w (t * d) ≤ T.pk z w d
  | 0 => by
    have := Tr.pk_nn (T := T) (z := z) (w := w) d
    rw [Nat.zero_mul]
    exact ⟨rfl, this⟩
  | t + 1 => by
    obtain ⟨h1, h2⟩ := kp_loop h t
    rw [Nat.succ_mul, Tr.kp_add, Tr.pk_add, h1, h]
    omega
end
/-- how many amounts, until the rule gives -/
theorem steps_ok {a z : Int} (h : 1 ≤ a) (z1 : 1 ≤ z) : 1 ≤ (a + z - 1) / z ∧ a ≤ (a + z - 1) / z * z ∧ ((a + z - 1) / z - 1) * z < a ∧ (a + z - 1) / z ≤ a + z - 1 := by
  have e := Int.emod_def (a + z - 1) z
  have r0 := Int.emod_nonneg (a + z - 1) (show z ≠ 0 by omega)
  have r1 := Int.emod_lt_of_pos (a + z - 1) (show 0 < z by omega)
  have s := Int.ediv_le_self z (show 0 ≤ a + z - 1 by omega)
  generalize (a + z - 1) / z = q at *
  have e2 : z * q = q * z := Int.mul_comm _ _
  have e3 : (q - 1) * z = q * z - z := by rw [Int.sub_mul]; omega
  refine ⟨?_, by omega, by omega, s⟩
  by_cases c : 1 ≤ q
  · exact c
  · have : q * z ≤ 0 := Int.mul_nonpos_of_nonpos_of_nonneg (by omega) (by omega)
    omega
theorem mul_ok {i j : Int} (h1 : i.natAbs ≤ 10 ^ 100) (h2 : j.natAbs ≤ 10 ^ 100) : CMul i j ∨ CMulW i j := by
  have z2 : (10 : Nat) ^ 100 < 2 ^ 1000 := by decide +kernel
  exact .inr (wide_mul (a := 1000) (b := 1000) (by omega) (by omega) (by decide) (by decide) (by decide))
/-- where the loop stands, by numbers alone -/
structure Rp (T : Tr) (z w : Int) (M L : Nat) (c t p : Int) : Prop where
  c0 : 0 ≤ c
  c1 : c < T.top
  p0 : 0 ≤ p
  le : L ≤ M
  kp : T.kp z w M = T.kp z c L
  tot : w + M * z = t + c + L * z
  pk : max w (T.pk z w M) = max p (T.pk z c L)
section
variable {T : Tr} {z w : Int} {M L : Nat} {c t p : Int}
theorem Rp.give (R : Rp T z w M L c t p) (ok : T.ok) (z1 : 1 ≤ z) {n : Nat} (h1 : c + n * z < T.top) (hL : n + 1 ≤ L) {c' : Int} (hc : c' = c + ((n + 1 : Nat) : Int) * z - T.give (c + ((n + 1 : Nat) : Int) * z)) :
    c' = T.kp z c (n + 1) ∧ T.pk z c (n + 1) = c + n * z ∧ Rp T z w M (L - (n + 1)) c' (t + (c + ((n + 1 : Nat) : Int) * z) - c') (max p (c + n * z)) := by
  obtain ⟨q1, q2⟩ := Tr.kp_few ok z1 R.c0 n h1
  have e : ((n + 1 : Nat) : Int) * z = n * z + z := by rw [Int.natCast_add, Int.add_mul]; omega
  have ec : c' = T.kp z c (n + 1) := by
    rw [Tr.kp_s, q1, hc, e, ← Int.add_assoc]
  obtain ⟨b0, b1⟩ := Tr.kp_ok ok z1 R.c0 R.c1 (n + 1)
  have el : ((L - (n + 1) : Nat) : Int) * z = L * z - ((n + 1 : Nat) : Int) * z := by
    rw [Int.ofNat_sub hL, Int.sub_mul]
  have sp : L = (n + 1) + (L - (n + 1)) := by omega
  refine ⟨ec, q2, ⟨by omega, by omega, ?_, by have := R.le; omega, ?_, ?_, ?_⟩⟩
  · have := R.p0; omega
  · rw [R.kp, ec, ← Tr.kp_add, ← sp]
  · have := R.tot
    rw [el]
    omega
  · rw [R.pk, ec]
    have h : T.pk z c L = max (T.pk z c (n + 1)) (T.pk z (T.kp z c (n + 1)) (L - (n + 1))) := by
      rw [← Tr.pk_add, ← sp]
    rw [h, q2]
    omega
theorem Rp.skip (R : Rp T z w M L c t p) {d : Nat} (hk : T.kp z c d = c) (hp : T.pk z c d ≤ p) (d1 : 1 ≤ d) : Rp T z w M (L - L / d * d) c (t + (((L / d * d : Nat) : Int)) * z) p := by
  have le : L / d * d ≤ L := Nat.div_mul_le_self L d
  obtain ⟨h1, h2⟩ := Tr.kp_loop hk (L / d)
  have sp : L = L / d * d + (L - L / d * d) := by omega
  refine ⟨R.c0, R.c1, R.p0, by have := R.le; omega, ?_, ?_, ?_⟩
  · have h : T.kp z c L = T.kp z (T.kp z c (L / d * d)) (L - L / d * d) := by rw [← Tr.kp_add, ← sp]
    rw [R.kp, h, h1]
  · have := R.tot
    rw [Int.ofNat_sub le, Int.sub_mul]
    omega
  · have h : T.pk z c L = max (T.pk z c (L / d * d)) (T.pk z (T.kp z c (L / d * d)) (L - L / d * d)) := by rw [← Tr.pk_add, ← sp]
    have := Tr.pk_nn (T := T) (z := z) (w := c) (L - L / d * d)
    rw [R.pk, h, h1]
    omega
end
/-! ### what was seen -/
def Seen (lo : Nat) (K : PySem.W.Frag) (T : Tr) (z : Int) (G : Hp) (kvs : List (Key × V)) (L : Nat) (c t p : Int) : Prop :=
  ∀ i v, valV kvs (.inl i) = some v → ∃ (a : Addr) (l' t' : Int) (e : Nat), v = .ref a ∧ SqT K G a [.int l', .int t'] ∧ l' = (L : Int) + e ∧ T.kp z i e = c ∧ i + e * z = t - t' + c ∧ T.pk z i e ≤ p ∧ lo ≤ e ∧ l' ≤ 10 ^ 40
section
variable {K : PySem.W.Frag} {T : Tr} {z w : Int} {M L : Nat} {c t p : Int} {G G' : Hp} {kvs : List (Key × V)}
theorem Seen.weak {lo : Nat} (S : Seen lo K T z G kvs L c t p) : Seen 0 K T z G kvs L c t p := fun i v h => by
  obtain ⟨a, l', t', e, h1, h2, h3, h4, h5, h6, h7, h8⟩ := S i v h
  exact ⟨a, l', t', e, h1, h2, h3, h4, h5, h6, Nat.zero_le _, h8⟩
theorem Seen.mono {lo : Nat} (S : Seen lo K T z G kvs L c t p) (s : Tups K G G') : Seen lo K T z G' kvs L c t p := fun i v h => by
  obtain ⟨a, l', t', e, h1, h2, r⟩ := S i v h
  exact ⟨a, l', t', e, h1, s _ _ h2, r⟩
/-- from here so many amounts on -/
theorem Seen.go {lo : Nat} (S : Seen lo K T z G kvs L c t p) {n : Nat} {c' t' p' : Int} (hL : n ≤ L) (hc : c' = T.kp z c n) (hp : p ≤ p') (hp2 : T.pk z c n ≤ p') (ht : c + n * z = t' - t + c') : Seen n K T z G kvs (L - n) c' t' p' := fun i v h => by
  obtain ⟨a, l', t0, e, h1, h2, h3, h4, h5, h6, h7, h8⟩ := S i v h
  refine ⟨a, l', t0, e + n, h1, h2, by omega, ?_, ?_, ?_, by omega, h8⟩
  · rw [Tr.kp_add, h4, hc]
  · rw [Int.natCast_add, Int.add_mul]
    omega
  · rw [Tr.pk_add, h4]
    omega
theorem Seen.put (S : Seen 0 K T z G kvs L c t p) (hp : 0 ≤ p) (hL : (L : Int) ≤ 10 ^ 40) {a : Addr} (ha : SqT K G a [.int L, .int t]) : Seen 0 K T z G (putK kvs (.inl c) (.ref a)) L c t p := fun i v h => by
  rw [valV_put] at h
  by_cases e : i = c
  · subst e
    rw [if_pos rfl] at h
    cases h
    exact ⟨a, L, t, 0, rfl, ha, by omega, rfl, by omega, hp, Nat.le_refl _, hL⟩
  · rw [if_neg (fun z => e (Sum.inl.inj z))] at h
    exact S i v h
def bit (o : Option V) : Nat := if o.isSome = true then 1 else 0
def cnt (kvs : List (Key × V)) : Nat := bit (valV kvs (.inl 0)) + bit (valV kvs (.inl 1)) + bit (valV kvs (.inl 2)) + bit (valV kvs (.inl 3)) + bit (valV kvs (.inl 4)) + bit (valV kvs (.inl 5))
theorem bit_le (o : Option V) : bit o ≤ 1 := by unfold bit; split <;> omega
theorem cnt_le (kvs : List (Key × V)) : cnt kvs ≤ 6 := by
  unfold cnt
  have h0 := bit_le (valV kvs (.inl 0))
  have h1 := bit_le (valV kvs (.inl 1))
  have h2 := bit_le (valV kvs (.inl 2))
  have h3 := bit_le (valV kvs (.inl 3))
  have h4 := bit_le (valV kvs (.inl 4))
  have h5 := bit_le (valV kvs (.inl 5))
  omega
theorem cnt_put {v : V} (h : valV kvs (.inl c) = none) (h0 : 0 ≤ c) (h1 : c < 6) (hl : kvs.length ≤ cnt kvs) : (putK kvs (.inl c) v).length ≤ cnt (putK kvs (.inl c) v) := by
  have e : (putK kvs (.inl c) v).length = kvs.length + 1 := by rw [putK_new v h, List.length_append]; rfl
  have b : ∀ j : Int, bit (valV (putK kvs (.inl c) v) (.inl j)) = if j = c then 1 else bit (valV kvs (.inl j)) := fun j => by
    rw [valV_put]
    by_cases q : j = c
    · rw [if_pos q, if_pos (congrArg Sum.inl q)]; rfl
    · rw [if_neg q, if_neg (fun z => q (Sum.inl.inj z))]
  have n : bit (valV kvs (.inl c)) = 0 := by rw [h]; rfl
  rw [e]
  unfold cnt at hl ⊢
  rw [b, b, b, b, b, b]
  rcases (by omega : c = 0 ∨ c = 1 ∨ c = 2 ∨ c = 3 ∨ c = 4 ∨ c = 5) with rfl | rfl | rfl | rfl | rfl | rfl <;> (simp only [if_true, reduceIte, Int.reduceEq] ; omega)
end
section
variable {K : PySem.W.Frag} {C : Cs} {vs : List V} {H H' G G' : Hp} {Q : VK} {E : XK} {n : Nat}
theorem g2 {i j : Nat} {a : Addr} {σ : L2.St} {R : L2.St → Hp → Prop} {x y : V} (s : SqT K H a [x, y]) (h : R ((σ.set i (some x)).set j (some y)) H) :
    gTup K 2 (gCons (gName i) (gCons (gName j) gNil)) (.ref a) σ H R := ⟨a, _, rfl, s, rfl, _, _, rfl, _, _, rfl, rfl, h⟩
def sp_steps_to_give (K : PySem.W.Frag) (C : Cs) : Sp := fun vs H Q _ => ∃ u T w z, vs = [u, .int w, .int z] ∧ RuleAt K C H u T ∧ 1 ≤ z ∧ z ≤ 10 ^ 40 ∧ Q (.int ((T.top - w + z - 1) / z)) H
def t_steps_to_give (K : PySem.W.Frag) (C : Cs) : TS :=
  (tRet (tOp (rDivI) (tOp (rSubI) (tOp (rAddU K) (tOp (rSubI) (tProp C.Rule (sp_Rule_threshold K C) [] E0 (tVar 0)) (tVar 1)) (tVar 2)) (tC (.int 1))) (tVar 2)))
theorem ln_steps_to_give (h : sp_steps_to_give K C vs H Q E) : vs.length = 3 := by obtain ⟨_, _, _, _, rfl, _⟩ := h; rfl
theorem rd_steps_to_give (h : sp_steps_to_give K C vs H Q E) : t_steps_to_give K C (EndsOf Q) (start ["", "", ""] vs) H := by
  obtain ⟨u, T, w, z, rfl, R, z1, z2, k⟩ := h
  obtain ⟨ua, ud, uu, rfl, hu1, _⟩ := id R
  refine ⟨_, rfl, ua, ud, _, rfl, hu1, _, T, rfl, R, _, rfl, _, _, rfl, rfl, _, rfl, .inl ⟨_, _, rfl, rfl, _, _, rfl, rfl, _, rfl, _, _, rfl, rfl, div_ok (by omega) (by omega), k⟩⟩
def sp_repeated (K : PySem.W.Frag) (C : Cs) : Sp := fun vs H Q _ => ∃ u T w z m, vs = [u, .int w, .int z, .int m] ∧ RuleAt K C H u T ∧ 0 ≤ w ∧ w < T.top ∧ 1 ≤ z ∧ z ≤ 10 ^ 40 ∧ 0 ≤ m ∧ m ≤ 10 ^ 40 ∧
  ∀ p H', H p = none → Same H H' → SqT K H' p [.int (T.kp z w m.toNat), .int (w + m * z - T.kp z w m.toNat), .int (max w (T.pk z w m.toNat))] → Q (.ref p) H'
def t_repeated (K : PySem.W.Frag) (C : Cs) : TS :=
  (tSeq (tAsg tDNewK (gName 4))
    (tSeq (tPar3 5 6 7 (tCons (tVar 3) (tCons (tC (.int 0)) (tCons (tVar 1) tNil))))
    (tSeq (tAsg (tCall (sp_steps_to_give K C) [] E0 (tCons (tVar 0) (tCons (tVar 1) (tCons (tVar 2) tNil)))) (gName 8))
    (tSeq (tWhile (tTest (tOp (rGeI) (tVar 5) (tVar 8))) (tSeq (tAsg (tCB (rMax2) (tCons (tVar 7) (tCons (tOp (rAddU K) (tVar 1) (tOp (rMulU K) (tOp (rSubI) (tVar 8) (tC (.int 1))) (tVar 2))) tNil))) (gName 7))
    (tSeq (tAsg (tOp (rAddU K) (tVar 1) (tOp (rMulU K) (tVar 8) (tVar 2))) (gName 9))
    (tSeq (tAsg (tMeth C.Rule "rest" (sp_Rule_rest K C) [] E0 (tVar 0) (tCons (tVar 9) tNil)) (gName 1))
    (tSeq (tPar 5 6 (tCons (tOp (rSubI) (tVar 5) (tVar 8)) (tCons (tOp (rSubI) (tOp (rAddU K) (tVar 6) (tVar 9)) (tVar 1)) tNil)))
    (Evl.tCut (tIfS (tB (tDIn (tVar 1) (tVar 4))) (tSeq (tAsg (tDGet (tVar 4) (tVar 1)) (gTup K 2 (gCons (gName 10) (gCons (gName 11) gNil))))
    (tSeq (tAsg (tOp (rDivI) (tVar 5) (tOp (rSubI) (tVar 10) (tVar 5))) (gName 12))
    (tPar 5 6 (tCons (tOp (rSubI) (tVar 5) (tOp (rMulU K) (tVar 12) (tOp (rSubI) (tVar 10) (tVar 5)))) (tCons (tOp (rAddU K) (tVar 6) (tOp (rMulU K) (tVar 12) (tOp (rSubI) (tVar 6) (tVar 11)))) tNil))))) (tAsg (tTup (tCons (tVar 5) (tCons (tVar 6) tNil))) (gSub (tVar 4) (tVar 1) rSetD)))
    (tAsg (tCall (sp_steps_to_give K C) [] E0 (tCons (tVar 0) (tCons (tVar 1) (tCons (tVar 2) tNil)))) (gName 8))))))))
    (Evl.tCut (tIfS (tTest (tOp (rGtI) (tVar 5) (tC (.int 0)))) (tAsg (tCB (rMax2) (tCons (tVar 7) (tCons (tOp (rAddU K) (tVar 1) (tOp (rMulU K) (tOp (rSubI) (tVar 5) (tC (.int 1))) (tVar 2))) tNil))) (gName 7)) tNext)
    (tRet (tTup (tCons (tOp (rAddU K) (tVar 1) (tOp (rMulU K) (tVar 5) (tVar 2))) (tCons (tVar 6) (tCons (tVar 7) tNil))))))))))
theorem ln_repeated (h : sp_repeated K C vs H Q E) : vs.length = 4 := by obtain ⟨_, _, _, _, _, rfl, _⟩ := h; rfl
theorem other_same {D : Addr} {o : HO} (s : Same H G) (h : H D = none) : Same H (upd G D o) := fun b u q => by
  rw [upd_ne (ne_of_none q h)]
  exact s b u q
theorem dk_tups {D : Addr} {o : HO} {kvs : List (Key × V)} (h : G D = some (.dK kvs)) : Tups K G (upd G D o) := Tups.put h (fun _ z => nomatch z) fun _ _ z => nomatch z
theorem imax_eq (i j : Int) : (if j > i then j else i) = max i j := by
  split <;> omega
theorem rd_repeated (h : sp_repeated K C vs H Q E) : t_repeated K C (EndsOf Q) (start ["", "", "", "", "", "", "", "", "", "", "", "", ""] vs) H := by
  obtain ⟨u, T, w, z, m, rfl, R, w0, w1, z1, z2, m0, m2, k⟩ := h
  obtain ⟨M, rfl⟩ : ∃ M : Nat, m = M := ⟨m.toNat, by omega⟩
  obtain ⟨ua, ud, uu, rfl, hu1, hT, ok, l6, fx⟩ := id R
  obtain ⟨t1, t2⟩ := Tr.top_ok ok
  refine fun D hD => ⟨_, rfl, _, rfl, _, _, _, rfl, ?_⟩
  have s1 := same_new (o := .dK []) hD
  refine ⟨_, rfl, _, rfl, _, rfl, .ref ua, T, w, z, rfl, R.same s1, z1, z2, ?_⟩
  refine ⟨fun mm σ' G => ∃ (L : Nat) (c t p : Int) (kvs : List (Key × V)) (s9 s10 s11 s12 : Option V), σ' = [some (.ref ua), some (.int c), some (.int z), some (.int M), some (.ref D), some (.int L), some (.int t), some (.int p), some (.int ((T.top - c + z - 1) / z)), s9, s10, s11, s12] ∧
    L = mm ∧ Same H G ∧ G D = some (.dK kvs) ∧ kvs.length ≤ cnt kvs ∧ Rp T z w M L c t p ∧ Seen 0 K T z G kvs L c t p,
    ⟨_, M, w, 0, w, [], none, none, none, none, rfl, rfl, s1, upd_same, Nat.zero_le _, ⟨w0, w1, w0, Nat.le_refl _, rfl, by omega, rfl⟩, fun i v h => nomatch h⟩, ?_⟩
  clear s1
  rintro mm σ' G ⟨L, c, t, p, kvs, s9, s10, s11, s12, rfl, rfl, s, hG, hl, P, S⟩
  obtain ⟨q1, q2, q3, q4⟩ := steps_ok (a := T.top - c) (z := z) (by have := P.c1; omega) z1
  have c0 := P.c0
  have c1 := P.c1
  have lM := P.le
  have hM : (M : Int) ≤ 10 ^ 40 := m2
  have lims : (10 : Int) ^ 50 + 10 ^ 40 ≤ 10 ^ 100 := by decide
  refine ⟨_, rfl, _, rfl, _, _, rfl, rfl, _, rfl, ?_⟩
  generalize hS : (T.top - c + z - 1) / z = S0 at q1 q2 q3 q4 ⊢
  refine ifD (fun cc => ?_) (fun cc => ?_)
  · -- it gives, once
    obtain ⟨n, rfl⟩ : ∃ n : Nat, S0 = ((n + 1 : Nat) : Int) := ⟨S0.toNat - 1, by omega⟩
    have en : ((n + 1 : Nat) : Int) - 1 = (n : Int) := by omega
    rw [en] at q3
    have am0 : 0 ≤ c + ((n + 1 : Nat) : Int) * z := by
      have : 0 ≤ ((n + 1 : Nat) : Int) * z := Int.mul_nonneg (by omega) (by omega)
      omega
    obtain ⟨r1, r2⟩ := Tr.rest_lt ok am0
    obtain ⟨g1, g2'⟩ := Tr.give_le ok am0
    obtain ⟨e1, e2, P1⟩ := P.give ok z1 (n := n) (by omega) (by omega) rfl
    have S1 := S.go (n := n + 1) (c' := c + ((n + 1 : Nat) : Int) * z - T.give (c + ((n + 1 : Nat) : Int) * z)) (t' := t + (c + ((n + 1 : Nat) : Int) * z) - (c + ((n + 1 : Nat) : Int) * z - T.give (c + ((n + 1 : Nat) : Int) * z))) (p' := max p (c + n * z)) (by omega) e1 (by omega) (by omega) (by omega)
    obtain ⟨by1, by2, by3⟩ := Tr.rest_by ok am0 (by omega)
    obtain ⟨by4, by5⟩ := Tr.by_ok ok _ by2
    have small : c + ((n + 1 : Nat) : Int) * z - T.give (c + ((n + 1 : Nat) : Int) * z) < 6 := by
      rw [by3]
      have := Int.emod_lt_of_pos (c + ((n + 1 : Nat) : Int) * z) (show 0 < by1 by omega)
      omega
    have eL : ((L - (n + 1) : Nat) : Int) = (L : Int) - ((n + 1 : Nat) : Int) := by omega
    have R1 := R.same s
    obtain ⟨va, vd, vu, eq, hv1, _⟩ := id R1
    cases eq
    refine ⟨fun σ2 H2 => ∃ (L2 : Nat) (c t p : Int) (kvs : List (Key × V)) (s9 s10 s11 s12 : Option V), σ2 = [some (.ref ua), some (.int c), some (.int z), some (.int M), some (.ref D), some (.int L2), some (.int t), some (.int p), some (.int ((T.top - c + z - 1) / z)), s9, s10, s11, s12] ∧
      L2 < L ∧ Same H H2 ∧ H2 D = some (.dK kvs) ∧ kvs.length ≤ cnt kvs ∧ Rp T z w M L2 c t p ∧ Seen 0 K T z H2 kvs L2 c t p,
      fun σ2 H2 ⟨L2, c, t, p, kvs, s9, s10, s11, s12, a1, a2, a3, a4, a5, a6, a7⟩ => ⟨_, a2, L2, c, t, p, kvs, s9, s10, s11, s12, a1, rfl, a3, a4, a5, a6, a7⟩, ?_⟩
    refine ⟨_, rfl, _, rfl, _, rfl, _, _, rfl, rfl, _, rfl, .inl ⟨_, _, rfl, rfl, mul_ok (by omega) (by omega), .inl ⟨_, _, rfl, rfl, _, _, rfl, ?_⟩⟩⟩
    refine ⟨_, rfl, _, rfl, _, rfl, .inl ⟨_, _, rfl, rfl, mul_ok (by omega) (by omega), .inl ⟨_, _, rfl, rfl, ?_⟩⟩⟩
    refine ⟨_, rfl, ua, vd, _, rfl, hv1, lk_tree (by decide +kernel), _, rfl, _, T, _, rfl, R1, ?_⟩
    refine ⟨_, rfl, _, rfl, _, _, rfl, rfl, _, rfl, _, rfl, .inl ⟨_, _, rfl, rfl, _, rfl, _, _, rfl, rfl, _, _, rfl, ?_⟩⟩
    dsimp only
    rw [imax_eq, en, ← eL]
    have hLL : L - (n + 1) < L := by omega
    clear e1 e2 r1 r2 g1 g2' by1 by2 by3 by4 by5 S P cc q2 q3 q4 am0 c0 c1 hS en eL q1
    have c0' := P1.c0
    generalize c + ((n + 1 : Nat) : Int) * z - T.give (c + ((n + 1 : Nat) : Int) * z) = c' at *
    generalize t + (c + ((n + 1 : Nat) : Int) * z) - c' = t' at *
    generalize max p (c + n * z) = p' at *
    generalize L - (n + 1) = L1 at *
    refine ⟨fun σ2 H2 => ∃ (L2 : Nat) (t p : Int) (kvs : List (Key × V)) (s8 s9 s10 s11 s12 : Option V), σ2 = [some (.ref ua), some (.int c'), some (.int z), some (.int M), some (.ref D), some (.int L2), some (.int t), some (.int p), s8, s9, s10, s11, s12] ∧
      L2 < L ∧ Same H H2 ∧ H2 D = some (.dK kvs) ∧ kvs.length ≤ cnt kvs ∧ Rp T z w M L2 c' t p ∧ Seen 0 K T z H2 kvs L2 c' t p, ?_, ?_⟩
    · refine ⟨_, rfl, _, rfl, D, valV kvs (.inl c'), rfl, DGet.k (k := .inl c') hG, _, rfl, ?_⟩
      cases ev : valV kvs (.inl c') with
      | some v =>
        -- it was here before: turns are skipped
        refine iteT' rfl ?_
        obtain ⟨a, l', t0, d, rfl, ha, h3, h4, h5, h6, h7, h8⟩ := S1 c' v ev
        have d1 : 1 ≤ d := by omega
        have et : (L1 : Int) / (l' - L1) = ((L1 / d : Nat) : Int) := by
          rw [show l' - (L1 : Int) = (d : Int) by omega]
          exact (Int.natCast_ediv _ _).symm
        have le : L1 / d * d ≤ L1 := Nat.div_mul_le_self L1 d
        have le2 : L1 / d ≤ L1 := Nat.div_le_self L1 d
        have e1 : (L1 : Int) - (L1 : Int) / (l' - L1) * (l' - L1) = ((L1 - L1 / d * d : Nat) : Int) := by
          rw [et, show l' - (L1 : Int) = (d : Int) by omega, Int.ofNat_sub le, Int.natCast_mul]
        have ed : t' - t0 = d * z := by omega
        have e2 : t' + (L1 : Int) / (l' - L1) * (t' - t0) = t' + ((L1 / d * d : Nat) : Int) * z := by
          rw [et, ed, Int.natCast_mul, Int.mul_assoc]
        have dz : (d : Int) * z ≤ 10 ^ 40 * 10 ^ 40 := Int.mul_le_mul (by omega) z2 (by omega) (by decide)
        have dz0 : 0 ≤ (d : Int) * z := Int.mul_nonneg (by omega) (by omega)
        have lim2 : (10 : Int) ^ 40 * 10 ^ 40 ≤ 10 ^ 100 := by decide
        have b1 : ((L1 : Int) / (l' - L1)).natAbs ≤ 10 ^ 100 := by
          rw [et]
          clear e1 e2 et
          generalize L1 / d = tt at le2
          omega
        have b2 : (l' - (L1 : Int)).natAbs ≤ 10 ^ 100 := by clear e1 e2 et b1; omega
        have b3 : (t' - t0).natAbs ≤ 10 ^ 100 := by rw [ed]; clear e1 e2 et b1; omega
        refine ⟨_, rfl, _, rfl, D, .ref a, rfl, (by rw [← ev]; exact DGet.k (k := .inl c') hG), g2 ha ?_⟩
        refine ⟨_, rfl, _, rfl, _, rfl, _, _, rfl, rfl, _, _, rfl, rfl, div_ok (by omega) (by omega), ?_⟩
        refine ⟨_, rfl, _, rfl, _, rfl, _, rfl, _, _, rfl, rfl, .inl ⟨_, _, rfl, rfl, mul_ok b1 b2, _, _, rfl, rfl, _, rfl, _, rfl, _, rfl, _, rfl, _, _, rfl, rfl, .inl ⟨_, _, rfl, rfl, mul_ok b1 b3, .inl ⟨_, _, rfl, rfl, _, _, rfl, ?_⟩⟩⟩⟩
        obtain ⟨k1, k2⟩ := Tr.kp_loop h4 (L1 / d)
        refine ⟨L1 - L1 / d * d, t' + ((L1 / d * d : Nat) : Int) * z, p', kvs, some (.int ((n + 1 : Nat) : Int)), some (.int (c + ((n + 1 : Nat) : Int) * z)), some (.int l'), some (.int t0), some (.int ((L1 : Int) / (l' - L1))), ?_, by omega, s, hG, hl, P1.skip h4 h6 d1, (S1.go le k1.symm (Int.le_refl _) (by omega) (by omega)).weak⟩
        rw [← e1, ← e2]
        rfl
      | none =>
        refine iteF' rfl ?_
        refine ⟨_, rfl, _, rfl, two_fit.2.1, fun q hq => ?_⟩
        have s2 := same_new (o := .tup [.int L1, .int t']) hq
        refine ⟨_, rfl, _, rfl, D, _, rfl, DPut.k (k := .inl c') (s2 _ _ hG) (by have := cnt_le kvs; exact small1000 (by omega)), ?_⟩
        exact ⟨L1, t', p', _, _, _, _, _, _, rfl, hLL, other_same (s.trans s2) hD, upd_same, cnt_put ev c0' small hl, P1, ((S1.weak.mono (Tups.same s2)).put P1.p0 (by omega) (SqT.of upd_same)).mono (dk_tups (s2 _ _ hG))⟩
    · rintro σ2 H2 ⟨L2, t2, p2, kvs2, b8, b9, b10, b11, b12, rfl, a2, a3, a4, a5, a6, a7⟩
      refine ⟨_, rfl, _, rfl, _, rfl, .ref ua, T, c', z, rfl, R.same a3, z1, z2, ?_⟩
      exact ⟨L2, c', t2, p2, kvs2, _, _, _, _, rfl, a2, a3, a4, a5, a6, a7⟩
  · -- the rest, without giving
    have few : c + (L : Int) * z < T.top := by
      have h : (L : Int) * z ≤ (S0 - 1) * z := Int.mul_le_mul_of_nonneg_right (by omega) (by omega)
      omega
    obtain ⟨f1, f2⟩ := Tr.kp_few ok z1 c0 L few
    have Lz0 : 0 ≤ (L : Int) * z := Int.mul_nonneg (by omega) (by omega)
    have eM : ((M : Int)).toNat = M := by omega
    rw [eM] at k
    have tot := P.tot
    have pk := P.pk
    refine ⟨fun σ2 H2 => H2 = G ∧ σ2 = [some (.ref ua), some (.int c), some (.int z), some (.int M), some (.ref D), some (.int L), some (.int t), some (.int (max w (T.pk z w M))), some (.int S0), s9, s10, s11, s12], ?_, ?_⟩
    · refine ⟨_, rfl, _, _, rfl, rfl, _, rfl, ?_⟩
      refine ifD (fun c2 => ?_) (fun c2 => ?_)
      · obtain ⟨n, rfl⟩ : ∃ n : Nat, L = n + 1 := ⟨L - 1, by omega⟩
        have en : ((n + 1 : Nat) : Int) - 1 = (n : Int) := by omega
        have e : ((n + 1 : Nat) : Int) * z = n * z + z := by rw [Int.natCast_add, Int.add_mul]; omega
        have nz : 0 ≤ (n : Int) * z := Int.mul_nonneg (by omega) (by omega)
        obtain ⟨f3, f4⟩ := Tr.kp_few ok z1 c0 n (by omega)
        refine ⟨_, rfl, _, rfl, _, rfl, _, _, rfl, rfl, _, rfl, .inl ⟨_, _, rfl, rfl, mul_ok (by omega) (by omega), .inl ⟨_, _, rfl, rfl, _, _, rfl, rfl, ?_⟩⟩⟩
        rw [pk, f4, ← imax_eq, ← en]
        rfl
      · obtain rfl : L = 0 := by omega
        refine ⟨rfl, ?_⟩
        have p0 := P.p0
        have : max p (T.pk z c 0) = p := by
          show max p 0 = p
          omega
        rw [pk, this]
    · rintro σ2 H2 ⟨rfl, rfl⟩
      refine ⟨_, rfl, _, rfl, _, rfl, .inl ⟨_, _, rfl, rfl, mul_ok (by omega) (by omega), .inl ⟨_, _, rfl, rfl, _, rfl, _, rfl, two_fit.2.2.1, fun q hq => ?_⟩⟩⟩
      have s2 := same_new (o := .tup [.int (c + L * z), .int t, .int (max w (T.pk z w M))]) hq
      refine k q _ (s.free hq) (s.trans s2) ?_
      rw [P.kp, f1, show w + (M : Int) * z - (c + L * z) = t by omega]
      exact SqT.of upd_same
/-- a tree and a Rule of it -/
structure St13 (K : PySem.W.Frag) (C : Cs) (G : Hp) (b l : Addr) (v u : V) (T : Tr) : Prop where
  bag : Bag G b l
  tr : TrAt K G v T
  ru : RuleAt K C G u T
theorem St13.step {b l : Addr} {v u : V} {T : Tr} (S : St13 K C G b l v u T) (k : Kp b G G') (B : Bag G' b l) : St13 K C G' b l v u T :=
  ⟨B, S.tr.mono (S.bag.tups k), S.ru.kpB S.bag k⟩
theorem St13.same {b l : Addr} {v u : V} {T : Tr} (S : St13 K C G b l v u T) (s : Same G G') : St13 K C G' b l v u T := S.step (Kp.of s) (S.bag.same s)
/-- not alike(rule.threshold, top) -/
theorem top_alike {i j : Nat} {σ : L2.St} {b l : Addr} {v u : V} {T : Tr} {D : Ends} (hi : σ[i]? = some (some u)) (hj : σ[j]? = some (some (.int T.top))) (S : St13 K C G b l v u T) (k : D.nx σ G) :
    tIfS (tNot (tB (tCall (sp_law_alike K) [] E0 (tCons (tProp C.Rule (sp_Rule_threshold K C) [] E0 (tVar i)) (tCons (tVar j) tNil))))) (tRet (tC (.bl false))) tNext D σ G := by
  obtain ⟨ua, ud, uu, rfl, hu1, r⟩ := id S.ru
  refine ⟨_, hi, ua, ud, _, rfl, hu1, _, T, rfl, S.ru, ?_⟩
  obtain ⟨t1, t2⟩ := Tr.top_ok r.2.1
  have g : GoodTo 0 2000 (.int T.top) := gt_int (by
    have : (10 : Int) ^ 50 ≤ 10 ^ 100 := by decide
    omega)
  exact ⟨_, hj, _, _, .int T.top, rfl, .int _, .int _, g.good, true, rfl, k⟩
end
end Pk
set_option Elab.async false
set_option linter.all false
set_option maxRecDepth 100000
set_option maxHeartbeats 2000000
/-! == and != of instances by an own __eq__ -/
namespace Pk
open PySem PySem.Spec PyProof.Rows PySem.SeqAt
section
variable {prog : Program} {w : World} {A : Around} {E : Value → Shared → Prop} {s : Shared} {K : PySem.W.Frag} {x C f : Addr} {ox : Obj} {od : Option Obj} {b : Value}
theorem ifBound_ne {M : Model} {args : List Value} {Q : Option Value → Shared → Prop} (I : PySem.W.InstAt s.heap x ox C od) (X : K.In s.heap) (hn : PySem.W.findIn K (.ref C) "__ne__" = some (some (.builtin "object.__ne__")))
    (h : wpAny M A (call (.builtin "object.__ne__") (.ref x :: args)) (fun v => Q (some v)) E s) : wpAny M A (callSpecialIfBound? (.ref x) "__ne__" args) Q E s := by
  simp only [callSpecialIfBound?, bindSpecialIfBound?]
  have last : wpAny M A (call (.builtin "object.__ne__") ([.ref x] ++ args) >>= fun v => pure (some v)) Q E s := wpAny_bind (wpAny_mono h (fun _ _ z => wpAny_pure z) fun _ _ z => z)
  refine wpAny_holding (wpAny_bind (wpAny_bind (wpAny_bind (I.type.here ((PySem.W.looks_findIn X hn).here (wpAny_bind (wpAny_askSetting (wpAny_ite ?_))))))))
  split
  · exact wpAny_bind (wpAny_of_eq (F.cmp_object.ne.bind _) (wpAny_pure (by exact last)))
  · exact wpAny_tryCatch (wpAny_bind (wpAny_of_eq (F.cmp_object.ne.bind _) (wpAny_pure (by exact last))))
theorem obj_ne {Q : Value → Shared → Prop} (hu : A.units + 1 < cLine) (X : K.In s.heap) (I : PySem.W.InstAt s.heap x ox C od) (hm : PySem.W.mroIn K C (.type "object") = some true)
    (hn : PySem.W.findIn K (.ref C) "__ne__" = some (some (.builtin "object.__ne__"))) (hs : PySem.W.findIn K (.ref C) "__eq__" = some (some (.ref f))) (hf : PySem.W.isFn K (.ref f) = true)
    (h : codeAny (model prog w) A.in1 (.call (.ref f) ⟨[.ref x, b], []⟩) (fun r s' => match r with | .ok (.ret v) => ∃ c, v = .bool c ∧ Q (.bool (!c)) s' | .ok _ => False | .error e => E e s') s) :
    wpAny (model prog w) A (tryCompare (.ref x) "__ne__" b) (fun r s' => ∃ v, r = some v ∧ Q v s') E s := by
  unfold tryCompare
  refine wpAny_bind (ifBound_ne I X hn (wpAny_call (codeAny_call_builtin F.cmp_object.ne.plain F.cmpEntry_ne
    (PySem.W.check_slot F.cmpKind_ne F.cmpSplit_ne (I.type.andThen (PySem.W.looks_mroIn X hm)) (F.cmpArgs_ne _ _) ?_))))
  unfold Builtin.«object.__ne__»
  repeat (first | with_reducible refine wpAny_cRoomFor hu ?_ | with_reducible refine wpAny_bind (PySem.W.ifBound_K X I hs hf ?_) | wp_step)
  refine codeAny_mono h fun r s' hr => ?_
  match r, hr with
  | .error e, hr => exact hr
  | .ok (.ret v), hr =>
    obtain ⟨c, rfl, q⟩ := hr
    refine wpAny_bind (wpAny_truthy_bool ?_)
    exact wpAny_pure (wpAny_pure ⟨_, rfl, q⟩)
/-- x != b by what is tried first -/
theorem rich_ne {tb : Value} {Q : Value → Shared → Prop} (hu : A.units < cLine) (X : K.In s.heap) (I : PySem.W.InstAt s.heap x ox C od) (hb : PySem.W.Looks (model prog w) s.heap (typeOf b) tb) (hn : PySem.W.notFirst K C tb = true)
    (one : wpAny (model prog w) A (tryCompare (.ref x) "__ne__" b) (fun r s' => ∃ v, r = some v ∧ Q v s') E s) : wpAny (model prog w) A (richCompare .NotEq (.ref x) b) Q E s := by
  unfold richCompare
  simp only [oneThing_ref]
  refine wpAny_holding (wpAny_bind (wpAny_cRoomFor hu (wpAny_bind (I.type.here (wpAny_bind (hb.here ?_))))))
  split
  · rename_i q
    have e : PySem.W.subIn K tb (.ref C) = some false := by
      rcases Bool.or_eq_true_iff.mp hn with e | e
      · exact absurd (beq_iff_eq.mp e) (by intro z; rw [z] at q; simp at q)
      · exact beq_iff_eq.mp e
    refine wpAny_bind ((PySem.W.looks_subIn X e).here ?_)
    simp only [Bool.false_eq_true, if_false]
    exact wpAny_bind (wpAny_mono one (fun r s1 ⟨v, ev, qv⟩ => by subst ev; exact wpAny_pure qv) fun _ _ y => y)
  · refine wpAny_bind (wpAny_pure ?_)
    simp only [Bool.false_eq_true, if_false]
    exact wpAny_bind (wpAny_mono one (fun r s1 ⟨v, ev, qv⟩ => by subst ev; exact wpAny_pure qv) fun _ _ y => y)
end
end Pk
namespace Pk
open PySem PySem.Spec L2 PyProof.Rows
section
variable {X : Cx} {CX : CXT} {k j : Nat} {C : Addr} {ps : List Str} {sp : Sp} {E : XK} {x : Str}
/-- x == y, x != y, both instances of the class at C -/
def rOwnEq (C : Addr) (sp : Sp) (E : XK) : R2 := fun x y H Q => ∃ a b dx fs dy gs, x = .ref a ∧ y = .ref b ∧ H a = some (.ins C dx fs) ∧ H b = some (.ins C dy gs) ∧ sp [x, y] H (fun v H' => ∃ c, v = .bl c ∧ Q (.bl c) H') E
def rOwnNe (C : Addr) (sp : Sp) (E : XK) : R2 := fun x y H Q => ∃ a b dx fs dy gs, x = .ref a ∧ y = .ref b ∧ H a = some (.ins C dx fs) ∧ H b = some (.ins C dy gs) ∧ sp [x, y] H (fun v H' => ∃ c, v = .bl c ∧ Q (.bl (!c)) H') E
theorem op_eqOwn (c : Kls X.K X.mg x C) (F : Own X.prog X.w X.K X.mg X.base CX k C "__eq__" ps sp) (hr : Room j X.A) (hx : Passes CX X E) (hj : k ≤ j := by first | decide | omega) : OpR X (compareOp .Eq) (rOwnEq C sp E) := by
  obtain ⟨f, fd, G, a1, a2, a3, a4, bb⟩ := F.ex
  intro pins s σ H u v ov iv Q I ru rv h
  obtain ⟨a, b, dx, fs, dy, gs, rfl, rfl, ha, hb, q⟩ := h
  cases (show ov = Value.ref a from ru)
  cases (show iv = Value.ref b from rv)
  obtain ⟨_, O, _⟩ := ins_get I.hok ha
  obtain ⟨od, J, _⟩ := O.look
  obtain ⟨_, O', _⟩ := ins_get I.hok hb
  obtain ⟨od', J', _⟩ := O'.look
  obtain ⟨_, hF⟩ := I.fr
  show wpAny (model X.prog X.w) X.A (richCompare .Eq (.ref a) (.ref b)) (EP X pins σ Q) X.xe s
  refine PySem.W.cmp_K (op := .Eq) (tb := .ref C) (Nat.lt_of_le_of_lt (Nat.le_add_right _ 64) hr.units) hF I.ok.mod.kin J J'.type (by simp [PySem.W.notFirst]) a1 a2 ?_
  refine wpAny_mono (run_fn (us := [.ref a, .ref b]) (vs := [.ref a, .ref b]) G (hr.mono hj) bb .nil hx I (.cons rfl (.cons rfl .nil)) q) ?_ fun _ _ z => z
  rintro w s' ⟨z, H', I', rz, d, rfl, qz⟩
  cases rz
  exact ⟨.bl d, H', I', rfl, qz⟩
theorem op_neOwn (c : Kls X.K X.mg x C) (F : Own X.prog X.w X.K X.mg X.base CX k C "__eq__" ps sp) (hr : Room j X.A) (hx : Passes CX X E) (hj : k + 1 ≤ j := by first | decide | omega) : OpR X (compareOp .NotEq) (rOwnNe C sp E) := by
  obtain ⟨f, fd, G, a1, a2, a3, a4, bb⟩ := F.ex
  intro pins s σ H u v ov iv Q I ru rv h
  obtain ⟨a, b, dx, fs, dy, gs, rfl, rfl, ha, hb, q⟩ := h
  cases (show ov = Value.ref a from ru)
  cases (show iv = Value.ref b from rv)
  obtain ⟨_, O, _⟩ := ins_get I.hok ha
  obtain ⟨od, J, _⟩ := O.look
  obtain ⟨_, O', _⟩ := ins_get I.hok hb
  obtain ⟨od', J', _⟩ := O'.look
  obtain ⟨_, hF⟩ := I.fr
  show wpAny (model X.prog X.w) X.A (richCompare .NotEq (.ref a) (.ref b)) (EP X pins σ Q) X.xe s
  have hu := hr.units
  refine rich_ne (tb := .ref C) (by omega) I.kIn J J'.type (by simp [PySem.W.notFirst]) (obj_ne (by omega) I.kIn J c.ic.hm c.ne a1 a2 ?_)
  have e := I.env0
  have e0 : Env0 X.prog X.w X.K X.mg X.base X.A.in1 X.stack s H := ⟨e.frames, e.mod, e.bs, e.bsz, e.funs, e.frf, e.hok, e.bare⟩
  have hl := G.len _ _ _ _ q
  refine codeAny_mono (G.run X.A.in1 X.stack s H ⟨[.ref a, .ref b], []⟩ [.ref a, .ref b] [.ref a, .ref b] _ E (hr.mono hj).in1 e0 (by
    have := bb s [.ref a, .ref b] I.kIn (by simpa using hl)
    simpa using this) (.cons rfl (.cons rfl .nil)) q) fun r s' z => ?_
  match r, z with
  | .error e, z => exact hx pins σ H s e s' I z
  | .ok (.ret w), z =>
    obtain ⟨y, H', I', rz, d, rfl, qz⟩ := I.after z
    cases rz
    exact ⟨d, rfl, .bl (!d), H', I', rfl, qz⟩
/-- what is never come to -/
def tNone : TE := fun _ _ _ => False
theorem pe_none {e : Expr} : PE X e tNone := ⟨fun _ _ _ _ _ _ h => h.elim⟩
end
end Pk
set_option Elab.async false
set_option linter.all false
set_option maxRecDepth 100000
set_option maxHeartbeats 2000000
namespace Pk
open PySem PySem.Spec L2 PyProof.Rows
/-! ### Accounts -/
structure FxAccount (K : PySem.W.Frag) (C : Cs) : Prop where
  cl : Cls K C.Account
  n1 : NoAttr K C.Account "_credit"
  n2 : NoAttr K C.Account "_rule"
  n3 : NoAttr K C.Account "_unpassed"
  n4 : NoAttr K C.Account "_withheld"
  ic : C8.InsC K C.Account
def accF (cr : Int) (r : V) (u w : Int) : List (Str × V) := [("_credit", .int cr), ("_rule", r), ("_unpassed", .int u), ("_withheld", .int w)]
theorem nm_cr : (("_credit" : Str) == "_rule") = false ∧ (("_credit" : Str) == "_unpassed") = false ∧ (("_credit" : Str) == "_withheld") = false ∧ (("_rule" : Str) == "_unpassed") = false ∧ (("_rule" : Str) == "_withheld") = false ∧ (("_unpassed" : Str) == "_withheld") = false := by decide +kernel
theorem nm_rc : (("_rule" : Str) == "_credit") = false ∧ (("_unpassed" : Str) == "_credit") = false ∧ (("_withheld" : Str) == "_credit") = false ∧ (("_unpassed" : Str) == "_rule") = false ∧ (("_withheld" : Str) == "_rule") = false ∧ (("_withheld" : Str) == "_unpassed") = false := by decide +kernel
theorem nm_ne : ("_credit" : Str) ≠ "_rule" ∧ ("_credit" : Str) ≠ "_unpassed" ∧ ("_credit" : Str) ≠ "_withheld" ∧ ("_rule" : Str) ≠ "_unpassed" ∧ ("_rule" : Str) ≠ "_withheld" ∧ ("_unpassed" : Str) ≠ "_withheld" := by decide +kernel
section
variable {cr u w : Int} {r : V}
theorem lk_cr : List.lookup ("_credit" : Str) (accF cr r u w) = some (.int cr) := by unfold accF; rw [List.lookup, beq_self_eq_true]
theorem lk_ru : List.lookup ("_rule" : Str) (accF cr r u w) = some r := by unfold accF; rw [List.lookup, nm_rc.1, List.lookup, beq_self_eq_true]
theorem lk_un : List.lookup ("_unpassed" : Str) (accF cr r u w) = some (.int u) := by unfold accF; rw [List.lookup, nm_rc.2.1, List.lookup, nm_rc.2.2.2.1, List.lookup, beq_self_eq_true]
theorem lk_wi : List.lookup ("_withheld" : Str) (accF cr r u w) = some (.int w) := by unfold accF; rw [List.lookup, nm_rc.2.2.1, List.lookup, nm_rc.2.2.2.2.1, List.lookup, nm_rc.2.2.2.2.2, List.lookup, beq_self_eq_true]
theorem lk_no {f : Str} (h1 : (f == ("_credit" : Str)) = false) (h2 : (f == ("_rule" : Str)) = false) (h3 : (f == ("_unpassed" : Str)) = false) (h4 : (f == ("_withheld" : Str)) = false) : (accF cr r u w).lookup f = none := by
  unfold accF
  rw [List.lookup, h1, List.lookup, h2, List.lookup, h3, List.lookup, h4, List.lookup]
theorem put_un {x : Int} : putF "_unpassed" (.int x) (accF cr r u w) = accF cr r x w := by
  unfold accF
  rw [putF, if_neg nm_ne.2.1, putF, if_neg nm_ne.2.2.2.1, putF, if_pos rfl]
theorem put_wi {x : Int} : putF "_withheld" (.int x) (accF cr r u w) = accF cr r u x := by
  unfold accF
  rw [putF, if_neg nm_ne.2.2.1, putF, if_neg nm_ne.2.2.2.2.1, putF, if_neg nm_ne.2.2.2.2.2, putF, if_pos rfl]
theorem put_all : putF "_withheld" (.int w) (putF "_unpassed" (.int u) (putF "_rule" r (putF "_credit" (.int cr) []))) = accF cr r u w := by
  unfold accF
  simp only [putF, if_neg nm_ne.1, if_neg nm_ne.2.1, if_neg nm_ne.2.2.1, if_neg nm_ne.2.2.2.1, if_neg nm_ne.2.2.2.2.1, if_neg nm_ne.2.2.2.2.2]
theorem no_tree {C D dx dy : Addr} {x : V} {fs : List (Str × V)} (h : fs.length = 4) (z : HO.ins C dx fs = HO.ins D dy [("_tree", x)]) : False := by
  have e := congrArg List.length (HO.ins.inj z).2.2
  rw [h] at e
  cases e
end
/-- an Account: its credit, the tree of its Rule, what is unpassed, withheld -/
def AccAt (K : PySem.W.Frag) (C : Cs) (H : Hp) (v : V) (cr : Int) (T : Tr) (u w : Int) : Prop := ∃ a dx r, v = .ref a ∧ H a = some (.ins C.Account dx (accF cr r u w)) ∧ RuleAt K C H r T ∧ FxAccount K C
section
variable {K : PySem.W.Frag} {C : Cs} {vs : List V} {H H' G G' : Hp} {Q : VK} {E : XK} {n : Nat} {v : V} {cr u w : Int} {T : Tr} {a b : Addr}
theorem RuleAt.keep {r : V} {o : HO} (h : RuleAt K C H r T) (ha : H b = some o) (n1 : ∀ dx x, o ≠ .ins C.Rule dx [("_tree", x)]) (n2 : ∀ xs, o ≠ .tup xs) (n3 : ∀ ob xs, o ≠ .frz ob (.tup xs)) (k : Kp b H H') : RuleAt K C H' r T := by
  obtain ⟨a, dx, x, e, h1, h2, q⟩ := h
  refine ⟨a, dx, x, e, k _ _ h1 (ne_of h1 ha fun z => n1 dx x z.symm), h2.mono fun c xs q => ?_, q⟩
  rcases q with (q | ⟨ob, q⟩) | q
  · exact .inl (.inl (k _ _ q (ne_of q ha fun z => n2 _ z.symm)))
  · exact .inl (.inr ⟨ob, k _ _ q (ne_of q ha fun z => n3 _ _ z.symm)⟩)
  · exact .inr q
theorem AccAt.same (h : AccAt K C H v cr T u w) (s : Same H H') : AccAt K C H' v cr T u w := by
  obtain ⟨a, dx, r, e, h1, h2, fa⟩ := h
  exact ⟨a, dx, r, e, s _ _ h1, h2.same s, fa⟩
/-- an Account stays when a list is written -/
theorem AccAt.kp {ys : List V} (h : AccAt K C H v cr T u w) (k : Kp b H H') (hb : H b = some (.lst ys)) : AccAt K C H' v cr T u w := by
  obtain ⟨a, dx, r, e, h1, h2, fa⟩ := h
  exact ⟨a, dx, r, e, k _ _ h1 (ne_of h1 hb fun z => nomatch z), h2.kp k hb, fa⟩
/-- an Account stays when another one is written -/
theorem AccAt.kpA {dx : Addr} {fs : List (Str × V)} (h : AccAt K C H (.ref b) cr T u w) (k : Kp a H H') (ha : H a = some (.ins C.Account dx fs)) (hl : fs.length = 4) (ne : b ≠ a) : AccAt K C H' (.ref b) cr T u w := by
  obtain ⟨c, dy, r, e, h1, h2, fa⟩ := h
  cases e
  exact ⟨_, dy, r, rfl, k _ _ h1 ne, h2.keep ha (fun d x z => no_tree hl z) (fun _ z => nomatch z) (fun _ _ z => nomatch z) k, fa⟩
/-- written itself -/
theorem AccAt.put {dx : Addr} {r : V} (h1 : H a = some (.ins C.Account dx (accF cr r u w))) (h2 : RuleAt K C H r T) (fa : FxAccount K C) {u' w' : Int} : AccAt K C (upd H a (.ins C.Account dx (accF cr r u' w'))) (.ref a) cr T u' w' :=
  ⟨a, dx, r, rfl, upd_same, h2.keep h1 (fun d x z => no_tree rfl z) (fun _ z => nomatch z) (fun _ _ z => nomatch z) kp_put, fa⟩
def sp_Account_left (K : PySem.W.Frag) (C : Cs) : Sp := fun vs H Q _ => ∃ v cr T u w, vs = [v] ∧ AccAt K C H v cr T u w ∧ Q (.int (cr - u - w)) H
def sp_Account_unpassed (K : PySem.W.Frag) (C : Cs) : Sp := fun vs H Q _ => ∃ v cr T u w, vs = [v] ∧ AccAt K C H v cr T u w ∧ Q (.int u) H
def sp_Account_withheld (K : PySem.W.Frag) (C : Cs) : Sp := fun vs H Q _ => ∃ v cr T u w, vs = [v] ∧ AccAt K C H v cr T u w ∧ Q (.int w) H
def t_Account_left (K : PySem.W.Frag) : TS :=
  (tRet (tOp (rSubI) (tOp (rSubI) (tFld K (tVar 0) "_credit") (tFld K (tVar 0) "_unpassed")) (tFld K (tVar 0) "_withheld")))
def t_Account_unpassed (K : PySem.W.Frag) : TS :=
  (tRet (tFld K (tVar 0) "_unpassed"))
def t_Account_withheld (K : PySem.W.Frag) : TS :=
  (tRet (tFld K (tVar 0) "_withheld"))
theorem ln_Account_left (h : sp_Account_left K C vs H Q E) : vs.length = 1 := by obtain ⟨_, _, _, _, _, rfl, _⟩ := h; rfl
theorem ln_Account_unpassed (h : sp_Account_unpassed K C vs H Q E) : vs.length = 1 := by obtain ⟨_, _, _, _, _, rfl, _⟩ := h; rfl
theorem ln_Account_withheld (h : sp_Account_withheld K C vs H Q E) : vs.length = 1 := by obtain ⟨_, _, _, _, _, rfl, _⟩ := h; rfl
theorem rd_Account_left (h : sp_Account_left K C vs H Q E) : t_Account_left K (EndsOf Q) (start [""] vs) H := by
  obtain ⟨v, cr, T, u, w, rfl, ⟨a, dx, r, rfl, ha, _, fa⟩, k⟩ := h
  exact ⟨_, rfl, a, _, dx, _, _, rfl, ha, fa.cl, fa.n1, lk_cr, _, rfl, a, _, dx, _, _, rfl, ha, fa.cl, fa.n3, lk_un, _, _, rfl, rfl, _, rfl, a, _, dx, _, _, rfl, ha, fa.cl, fa.n4, lk_wi, _, _, rfl, rfl, k⟩
theorem rd_Account_unpassed (h : sp_Account_unpassed K C vs H Q E) : t_Account_unpassed K (EndsOf Q) (start [""] vs) H := by
  obtain ⟨v, cr, T, u, w, rfl, ⟨a, dx, r, rfl, ha, _, fa⟩, k⟩ := h
  exact ⟨_, rfl, a, _, dx, _, _, rfl, ha, fa.cl, fa.n3, lk_un, k⟩
theorem rd_Account_withheld (h : sp_Account_withheld K C vs H Q E) : t_Account_withheld K (EndsOf Q) (start [""] vs) H := by
  obtain ⟨v, cr, T, u, w, rfl, ⟨a, dx, r, rfl, ha, _, fa⟩, k⟩ := h
  exact ⟨_, rfl, a, _, dx, _, _, rfl, ha, fa.cl, fa.n4, lk_wi, k⟩
theorem rfl4 {r : V} : (accF cr r u w).length < 1000 := by show 4 < 1000; decide
def sp_Account___isub__ (K : PySem.W.Frag) (C : Cs) : Sp := fun vs H Q _ => ∃ a cr T u w m, vs = [.ref a, .int m] ∧ AccAt K C H (.ref a) cr T u w ∧ m ≤ cr - u - w ∧ ∀ H', Kp a H H' → AccAt K C H' (.ref a) cr T (u + m) w → Q (.ref a) H'
def sp_Account___iadd__ (K : PySem.W.Frag) (C : Cs) : Sp := fun vs H Q _ => ∃ a cr T u w m, vs = [.ref a, .int m] ∧ AccAt K C H (.ref a) cr T u w ∧ m ≤ u ∧ ∀ H', Kp a H H' → AccAt K C H' (.ref a) cr T (u - m) (w + m - T.give (w + m)) → Q (.ref a) H'
def t_Account___isub__ (K : PySem.W.Frag) (C : Cs) : TS :=
  (tSeq (tIfS (tTest (tOp (rGtI) (tVar 1) (tProp C.Account (sp_Account_left K C) [] E0 (tVar 0)))) tNever tNext)
    (tSeq (sFld K (tVar 0) (tOp (rAddU K) (tFld K (tVar 0) "_unpassed") (tVar 1)) "_unpassed")
    (tRet (tVar 0))))
def t_Account___iadd__ (K : PySem.W.Frag) (C : Cs) : TS :=
  (tSeq (tIfS (tTest (tOp (rGtI) (tVar 1) (tFld K (tVar 0) "_unpassed"))) tNever tNext)
    (tSeq (sFld K (tVar 0) (tOp (rSubI) (tFld K (tVar 0) "_unpassed") (tVar 1)) "_unpassed")
    (tSeq (sFld K (tVar 0) (tMeth C.Rule "rest" (sp_Rule_rest K C) [] E0 (tFld K (tVar 0) "_rule") (tCons (tOp (rAddU K) (tFld K (tVar 0) "_withheld") (tVar 1)) tNil)) "_withheld")
    (tRet (tVar 0)))))
theorem ln_Account___isub__ (h : sp_Account___isub__ K C vs H Q E) : vs.length = 2 := by obtain ⟨_, _, _, _, _, _, rfl, _⟩ := h; rfl
theorem ln_Account___iadd__ (h : sp_Account___iadd__ K C vs H Q E) : vs.length = 2 := by obtain ⟨_, _, _, _, _, _, rfl, _⟩ := h; rfl
theorem rd_Account___isub__ (h : sp_Account___isub__ K C vs H Q E) : t_Account___isub__ K C (EndsOf Q) (start ["", ""] vs) H := by
  obtain ⟨a, cr, T, u, w, m, rfl, A, hm, k⟩ := h
  obtain ⟨_, dx, r, e, ha, hr, fa⟩ := id A
  cases e
  refine ⟨_, rfl, _, rfl, a, dx, _, rfl, ha, _, cr, T, u, w, rfl, A, _, _, rfl, rfl, _, rfl, ?_⟩
  refine iteF' (decide_eq_false (by omega)) ?_
  refine ⟨_, rfl, a, _, dx, _, _, rfl, ha, fa.cl, fa.n3, lk_un, _, rfl, .inl ⟨_, _, rfl, rfl, _, rfl, a, _, dx, _, rfl, ha, fa.cl, fa.n3, rfl4, ?_⟩⟩
  rw [put_un]
  exact ⟨_, rfl, k _ kp_put (AccAt.put ha hr fa)⟩
theorem rd_Account___iadd__ (h : sp_Account___iadd__ K C vs H Q E) : t_Account___iadd__ K C (EndsOf Q) (start ["", ""] vs) H := by
  obtain ⟨a, cr, T, u, w, m, rfl, A, hm, k⟩ := h
  obtain ⟨_, dx, r, e, ha, hr, fa⟩ := id A
  cases e
  refine ⟨_, rfl, _, rfl, a, _, dx, _, _, rfl, ha, fa.cl, fa.n3, lk_un, _, _, rfl, rfl, _, rfl, ?_⟩
  refine iteF' (decide_eq_false (by omega)) ?_
  refine ⟨_, rfl, a, _, dx, _, _, rfl, ha, fa.cl, fa.n3, lk_un, _, rfl, _, _, rfl, rfl, _, rfl, a, _, dx, _, rfl, ha, fa.cl, fa.n3, rfl4, ?_⟩
  rw [put_un]
  have hr1 := hr.keep (H' := upd H a (.ins C.Account dx (accF cr r (u - m) w))) ha (fun d x z => no_tree rfl z) (fun _ z => nomatch z) (fun _ _ z => nomatch z) kp_put
  have ha1 : (upd H a (.ins C.Account dx (accF cr r (u - m) w))) a = some (.ins C.Account dx (accF cr r (u - m) w)) := upd_same
  have k1 : Kp a H (upd H a (.ins C.Account dx (accF cr r (u - m) w))) := kp_put
  show tSeq _ _ _ _ (upd H a (.ins C.Account dx (accF cr r (u - m) w)))
  generalize upd H a (.ins C.Account dx (accF cr r (u - m) w)) = G at hr1 ha1 k1 ⊢
  obtain ⟨ra, rd, ru, rfl, hra, _⟩ := id hr1
  refine ⟨_, rfl, a, _, dx, _, _, rfl, ha1, fa.cl, fa.n2, lk_ru, ra, rd, _, rfl, hra, lk_tree (by decide +kernel), ?_⟩
  refine ⟨_, rfl, a, _, dx, _, _, rfl, ha1, fa.cl, fa.n4, lk_wi, _, rfl, .inl ⟨_, _, rfl, rfl, ?_⟩⟩
  refine ⟨_, T, _, rfl, hr1, _, rfl, a, _, dx, _, rfl, ha1, fa.cl, fa.n4, rfl4, ?_⟩
  rw [put_wi]
  exact ⟨_, rfl, k _ k1.put (AccAt.put ha1 hr1 fa)⟩
def sp_Account_passes (K : PySem.W.Frag) (C : Cs) : Sp := fun vs H Q _ => ∃ a cr T u w z m, vs = [.ref a, .int z, .int m] ∧ AccAt K C H (.ref a) cr T u w ∧ 0 ≤ w ∧ w < T.top ∧ 1 ≤ z ∧ z ≤ 10 ^ 40 ∧ 0 ≤ m ∧ m ≤ 10 ^ 40 ∧ z * m ≤ u ∧
  ∀ H', Kp a H H' → AccAt K C H' (.ref a) cr T (u - z * m) (T.kp z w m.toNat) → Q (.int (w + m * z - T.kp z w m.toNat)) H'
def sp_Account_flows (K : PySem.W.Frag) (C : Cs) : Sp := fun vs H Q _ => ∃ a cr T u w z m, vs = [.ref a, .int z, .int m] ∧ AccAt K C H (.ref a) cr T u w ∧ 0 ≤ w ∧ w < T.top ∧ 1 ≤ z ∧ z ≤ 10 ^ 40 ∧ 0 ≤ m ∧ m ≤ 10 ^ 40 ∧ z ≤ cr - u - max w (T.pk z w m.toNat) ∧
  ∀ H', Kp a H H' → AccAt K C H' (.ref a) cr T u (T.kp z w m.toNat) → Q (.int (w + m * z - T.kp z w m.toNat)) H'
def t_Account_passes (K : PySem.W.Frag) (C : Cs) : TS :=
  (tSeq (tIfS (tTest (tOp (rGtI) (tOp (rMulU K) (tVar 1) (tVar 2)) (tFld K (tVar 0) "_unpassed"))) tNever tNext)
    (tSeq (tAsg (tCall (sp_repeated K C) [] E0 (tCons (tFld K (tVar 0) "_rule") (tCons (tFld K (tVar 0) "_withheld") (tCons (tVar 1) (tCons (tVar 2) tNil))))) (gTup K 3 (gCons (gName 3) (gCons (gName 4) (gCons (gName 5) gNil)))))
    (tSeq (sFld K (tVar 0) (tOp (rSubI) (tFld K (tVar 0) "_unpassed") (tOp (rMulU K) (tVar 1) (tVar 2))) "_unpassed")
    (tSeq (sFld K (tVar 0) (tVar 3) "_withheld")
    (tRet (tVar 4))))))
def t_Account_flows (K : PySem.W.Frag) (C : Cs) : TS :=
  (tSeq (tAsg (tCall (sp_repeated K C) [] E0 (tCons (tFld K (tVar 0) "_rule") (tCons (tFld K (tVar 0) "_withheld") (tCons (tVar 1) (tCons (tVar 2) tNil))))) (gTup K 3 (gCons (gName 3) (gCons (gName 4) (gCons (gName 5) gNil)))))
    (tSeq (tIfS (tTest (tOp (rLtI) (tOp (rSubI) (tOp (rSubI) (tFld K (tVar 0) "_credit") (tFld K (tVar 0) "_unpassed")) (tVar 5)) (tVar 1))) tNever tNext)
    (tSeq (sFld K (tVar 0) (tVar 3) "_withheld")
    (tRet (tVar 4)))))
theorem ln_Account_passes (h : sp_Account_passes K C vs H Q E) : vs.length = 3 := by obtain ⟨_, _, _, _, _, _, _, rfl, _⟩ := h; rfl
theorem ln_Account_flows (h : sp_Account_flows K C vs H Q E) : vs.length = 3 := by obtain ⟨_, _, _, _, _, _, _, rfl, _⟩ := h; rfl
theorem RuleAt.okk {r : V} (h : RuleAt K C H r T) : T.ok := by obtain ⟨_, _, _, _, _, _, ok, _⟩ := h; exact ok
theorem rd_Account_passes (h : sp_Account_passes K C vs H Q E) : t_Account_passes K C (EndsOf Q) (start ["", "", "", "", "", ""] vs) H := by
  obtain ⟨a, cr, T, u, w, z, m, rfl, A, w0, w1, z1, z2, m0, m2, hm, k⟩ := h
  obtain ⟨_, dx, r, e, ha, hr, fa⟩ := id A
  cases e
  have lim : (10 : Int) ^ 40 ≤ 10 ^ 100 := by decide
  have mk := mul_ok (i := z) (j := m) (by omega) (by omega)
  refine ⟨_, rfl, _, rfl, .inl ⟨_, _, rfl, rfl, mk, _, rfl, a, _, dx, _, _, rfl, ha, fa.cl, fa.n3, lk_un, _, _, rfl, rfl, _, rfl, ?_⟩⟩
  refine iteF' (decide_eq_false (by omega)) ?_
  refine ⟨_, rfl, a, _, dx, _, _, rfl, ha, fa.cl, fa.n2, lk_ru, _, rfl, a, _, dx, _, _, rfl, ha, fa.cl, fa.n4, lk_wi, _, rfl, _, rfl, ?_⟩
  refine ⟨r, T, w, z, m, rfl, hr, w0, w1, z1, z2, m0, m2, fun p G hp s hq => g3 hq ?_⟩
  have ha1 := s _ _ ha
  have hr1 := hr.same s
  refine ⟨_, rfl, a, _, dx, _, _, rfl, ha1, fa.cl, fa.n3, lk_un, _, rfl, _, rfl, .inl ⟨_, _, rfl, rfl, mk, _, _, rfl, rfl, _, rfl, a, _, dx, _, rfl, ha1, fa.cl, fa.n3, rfl4, ?_⟩⟩
  rw [put_un]
  have hr2 := hr1.keep (H' := upd G a (.ins C.Account dx (accF cr r (u - z * m) w))) ha1 (fun d x z => no_tree rfl z) (fun _ z => nomatch z) (fun _ _ z => nomatch z) kp_put
  have ha2 : (upd G a (.ins C.Account dx (accF cr r (u - z * m) w))) a = some (.ins C.Account dx (accF cr r (u - z * m) w)) := upd_same
  have k2 : Kp a H (upd G a (.ins C.Account dx (accF cr r (u - z * m) w))) := (Kp.of s).put
  show tSeq _ _ _ _ (upd G a (.ins C.Account dx (accF cr r (u - z * m) w)))
  generalize upd G a (.ins C.Account dx (accF cr r (u - z * m) w)) = G2 at hr2 ha2 k2 ⊢
  refine ⟨_, rfl, _, rfl, a, _, dx, _, rfl, ha2, fa.cl, fa.n4, rfl4, ?_⟩
  rw [put_wi]
  exact ⟨_, rfl, k _ k2.put (AccAt.put ha2 hr2 fa)⟩
theorem rd_Account_flows (h : sp_Account_flows K C vs H Q E) : t_Account_flows K C (EndsOf Q) (start ["", "", "", "", "", ""] vs) H := by
  obtain ⟨a, cr, T, u, w, z, m, rfl, A, w0, w1, z1, z2, m0, m2, hm, k⟩ := h
  obtain ⟨_, dx, r, e, ha, hr, fa⟩ := id A
  cases e
  refine ⟨_, rfl, a, _, dx, _, _, rfl, ha, fa.cl, fa.n2, lk_ru, _, rfl, a, _, dx, _, _, rfl, ha, fa.cl, fa.n4, lk_wi, _, rfl, _, rfl, ?_⟩
  refine ⟨r, T, w, z, m, rfl, hr, w0, w1, z1, z2, m0, m2, fun p G hp s hq => g3 hq ?_⟩
  have ha1 := s _ _ ha
  have hr1 := hr.same s
  refine ⟨_, rfl, a, _, dx, _, _, rfl, ha1, fa.cl, fa.n1, lk_cr, _, rfl, a, _, dx, _, _, rfl, ha1, fa.cl, fa.n3, lk_un, _, _, rfl, rfl, _, rfl, _, _, rfl, rfl, _, rfl, _, _, rfl, rfl, _, rfl, ?_⟩
  refine iteF' (decide_eq_false (by omega)) ?_
  refine ⟨_, rfl, _, rfl, a, _, dx, _, rfl, ha1, fa.cl, fa.n4, rfl4, ?_⟩
  rw [put_wi]
  exact ⟨_, rfl, k _ (Kp.of s).put (AccAt.put ha1 hr1 fa)⟩
def sp_Account___init__ (K : PySem.W.Frag) (C : Cs) : Sp := fun vs H Q _ => ∃ p dx cr r T, vs = [.ref p, .int cr, r] ∧ H p = some (.ins C.Account dx []) ∧ RuleAt K C H r T ∧ 1 ≤ cr ∧ FxAccount K C ∧ ∀ H', Kp p H H' → AccAt K C H' (.ref p) cr T 0 0 → Q .non H'
def t_Account___init__ (K : PySem.W.Frag) (C : Cs) : TS :=
  (tSeq (tIfS (tNot (tB (tCall (sp_is_number K) [] E0 (tCons (tC (.int 1)) (tCons (tVar 1) tNil))))) tNever tNext)
    (tSeq (tIfS (tNot (tB (tCB (rIsi K) (tCons (tVar 2) (tCons (tC (.ref C.Rule)) tNil))))) tNever tNext)
    (tSeq (sFld K (tVar 0) (tVar 1) "_credit")
    (tSeq (sFld K (tVar 0) (tVar 2) "_rule")
    (tSeq (sFld K (tVar 0) (tC (.int 0)) "_unpassed")
    (sFld K (tVar 0) (tC (.int 0)) "_withheld"))))))
theorem ln_Account___init__ (h : sp_Account___init__ K C vs H Q E) : vs.length = 3 := by obtain ⟨_, _, _, _, _, rfl, _⟩ := h; rfl
theorem rd_Account___init__ (h : sp_Account___init__ K C vs H Q E) : t_Account___init__ K C (EndsOf Q) (start ["", "", ""] vs) H := by
  obtain ⟨p, dx, cr, r, T, rfl, hp, hr, c1, fa, k⟩ := h
  obtain ⟨ra, rd, ru, rfl, hra, hru⟩ := id hr
  refine ⟨_, rfl, 1, cr, rfl, _, rfl, ?_⟩
  rw [decide_eq_true c1]
  have ic := hru.2.2.2.ic
  refine ⟨_, rfl, _, _, _, _, true, rfl, .own _, .base (.ins hra ic.cl ic.ha ic.hn ic.htk ic.hm), ic.me, true, rfl, ?_⟩
  refine ⟨_, rfl, _, rfl, p, _, dx, _, rfl, hp, fa.cl, fa.n1, by show 0 < 1000; decide, ?_⟩
  refine ⟨_, rfl, _, rfl, p, _, dx, _, rfl, upd_same, fa.cl, fa.n2, by show 1 < 1000; decide, ?_⟩
  refine ⟨_, rfl, p, _, dx, _, rfl, upd_same, fa.cl, fa.n3, by show 2 < 1000; decide, ?_⟩
  refine ⟨_, rfl, p, _, dx, _, rfl, upd_same, fa.cl, fa.n4, by show 3 < 1000; decide, ?_⟩
  rw [put_all]
  have kk : Kp p H (upd (upd (upd (upd H p (.ins C.Account dx (putF "_credit" (.int cr) []))) p (.ins C.Account dx (putF "_rule" (.ref ra) (putF "_credit" (.int cr) [])))) p (.ins C.Account dx (putF "_unpassed" (.int 0) (putF "_rule" (.ref ra) (putF "_credit" (.int cr) []))))) p (.ins C.Account dx (accF cr (.ref ra) 0 0))) := kp_put.put.put.put
  refine k _ kk ⟨p, dx, _, rfl, upd_same, hr.keep hp (fun d x z => ?_) (fun _ z => nomatch z) (fun _ _ z => nomatch z) kk, fa⟩
  exact nomatch (HO.ins.inj z).2.2
/-- Account(credit, rule) -/
theorem make_acc {u : V} (fa : FxAccount K C) (c1 : 1 ≤ cr) (hr : RuleAt K C G u T) (k : ∀ x H', G x = none → Same G H' → AccAt K C H' (.ref x) cr T 0 0 → Q (.ref x) H') :
    ∀ x dx, G x = none → G dx = none → dx ≠ x → sp_Account___init__ K C (.ref x :: ([.int cr, u] ++ [])) (upd (upd G dx (.own x)) x (.ins C.Account dx [])) (fun v H2 => v = .non ∧ Q (.ref x) H2) E := by
  intro x dx hx hd ne
  have s : Same G (upd (upd G dx (.own x)) x (.ins C.Account dx [])) := fun b o e => by
    rw [upd_ne (ne_of_none e hx), upd_ne (ne_of_none e hd)]
    exact e
  refine ⟨x, dx, cr, u, T, rfl, upd_same, hr.same s, c1, fa, fun H' k1 A => ⟨rfl, k x H' hx (fun b o e => k1 b o (s b o e) (ne_of_none e hx)) A⟩⟩
def sp_Rule___eq__ (K : PySem.W.Frag) (C : Cs) : Sp := fun vs H Q _ => ∃ x y T, vs = [x, y] ∧ RuleAt K C H x T ∧ RuleAt K C H y T ∧ Q (.bl true) H
def sp_Account___eq__ (K : PySem.W.Frag) (C : Cs) : Sp := fun vs H Q _ => ∃ x y cr T u w, vs = [x, y] ∧ AccAt K C H x cr T u w ∧ AccAt K C H y cr T u w ∧ 0 ≤ cr ∧ cr ≤ 10 ^ 100 ∧ 0 ≤ u ∧ u ≤ 10 ^ 100 ∧ 0 ≤ w ∧ w ≤ 10 ^ 100 ∧ ∀ H', Same H H' → Q (.bl true) H'
def t_Rule___eq__ (K : PySem.W.Frag) (C : Cs) : TS :=
  (tSeq (tIfS (tNot (tB (tCB (rIsi K) (tCons (tVar 1) (tCons (tC (.ref C.Rule)) tNil))))) (tRet (tC (.bl false))) tNext)
    (tRet (tOrV (tOp (rEqU K) (tFld K (tVar 0) "_tree") (tFld K (tVar 1) "_tree")) tNone)))
def t_Account___eq__ (K : PySem.W.Frag) (C : Cs) : TS :=
  (tSeq (tIfS (tNot (tB (tCB (rIsi K) (tCons (tVar 1) (tCons (tC (.ref C.Account)) tNil))))) (tRet (tC (.bl false))) tNext)
    (tSeq (tAsg (tTup (tCons (tFld K (tVar 0) "_credit") (tCons (tFld K (tVar 0) "_unpassed") (tCons (tFld K (tVar 0) "_withheld") tNil)))) (gName 2))
    (tRet (tAndV (tOp (rEqU K) (tVar 2) (tTup (tCons (tFld K (tVar 1) "_credit") (tCons (tFld K (tVar 1) "_unpassed") (tCons (tFld K (tVar 1) "_withheld") tNil))))) (tOp (rOwnEq C.Rule (sp_Rule___eq__ K C) E0) (tFld K (tVar 0) "_rule") (tFld K (tVar 1) "_rule"))))))
theorem ln_Rule___eq__ (h : sp_Rule___eq__ K C vs H Q E) : vs.length = 2 := by obtain ⟨_, _, _, rfl, _⟩ := h; rfl
theorem ln_Account___eq__ (h : sp_Account___eq__ K C vs H Q E) : vs.length = 2 := by obtain ⟨_, _, _, _, _, _, rfl, _⟩ := h; rfl
theorem rd_Rule___eq__ (h : sp_Rule___eq__ K C vs H Q E) : t_Rule___eq__ K C (EndsOf Q) (start ["", ""] vs) H := by
  obtain ⟨x, y, T, rfl, ⟨a, dx, u, rfl, ha, hT, ok, l6, fx⟩, ⟨b, dy, z, rfl, hb, hZ, _, _, _⟩, k⟩ := h
  refine ⟨_, rfl, _, _, _, _, true, rfl, .own _, .base (.ins hb fx.ic.cl fx.ic.ha fx.ic.hn fx.ic.htk fx.ic.hm), fx.ic.me, true, rfl, ?_⟩
  have g := (gt_tree ok).good (by omega) (by omega)
  refine ⟨_, rfl, a, _, dx, _, u, rfl, ha, fx.cl, fx.no, rfl, _, rfl, b, _, dy, _, z, rfl, hb, fx.cl, fx.no, rfl, .inr ⟨T.pd, T.pd, hT.dp, hZ.dp, g.sh, g.sh, ?_⟩⟩
  rw [g.same]
  exact ⟨true, rfl, k⟩
theorem dp3' {p : Addr} {x y z : Int} (h : SqT K H p [.int x, .int y, .int z]) : Dp K H (.ref p) (.tuple [.int x, .int y, .int z]) := .tup h (.cons (.int _) (.cons (.int _) (.cons (.int _) .nil)))
theorem rd_Account___eq__ (h : sp_Account___eq__ K C vs H Q E) : t_Account___eq__ K C (EndsOf Q) (start ["", "", ""] vs) H := by
  obtain ⟨x, y, cr, T, u, w, rfl, ⟨a, dx, r, rfl, ha, hr, fa⟩, ⟨b, dy, r2, rfl, hb, hr2, _⟩, c0, c1, u0, u1, w0, w1, k⟩ := h
  refine ⟨_, rfl, _, _, _, _, true, rfl, .own _, .base (.ins hb fa.ic.cl fa.ic.ha fa.ic.hn fa.ic.htk fa.ic.hm), fa.ic.me, true, rfl, ?_⟩
  refine ⟨_, rfl, a, _, dx, _, _, rfl, ha, fa.cl, fa.n1, lk_cr, _, rfl, a, _, dx, _, _, rfl, ha, fa.cl, fa.n3, lk_un, _, rfl, a, _, dx, _, _, rfl, ha, fa.cl, fa.n4, lk_wi, two_fit.2.2.1, fun p hp => ?_⟩
  have s1 := same_new (o := .tup [.int cr, .int u, .int w]) hp
  have hb1 := s1 _ _ hb
  refine ⟨_, rfl, _, rfl, b, _, dy, _, _, rfl, hb1, fa.cl, fa.n1, lk_cr, _, rfl, b, _, dy, _, _, rfl, hb1, fa.cl, fa.n3, lk_un, _, rfl, b, _, dy, _, _, rfl, hb1, fa.cl, fa.n4, lk_wi, two_fit.2.2.1, fun q hq => ?_⟩
  have s2 := same_new (o := .tup [.int cr, .int u, .int w]) hq
  have s := s1.trans s2
  have g : Good (.tuple [.int cr, .int u, .int w]) := (gt_tuple (at_cons (gt_int (by omega)) (at_cons (gt_int (by omega)) (at_cons (gt_int (by omega)) at_nil)))).good
  refine .inr ⟨_, _, dp3' (SqT.of (s2 _ _ upd_same)), dp3' (SqT.of upd_same), g.sh, g.sh, ?_⟩
  rw [g.same]
  obtain ⟨ra, rd, ru, rfl, hra, _⟩ := id (hr.same s)
  obtain ⟨rb, re, rv, rfl, hrb, _⟩ := id (hr2.same s)
  refine ⟨true, rfl, ?_⟩
  refine ⟨_, rfl, a, _, dx, _, _, rfl, s _ _ ha, fa.cl, fa.n2, lk_ru, _, rfl, b, _, dy, _, _, rfl, s _ _ hb, fa.cl, fa.n2, lk_ru, ?_⟩
  exact ⟨ra, rb, rd, _, re, _, rfl, rfl, hra, hrb, _, _, T, rfl, hr.same s, hr2.same s, true, rfl, k _ s⟩
end
end Pk
set_option Elab.async false
set_option linter.all false
set_option maxRecDepth 100000
set_option maxHeartbeats 4000000
/-! a set of whole numbers by a comprehension of two clauses without tests; sorted of a set of any size -/
namespace Pk
open PySem PySem.Spec L2 PyProof.Rows
/-- {elt for ta in ia for tb in ib} -/
abbrev Set2 (elt ta ia tb ib : Expr) (sc : Scope) (ps : Pos) : Expr := .SetComp elt [⟨ta, ia, [], 0⟩, ⟨tb, ib, [], 0⟩] sc ps
abbrev Nt (M : Model) (A : Around) (env : Env) (R : Result → Shared → Prop) : Value → Shared → Prop := notedBy M A env fun e z => R (.error e) z
section
variable {prog : Program} {w : World} {A : Around} {R : Result → Shared → Prop} {z : Shared} {elt ta ia tb ib : Expr} {sc : Scope} {ps : Pos} {it acc : Value} {env : Env}
theorem set2_outer : compTurn (Set2 elt ta ia tb ib sc ps) 0 it acc env = (do
      standAt ia.pos
      match ← pyNext it with
      | none => pure (.done .next)
      | some u =>
        letOwnedTupleGo ta it u
        assign ta env u
        let mut go := true
        for c in ([] : List Expr) do
          if go then go ← isTrue c env (eval c env)
        if go then
          let y ← eval ib env
          standAt ib.pos
          let y ← foldedSetIterable ib env y
          let _ ← runOwn (.compStart (Set2 elt ta ia tb ib sc ps) 1 (← holding [y] (pyIter y)) acc env) env
        again (.compLoop (Set2 elt ta ia tb ib sc ps) 0 it acc env)) := by rfl
theorem set2_inner : compTurn (Set2 elt ta ia tb ib sc ps) 1 it acc env = (do
      standAt ib.pos
      match ← pyNext it with
      | none => pure (.done .next)
      | some u =>
        letOwnedTupleGo tb it u
        assign tb env u
        let mut go := true
        for c in ([] : List Expr) do
          if go then go ← isTrue c env (eval c env)
        if go then
          (do let y ← eval elt env; standAt elt.pos; let _ ← call (.builtin "set.add") [acc, y])
        again (.compLoop (Set2 elt ta ia tb ib sc ps) 1 it acc env)) := by rfl
theorem keep_e {α : Type} {t : Sem α} {Q Q' : α → Shared → Prop} {M : Model} {E : Value → Shared → Prop} (h : wpAny M A t Q E z) (k : ∀ a y, Q a y → Q' a y) : wpAny M A t Q' E z := wpAny_mono h k fun _ _ x => x
theorem bind_e {α β : Type} {t : Sem α} {f : α → Sem β} {Q : α → Shared → Prop} {Q' : β → Shared → Prop} {M : Model} {E : Value → Shared → Prop} (h : wpAny M A t Q E z) (k : ∀ a y, Q a y → wpAny M A (f a) Q' E y) : wpAny M A (t >>= f) Q' E z := wpAny_bind (keep_e h k)
/-- the loop of the first clause -/
theorem set2_loopA (fo : ∀ x, foldedSetIterable ib env x = pure x) (I : Nat → Shared → Prop)
    (turn : ∀ n y, I n y → wpAny (model prog w) A (pyNext it) (fun r y1 => match r with
      | none => R (.ok .next) y1
      | some u => wpAny (model prog w) A (letOwnedTupleGo ta it u) (fun _ y2 => wpAny (model prog w) A (assign ta env u) (fun _ y3 => wpAny (model prog w) A (eval ib env) (fun x y4 => wpAny (model prog w) A (pyIter x) (fun i1 y5 =>
          codeAny (model prog w) A (.compStart (Set2 elt ta ia tb ib sc ps) 1 i1 acc env) (fun q y6 => match q with
            | .ok _ => ∃ m, m < n ∧ I m y6
            | .error _ => False) y5) (Nt (model prog w) A env R) y4) (Nt (model prog w) A env R) y3) (Nt (model prog w) A env R) y2) (Nt (model prog w) A env R) y1) (Nt (model prog w) A env R) y)
    (n : Nat) (h : I n z) : codeAny (model prog w) A (.compLoop (Set2 elt ta ia tb ib sc ps) 0 it acc env) R z := by
  refine codeAny_loop rfl I (fun n y hI => ?_) n h
  show wpAny _ A ((compTurn (Set2 elt ta ia tb ib sc ps) 0 it acc env).onRaise fun x => do noteFrame x env; theTreesLotGoes x) _ _ y
  refine wpAny_noted ?_
  rw [set2_outer]
  refine wpAny_bind (wpAny_standAt (bind_e (turn n y hI) fun r y1 h1 => ?_))
  cases r with
  | none => exact wpAny_pure h1
  | some u =>
    refine bind_e h1 fun _ y2 h2 => bind_e h2 fun _ y3 h3 => wpAny_bind (wpAny_tests_nil ?_)
    refine bind_e h3 fun x y4 h4 => wpAny_bind (wpAny_standAt (wpAny_bind (wpAny_of_eq (fo x) (wpAny_bind (wpAny_holding (keep_e h4 fun i1 y5 h5 => ?_))))))
    refine wpAny_bind (wpAny_runOwn ?_)
    rw [Around.mark_none]
    refine codeAny_mono h5 fun q y6 hq => ?_
    cases q with
    | error e => exact hq.elim
    | ok f =>
      first
        | exact wpAny_pure ⟨rfl, hq⟩
        | exact wpAny_bind (wpAny_pure (wpAny_pure ⟨rfl, hq⟩))
/-- the loop of the second -/
theorem set2_loopB (I : Nat → Shared → Prop)
    (turn : ∀ n y, I n y → wpAny (model prog w) A (pyNext it) (fun r y1 => match r with
      | none => R (.ok .next) y1
      | some u => wpAny (model prog w) A (letOwnedTupleGo tb it u) (fun _ y2 => wpAny (model prog w) A (assign tb env u) (fun _ y3 => wpAny (model prog w) A (eval elt env) (fun x y4 =>
          wpAny (model prog w) A (call (.builtin "set.add") [acc, x]) (fun _ y5 => ∃ m, m < n ∧ I m y5) (Nt (model prog w) A env R) y4) (Nt (model prog w) A env R) y3) (Nt (model prog w) A env R) y2) (Nt (model prog w) A env R) y1) (Nt (model prog w) A env R) y)
    (n : Nat) (h : I n z) : codeAny (model prog w) A (.compLoop (Set2 elt ta ia tb ib sc ps) 1 it acc env) R z := by
  refine codeAny_loop rfl I (fun n y hI => ?_) n h
  show wpAny _ A ((compTurn (Set2 elt ta ia tb ib sc ps) 1 it acc env).onRaise fun x => do noteFrame x env; theTreesLotGoes x) _ _ y
  refine wpAny_noted ?_
  rw [set2_inner]
  refine wpAny_bind (wpAny_standAt (bind_e (turn n y hI) fun r y1 h1 => ?_))
  cases r with
  | none => exact wpAny_pure h1
  | some u =>
    refine bind_e h1 fun _ y2 h2 => bind_e h2 fun _ y3 h3 => wpAny_bind (wpAny_tests_nil ?_)
    exact wpAny_bind (bind_e h3 fun x y4 h4 => wpAny_bind (wpAny_standAt (bind_e h4 fun _ y5 h5 => wpAny_pure (wpAny_pure ⟨rfl, h5⟩))))
/-- the second clause begins -/
theorem set2_startB (h0 : codeAny (model prog w) A (.compLoop (Set2 elt ta ia tb ib sc ps) 1 it acc env) R z)
    (h : wpAny (model prog w) A (pyIter it) (fun i2 y => codeAny (model prog w) A (.compLoop (Set2 elt ta ia tb ib sc ps) 1 i2 acc env) R y) (Nt (model prog w) A env R) z) :
    codeAny (model prog w) A (.compStart (Set2 elt ta ia tb ib sc ps) 1 it acc env) R z := by
  refine codeAny_of_tree ?_
  show wpAny _ A ((compStart (Set2 elt ta ia tb ib sc ps) 1 it acc env).onRaise fun x => do noteFrame x env; standAt theWindowsPlace) _ _ z
  refine wpAny_notedAt ?_
  unfold compStart
  show wpAny _ A (ask >>= _) _ _ z
  refine wpAny_bind (wpAny_askSetting (wpAny_ite (by split <;> first
    | exact wpAny_bind (wpAny_pure (wpAny_pure (And.intro rfl h0)))
    | exact wpAny_pure (And.intro rfl h0)
    | exact wpAny_bind (wpAny_rule (wpAny_bind (wpAny_standAt (bind_e h fun i2 y hy => wpAny_pure (And.intro rfl hy)))))
    | (refine wpAny_bind (wpAny_rule ?_); show wpAny _ _ (standAt ib.pos >>= _) _ _ z; exact wpAny_bind (wpAny_standAt (bind_e h fun i2 y hy => wpAny_pure (And.intro rfl hy)))))))
end
section
variable {X : Cx}
/-- set.add of a whole number -/
theorem seti_add {pins : List (Addr × Obj)} {σ : L2.St} {H : Hp} {s : Shared} {E : Value → Shared → Prop} {D : Addr} {S : Int → Bool} {n : Nat} {k : Int} {tk : Tok} {Q : Value → Shared → Prop} (I : Inv X pins σ H s) (hD : H D = some (SetO X.w D S n)) (room : n + 1 < scanBound)
    (h : ∀ z, Inv X pins σ (upd H D (SetO X.w D (fun j => S j || decide (j = k)) (if S k = true then n else n + 1))) z → Q .none z) : wpAny (model X.prog X.w) X.A (call (.builtin "set.add") [.ref D, .int k tk]) Q E s := by
  refine setR_add (setO_get I hD) room fun g sb new => h _ ?_
  have at_ : ∃ u, g.get? D = some u := by
    obtain ⟨o, _, _, _, e, _⟩ := id new
    exact ⟨o, e⟩
  exact I.write (e := D) (t' := s.toks + 1) (by rw [hD]; trivial) (Or.inl rfl) (fun c u n e => (sb.2 c n).trans e) at_ (setO_new new)
/-- what the comprehension asks: as for lists, the items added to a set -/
def tSet2 (w : World) (wa : TI) (ga : TG) (wb : TI) (gb : TG) (te : TE) (vs vb : List Nat) : TE := fun σ H Q => wa σ H fun J H1 => ∀ D, H1 D = none → ∃ W : Nat → Nat → Hp → Prop, (∃ m, W 0 m (upd H1 D (SetO w D (fun _ => false) 0))) ∧ ∀ i m H, W i m H →
  (J.stop i H ∧ Q (.ref D) H) ∨ (J.go i H ∧ ∃ Nx : Hp → Prop, (∀ G, Nx G → ∃ m', m' < m ∧ W (i + 1) m' G) ∧ ∀ x G, J.yld i H x G → ga x (wipe σ vs) G fun τ H2 => wipe τ vs = wipe σ vs ∧
    wb τ H2 fun L H4 => ∃ V : Nat → Nat → Hp → Prop, (∃ m, V 0 m H4) ∧ ∀ j k H, V j k H →
      (L.stop j H ∧ Nx H) ∨ (L.go j H ∧ ∃ Ny : Hp → Prop, (∀ G, Ny G → ∃ k', k' < k ∧ V (j + 1) k' G) ∧ ∀ x G, L.yld j H x G → gb x (wipe τ vb) G fun ρ H5 => wipe ρ vb = wipe τ vb ∧
        te ρ H5 fun y H7 => ∃ (c : Int) (S : Int → Bool) (n : Nat), y = .int c ∧ H7 D = some (SetO w D S n) ∧ n + 1 < scanBound ∧ Ny (upd H7 D (SetO w D (fun j => S j || decide (j = c)) (if S c = true then n else n + 1)))))
theorem pe_set2 {elt ta ia tb ib : Expr} {sc : Scope} {own : List (PySem.Str × Nat)} {vb : List Nat} {ps : Pos} {wa wb : TI} {ga gb : TG} {te : TE} (hc : X.calm = true) (hN : X.N.Nodup) (hi : PI X ta ia wa) (ok : BlkOk X.N X.env.scope sc own) (hv : ∀ i ∈ vb, i ∈ own.map (·.2))
    (hg : ∀ (s : Shared) (H : Hp) (C : Addr) (cl : List (PySem.Str × Addr)) (fp : List Addr), PG (X.blk s H sc (compEnvC sc cl C X.env) fp) ta ga)
    (hi1 : ∀ (s : Shared) (H : Hp) (C : Addr) (cl : List (PySem.Str × Addr)) (fp : List Addr), PI (X.blk s H sc (compEnvC sc cl C X.env) fp) tb ib wb)
    (hg1 : ∀ (s : Shared) (H : Hp) (C : Addr) (cl : List (PySem.Str × Addr)) (fp : List Addr), PG (X.blk s H sc (compEnvC sc cl C X.env) fp) tb gb)
    (he : ∀ (s : Shared) (H : Hp) (C : Addr) (cl : List (PySem.Str × Addr)) (fp : List Addr), PE (X.blk s H sc (compEnvC sc cl C X.env) fp) elt te) (fa : ∀ x, foldedSetIterable ia X.env x = pure x := by intro _; rfl) (fb : ∀ env x, foldedSetIterable ib env x = pure x := by intro _ _; rfl) :
    PE X (Set2 elt ta ia tb ib sc ps) (tSet2 X.w wa ga wb gb te (own.map (·.2)) vb) := by
  refine ⟨fun pins s σ H Q I h => ?_⟩
  rw [PpSet.eval_SetComp]
  have clos := closure_ok (scope := sc) (env := X.env) fun y hy e => (ok.free y hy e).elim (fun k => I.ok.has _ (.inl k)) fun k => I.ok.has _ (.inr k)
  refine wpAny_comprehension_free (use := none) rfl fa clos ok.kind (fun y hy e => by rw [ok.uniq y hy, e]) (thn (hi.run pins s σ H _ I h) fun xv s1 hx => thn hx fun itv s2 h2 => ?_)
  obtain ⟨it, fp, tn, J, H2, rfl, I2, T, st2, f2, q⟩ := h2
  refine PpSet.newSet_ok (newEnv_comp ?_)
  generalize hD : s2.heap.objs.size = D
  obtain ⟨W, ⟨m0, w0⟩, turn⟩ := q D (I2.hok.fresh (Nat.le_of_eq hD))
  have fresh := setR_fresh (h := s2.heap) X.w
  generalize eo : ({ cls := .type "set", dict := none, data := .set #[] 0 (.fresh 0 0 (!X.w.params.followText "set-order")) } : Obj) = ob at fresh ⊢
  rw [hD] at fresh
  generalize eH : upd H2 D (SetO X.w D (fun _ => false) 0) = H3 at w0
  generalize es : ({ s2 with heap := s2.heap.push ob } : Shared) = s3
  have h3 : s3.heap = s2.heap.push ob := by rw [← es]
  have I3 : Inv X pins σ H3 s3 := by
    rw [← eH, ← es]
    exact I2.laid (t' := s2.toks) (fun b o e => Heap.get?_push_of_some _ e) (Nat.le_of_eq hD) (setO_new fresh)
  have old3 : ∀ b o, s2.heap.get? b = some o → s3.heap.get? b = some o := fun b o e => by
    rw [h3]
    exact Heap.get?_push_of_some _ e
  have low : ∀ b ∈ fp, b < s2.heap.objs.size := fun b hb => (T.obj _ _ st2 b hb).elim fun o e => Heap.lt_size e.1
  have f3 : ∀ b ∈ fp, FpOk X pins H3 b ∧ b < s3.heap.objs.size := fun b hb => by
    refine ⟨⟨?_, (f2 b hb).2⟩, by rw [h3, Heap.size_push]; exact Nat.lt_succ_of_lt (low b hb)⟩
    rw [← eH, upd_ne (by rw [← hD]; exact Nat.ne_of_lt (low b hb))]
    exact (f2 b hb).1
  have I4 := block_start I3 ok hN f3
  have pg := hg s3 H3 s3.heap.objs.size (cellsFrom (s3.heap.objs.size + 1) sc.names (cloFrom X.env.cells sc.names [])) fp
  have pi1 := hi1 s3 H3 s3.heap.objs.size (cellsFrom (s3.heap.objs.size + 1) sc.names (cloFrom X.env.cells sc.names [])) fp
  have pg1 := hg1 s3 H3 s3.heap.objs.size (cellsFrom (s3.heap.objs.size + 1) sc.names (cloFrom X.env.cells sc.names [])) fp
  have pe := he s3 H3 s3.heap.objs.size (cellsFrom (s3.heap.objs.size + 1) sc.names (cloFrom X.env.cells sc.names [])) fp
  show codeAny _ _ (.compStart (Set2 elt ta ia tb ib sc ps) 0 (.ref it) (.ref D) (compEnvC sc (cellsFrom (s3.heap.objs.size + 1) sc.names (cloFrom X.env.cells sc.names [])) s3.heap.objs.size X.env)) (compPost (model X.prog X.w) X.A X.xe none (EP X pins σ Q) (.ref D) s3.heap.objs.size) { s3 with heap := pushCells (s3.heap.push { cls := .type "dict", data := .dict #[] }) sc.names }
  generalize ece : compEnvC sc (cellsFrom (s3.heap.objs.size + 1) sc.names (cloFrom X.env.cells sc.names [])) s3.heap.objs.size X.env = ce at I4 pg pe pi1 pg1 ⊢
  have cL : ce.locals = s3.heap.objs.size := by subst ece; rfl
  generalize es4 : ({ s3 with heap := pushCells (s3.heap.push { cls := .type "dict", data := .dict #[] }) sc.names } : Shared) = s4 at I4 ⊢
  have st4 : tn 0 s4.heap := T.keep _ _ _ st2 fun b _ o e => by
    rw [← es4]
    exact pushCells_keeps _ _ _ _ (Heap.get?_push_of_some _ (old3 b o e))
  generalize eY : X.blk s3 H3 sc ce fp = Y at I4 pg pe pi1 pg1
  have eA : Y.A = X.A := by rw [← eY]
  have stat : ∀ {τ : L2.St} {G : Hp} {z : Shared}, Inv Y [] τ G z → (∀ b ∈ fp, G b = none) → ∀ b ∈ fp, FpOk Y [] G b := fun {τ G z} I' hn b hb => by
    subst eY
    exact ⟨hn b hb, (I'.ok.exf b hb).1, I'.ok.exfs b hb, .inl hb, fun x c e => (I'.ok.exf b hb).2 x c e, fun p hp => absurd (show p ∈ ([] : List (Addr × Obj)) ++ [] from hp) (by simp)⟩
  have back : ∀ {G : Hp} {z : Shared}, Inv Y [] (wipe σ (own.map (·.2))) G z → Q (.ref D) G → compPost (model X.prog X.w) X.A X.xe none (EP X pins σ Q) (.ref D) s3.heap.objs.size (.ok .next) z := fun {G z} I6 qq => by
    subst eY
    have I7 : Inv X pins σ G z := I3.call' (ch := fp) I6.os I6.base I6.hok I6.bare fun b hb => ⟨(f3 b hb).1.2.2.2.1, (f3 b hb).1.2.1, (f3 b hb).1.2.2.2.2.1, (f3 b hb).1.2.2.2.2.2⟩
    have nC : G s3.heap.objs.size = none := cL ▸ (show G ce.locals = none from I6.free)
    obtain ⟨m, hn, _⟩ := I6.loc
    have hn : z.heap.Ns s3.heap.objs.size m := cL ▸ (show z.heap.Ns ce.locals m from hn)
    obtain ⟨p0, p1, p2, p3, p4, p5⟩ := I3.fpOk (Nat.le_refl _) nC
    exact ⟨m, hn, fun g sb => ⟨.ref D, G, I7.turned (t' := z.toks) (fun b o hb e => (sb.2 b hb).trans e) p0 p1 p3 p4 p5, rfl, qq⟩⟩
  have w1 : ∃ G, Inv Y [] (wipe σ (own.map (·.2))) G s4 ∧ (∀ b ∈ fp, G b = none) ∧ W 0 m0 G := ⟨H3, I4, fun b hb => (f3 b hb).1.1, w0⟩
  subst eY
  have loop : codeAny (model X.prog X.w) X.A (.compLoop (Set2 elt ta ia tb ib sc ps) 0 (.ref it) (.ref D) ce) (compPost (model X.prog X.w) X.A X.xe none (EP X pins σ Q) (.ref D) s3.heap.objs.size) s4 := by
    obtain ⟨G0, IG, nG, wG⟩ := w1
    refine set2_loopA (fb ce) (fun n y => ∃ i G, Inv (X.blk s3 H3 sc ce fp) [] (wipe σ (own.map (·.2))) G y ∧ tn i y.heap ∧ (∀ b ∈ fp, G b = none) ∧ W i n G) ?_ m0 ⟨0, G0, IG, st4, nG, wG⟩
    clear IG wG nG G0
    rintro n s5 ⟨i, H5, I5, st5, n5, w5⟩
    rcases turn i n H5 w5 with ⟨stop, qq⟩ | ⟨go, Nx, hNx, step⟩
    · refine thnF (T.done (X.blk s3 H3 sc ce fp) rfl rfl rfl hc i [] s5 _ H5 (fun _ _ => False) I5 (stat I5 n5) st5 stop) fun r s6 ⟨hr, I6⟩ => ?_
      subst hr
      exact back I6 qq
    · refine thnF (T.item (X.blk s3 H3 sc ce fp) rfl rfl rfl hc i [] s5 _ H5 (fun _ _ => False) I5 (stat I5 n5) st5 go) fun r s6 ⟨u, hr, h6⟩ => ?_
      subst hr
      refine thnF h6 fun _ s7 ⟨x, H7, I7, r7, y7, st7, n7⟩ => ?_
      have I7' := I7.pinned (stat I7 n7) (T.obj _ _ st7)
      refine thnF (pg.run _ s7 _ H7 x u _ I7' r7 (step x H7 y7)) fun _ s8 ⟨σ8, H8, I8, hw8, q8⟩ => ?_
      have over : ∀ {τ : L2.St} {z : Shared} {G : Hp}, Inv (X.blk s3 H3 sc ce fp) ([] ++ pinsAt fp s7.heap) τ G z → (wipe σ (own.map (·.2))).length = τ.length → (∀ (j : Nat) v, (wipe σ (own.map (·.2)))[j]? = some (some v) → τ[j]? = some (some v)) → Nx G →
          ∃ m, m < n ∧ ∃ i G, Inv (X.blk s3 H3 sc ce fp) [] (wipe σ (own.map (·.2))) G z ∧ tn i z.heap ∧ (∀ b ∈ fp, G b = none) ∧ W i m G := fun {τ z G} I' hl hk nx => by
        obtain ⟨m', hm, w'⟩ := hNx G nx
        have pin' : ∀ b ∈ fp, ∀ o, s7.heap.get? b = some o → z.heap.get? b = some o ∧ G b = none := fun b hb o e => by
          obtain ⟨k1, k2, _⟩ := I'.pin (b, o) (List.mem_append_right _ (List.mem_append_right _ (mem_pinsAt hb e)))
          exact ⟨k1, k2⟩
        exact ⟨m', hm, i + 1, G, (I'.unpinned (pins := [])).weak hl hk, T.keep _ _ _ st7 fun b hb o e => (pin' b hb o e).1, fun b hb => (T.obj _ _ st7 b hb).elim fun o e => (pin' b hb o e.1).2, w'⟩
      have hl8 : (wipe σ (own.map (·.2))).length = σ8.length := by rw [← hw8, wipe_length]
      have hk9 : ∀ (j : Nat) v, (wipe σ (own.map (·.2)))[j]? = some (some v) → (wipe σ8 vb)[j]? = some (some v) := fun j v e => by
        rw [← hw8] at e
        obtain ⟨e1, e2⟩ := wipe_some e
        rw [wipe_out fun z => e2 (hv j z)]
        exact e1
      refine thnF (pi1.run _ s8 σ8 H8 _ I8 q8) fun xv s10 hx => thnF hx fun itv s11 h11 => ?_
      obtain ⟨it1, fp1, tn1, L, H11, rfl, I11, T1, st11, f11, V, ⟨m1, v1⟩, turn1⟩ := h11
      have stat1 : ∀ {G : Hp}, (∀ b ∈ fp1, G b = none) → ∀ b ∈ fp1, FpOk (X.blk s3 H3 sc ce fp) ([] ++ pinsAt fp s7.heap) G b := fun hn b hb => ⟨hn b hb, (f11 b hb).2⟩
      have loop1 : codeAny (model X.prog X.w) X.A (.compLoop (Set2 elt ta ia tb ib sc ps) 1 (.ref it1) (.ref D) ce)
          (fun q y6 => match q with
            | .ok _ => ∃ m, m < n ∧ ∃ i G, Inv (X.blk s3 H3 sc ce fp) [] (wipe σ (own.map (·.2))) G y6 ∧ tn i y6.heap ∧ (∀ b ∈ fp, G b = none) ∧ W i m G
            | .error _ => False) s11 := by
        refine set2_loopB (fun k y => ∃ j G, Inv (X.blk s3 H3 sc ce fp) ([] ++ pinsAt fp s7.heap) (wipe σ8 vb) G y ∧ tn1 j y.heap ∧ (∀ b ∈ fp1, G b = none) ∧ V j k G) ?_ m1 ⟨0, H11, I11.weak (wipe_length _ _) (fun j v e => (wipe_some e).1), st11, fun b hb => (f11 b hb).1, v1⟩
        rintro k s12 ⟨j, H12, I12, st12, n12, v12⟩
        rcases turn1 j k H12 v12 with ⟨stop1, nx1⟩ | ⟨go1, Ny, hNy, step1⟩
        · refine thnF (T1.done (X.blk s3 H3 sc ce fp) rfl rfl rfl hc j _ s12 (wipe σ8 vb) H12 (fun _ _ => False) I12 (stat1 n12) st12 stop1) fun r s13 ⟨hr, I13⟩ => ?_
          subst hr
          exact over I13 (hl8.trans (wipe_length σ8 vb).symm) hk9 nx1
        · refine thnF (T1.item (X.blk s3 H3 sc ce fp) rfl rfl rfl hc j _ s12 (wipe σ8 vb) H12 (fun _ _ => False) I12 (stat1 n12) st12 go1) fun r s13 ⟨u1, hr, h13⟩ => ?_
          subst hr
          refine thnF h13 fun _ s14 ⟨x1, H14, I14, r14, y14, st14, n14⟩ => ?_
          have I14' := I14.pinned (stat1 n14) (T1.obj _ _ st14)
          refine thnF (pg1.run _ s14 (wipe σ8 vb) H14 x1 u1 _ I14' r14 (step1 x1 H14 y14)) fun _ s15 ⟨σ15, H15, I15, hw15, q15⟩ => ?_
          refine thnF (pe.run _ s15 σ15 H15 _ I15 q15) fun yv s17 ⟨y, H17, I17, r17, c, S, n0, ey, hD17, room, ny⟩ => ?_
          subst ey
          obtain ⟨tk, rfl⟩ := r17
          have over1 : ∀ {z : Shared} {G : Hp}, Inv (X.blk s3 H3 sc ce fp) (([] ++ pinsAt fp s7.heap) ++ pinsAt fp1 s14.heap) σ15 G z → Ny G → ∃ m, m < k ∧ ∃ j G, Inv (X.blk s3 H3 sc ce fp) ([] ++ pinsAt fp s7.heap) (wipe σ8 vb) G z ∧ tn1 j z.heap ∧ (∀ b ∈ fp1, G b = none) ∧ V j m G := fun {z G} I' nx => by
            obtain ⟨m', hm, v'⟩ := hNy G nx
            have pin' : ∀ b ∈ fp1, ∀ o, s14.heap.get? b = some o → z.heap.get? b = some o ∧ G b = none := fun b hb o e => by
              obtain ⟨k1, k2, _⟩ := I'.pin (b, o) (List.mem_append_right _ (List.mem_append_right _ (mem_pinsAt hb e)))
              exact ⟨k1, k2⟩
            exact ⟨m', hm, j + 1, G, I'.unpinned.weak (by rw [← hw15, wipe_length]) (fun j v e => by rw [← hw15] at e; exact (wipe_some e).1), T1.keep _ _ _ st14 fun b hb o e => (pin' b hb o e).1, fun b hb => (T1.obj _ _ st14 b hb).elim fun o e => (pin' b hb o e.1).2, v'⟩
          exact seti_add (X := X.blk s3 H3 sc ce fp) I17 hD17 room fun s18 I18 => over1 I18 ny
      exact set2_startB loop1 (T1.self X.A 0 _ _ _ st11 loop1)
  exact PpSet.codeAny_compStart_set loop (T.self X.A 0 _ _ _ st4 loop)
/-- sorted(a set of whole numbers), of any size -/
def rSortedSetI (w : World) : List V → Hp → VK → Prop := fun vs H Q => ∃ (a : Addr) (S : Int → Bool) (n : Nat), vs = [V.ref a] ∧ H a = some (SetO w a S n) ∧
  ∀ (ns : List Int) (p : Addr), ns.Pairwise (· < ·) → (∀ k : Int, k ∈ ns ↔ S k = true) → H p = none → Q (.ref p) (upd H p (.lst (ns.map V.int)))
theorem cr_sortedSetI (hc : X.calm = true) : CallR X (.builtin "sorted") (rSortedSetI X.w) := by
  intro pins s σ H vs us Q I r h
  obtain ⟨a, S, n, rfl, ha, q⟩ := h
  rw [Vals.ref1 r]
  obtain ⟨o, es, ep, t, ho, hex, hd, g, nd, hm, hb, hf, hn, hr, hl⟩ := setO_get I ha
  refine Calls.call_function_entry kind_sorted plain_sorted entry_sorted (args_sorted1 _) ?_
  unfold Builtin.«sorted»
  refine wpAny_bind (m := checkCount "sorted" 1 1 _) (wpAny_pure ?_)
  refine wpAny_bind (collect_set (A := X.A.in1) (I.ok.hd hc) ⟨o, ho, hex.1, hd⟩ hf hb hr hl fun z ws old hz hg hos pm => ?_)
  have big : es.size < scanBound := hb
  have wl : ws.length = es.size := by rw [pm.length_eq, List.length_map, Array.length_toList]
  have fits : ws.length ≤ sizeLine := by
    have b1 : scanBound ≤ sizeLine := by rw [sizeLine_eq]; decide
    omega
  have hin : IntsAre ws (ws.map SrtO.iv) := SrtO.ints_iv fun v hv => by
    obtain ⟨e, he, rfl⟩ := List.mem_map.mp (pm.mem_iff.mp hv)
    obtain ⟨k, tk, e1, _⟩ := g e he
    exact ⟨k, tk, e1⟩
  have keys : (ws.map SrtO.iv).Perm (es.toList.map keyOf) := by
    have e := pm.map SrtO.iv
    rw [List.map_map] at e
    refine e.trans (List.Perm.of_eq (List.map_congr_left fun x hx => ?_))
    obtain ⟨k, tk, e1, _⟩ := g x hx
    show SrtO.iv x.2 = keyOf x
    unfold keyOf
    rw [e1]
    rfl
  refine wpAny_bind (wpAny_newList ?_ fits)
  have lay : (z.heap.push (seqObj "list" ws.toArray 0)).get? z.heap.objs.size = some (seqObj "list" ws.toArray 0) := Heap.get?_push_size _ rfl
  refine wpAny_bind (wpAny_holding (wpAny_call_entry PyProof.Rows.slot_list_sort ⟨_, lay, rfl⟩ PyProof.Rows.entry_list_sort
    (SrtO.list_sort_ord SrtO.swo_int lay fits (fun two => SrtO.ints_sortable hin two) fun out p1 p2 => ⟨.none, rfl, ?_⟩) (PyProof.Rows.args_list_sort _)))
  obtain ⟨k1, k2, k3⟩ := SrtO.ints_out hin p1 p2
  obtain ⟨c, hcN⟩ := PyProof.Rows.sortedHeap_at (vs := ws) (out := out.toArray) lay
  have pn : (out.map SrtO.iv).Perm (es.toList.map keyOf) := k2.trans keys
  have hp : H z.heap.objs.size = none := I.hok.fresh hz
  have len : ((out.map SrtO.iv).map V.int).length ≤ sizeLine := by
    rw [List.length_map, k2.length_eq, List.length_map]
    exact fits
  have kept : ∀ b u, s.heap.get? b = some u → (PyProof.Rows.sortedHeap (z.heap.push (seqObj "list" ws.toArray 0)) z.heap.objs.size ws out.toArray).get? b = some u := fun b u e => by
    have e1 := old b u e
    have lt := Heap.lt_size e1
    rw [PyProof.Rows.sortedHeap_old (Nat.ne_of_lt lt) (by rw [size_push']; exact Nat.lt_succ_of_lt lt)]
    exact Heap.get?_push_of_some _ e1
  refine wpAny_pure ⟨_, rfl, ?_⟩
  obtain ⟨heap2, os2⟩ : ∃ hh : Heap, hh = PyProof.Rows.sortedHeap (z.heap.push (seqObj "list" ws.toArray 0)) z.heap.objs.size ws out.toArray := ⟨_, rfl⟩
  have J : Inv X pins σ (upd H z.heap.objs.size (.lst ((out.map SrtO.iv).map V.int))) { s with heap := heap2, gens := z.gens, drawn := z.drawn, toks := z.toks } :=
    I.call (ch := []) (Un.laid (by rw [os2]; exact kept) hz hp) (I.hok.laid (by rw [os2]; exact kept) hz ⟨len, out, c, vals_of_ints k1, by rw [os2]; exact hcN⟩) (by rw [hg]; exact I.bare) (fun _ x => nomatch x)
  have same : { z with heap := heap2 } = { s with heap := heap2, gens := z.gens, drawn := z.drawn, toks := z.toks } := by
    cases z
    cases s
    cases hos
    rfl
  refine ⟨.ref _, _, ?_, rfl, q (out.map SrtO.iv) z.heap.objs.size (lt_of_le_nodup _ k3 (pn.nodup_iff.mpr nd)) (fun k => by rw [pn.mem_iff, ← hm k]) hp⟩
  have J2 := J
  rw [← same, os2] at J2
  exact J2
end
end Pk
set_option Elab.async false
set_option linter.all false
set_option maxRecDepth 100000
set_option maxHeartbeats 2000000
/-! == of Rules: the amounts that tell, read -/
namespace Pk
open PySem PySem.Spec L2 PyProof.Rows
/-- where something may begin -/
def Tr.st (A B : Tr) : List Int := 0 :: (A.starts ++ B.starts)
/-- the amounts at which the program looks -/
def Tr.tells (A B : Tr) (k : Int) : Prop := ∃ s ∈ A.st B, s ≤ k ∧ k < s + 60
def Tr.alike (A B : Tr) : Prop := ∀ k, A.tells B k → A.give k = B.give k
theorem Tr.st_len {A B : Tr} (a : A.lv ≤ 6) (b : B.lv ≤ 6) : (A.st B).length ≤ 13 := by
  unfold Tr.st
  rw [List.length_cons, List.length_append, A.starts_len, B.starts_len]
  omega
theorem mem_take_succ {L : List Int} {i : Nat} (h : i < L.length) (x : Int) : x ∈ L.take (i + 1) ↔ x ∈ L.take i ∨ x = L[i] := by
  rw [List.take_succ_eq_append_getElem h, List.mem_append, List.mem_singleton]
section
variable {K : PySem.W.Frag} {C : Cs} {vs : List V} {H H' G G' : Hp} {Q : VK} {E : XK} {n : Nat} {w : World}
def sp_telling (K : PySem.W.Frag) : Sp := fun vs H Q _ => ∃ u v A B, vs = [u, v] ∧ TrAt K H u A ∧ TrAt K H v B ∧ A.lv ≤ 6 ∧ B.lv ≤ 6 ∧
  ∀ (ns : List Int) p H', ns.Pairwise (· < ·) → (∀ k, k ∈ ns ↔ A.tells B k) → H p = none → Same H H' → H' p = some (.lst (ns.map V.int)) → Q (.ref p) H'
def t_telling (K : PySem.W.Frag) (w : World) : TS :=
  (tSeq (tAsg (tOp (rAddU K) (tOp (rAddU K) (tLst (tCons (tC (.int 0)) tNil)) (tCall (sp_starts_of K) [] E0 (tCons (tVar 0) tNil))) (tCall (sp_starts_of K) [] E0 (tCons (tVar 1) tNil))) (gName 2))
    (tRet (tCB (rSortedSetI w) (tCons (tSet2 w (iList K (tVar 2)) (gName 3) (iRng1 (tCons (tC (.int 60)) tNil)) (gName 4) (tOp (rAddU K) (tVar 3) (tVar 4)) [3, 4] [4]) tNil))))
theorem ln_telling (h : sp_telling K vs H Q E) : vs.length = 2 := by obtain ⟨_, _, _, _, rfl, _⟩ := h; rfl
theorem rd_telling (h : sp_telling K vs H Q E) : t_telling K w (EndsOf Q) (start ["", "", "", "", ""] vs) H := by
  obtain ⟨u, v, A, B, rfl, hA, hB, lA, lB, k⟩ := h
  refine ⟨two_fit.1, fun p0 h0 => ?_⟩
  have s0 := same_new (o := .lst [.int 0]) h0
  refine ⟨_, rfl, u, A, rfl, hA.mono (Tups.same s0), Tr.dp6 lA, lA, fun p1 H1 h1 s1 e1 => ?_⟩
  refine .inr (.inr (.inl ⟨p0, p1, _, _, rfl, rfl, s1 _ _ upd_same, e1, ?_, fun p2 h2 => ?_⟩))
  · rw [List.length_map, A.starts_len]
    exact Nat.le_of_lt (small1000 (show 1 + A.lv ≤ 1000 by omega))
  have s2 := same_new (o := .lst ([.int 0] ++ A.starts.map V.int)) h2
  have s02 := (s0.trans s1).trans s2
  refine ⟨_, rfl, v, B, rfl, hB.mono (Tups.same s02), Tr.dp6 lB, lB, fun p3 H3 h3 s3 e3 => ?_⟩
  refine .inr (.inr (.inl ⟨p2, p3, _, _, rfl, rfl, s3 _ _ upd_same, e3, ?_, fun p4 h4 => ?_⟩))
  · rw [List.length_append, List.length_map, List.length_map, A.starts_len, B.starts_len]
    exact Nat.le_of_lt (small1000 (show 1 + A.lv + B.lv ≤ 1000 by omega))
  have eL : [V.int 0] ++ A.starts.map V.int ++ B.starts.map V.int = (A.st B).map V.int := by
    unfold Tr.st
    simp
  rw [eL]
  have s4 := (s02.trans s3).trans (same_new (o := .lst ((A.st B).map V.int)) h4)
  have hp4 : (upd H3 p4 (.lst ((A.st B).map V.int))) p4 = some (.lst ((A.st B).map V.int)) := upd_same
  have lL := Tr.st_len lA lB
  dsimp only
  show tRet _ _ [some u, some v, some (.ref p4), none, none] (upd H3 p4 (.lst ((A.st B).map V.int)))
  generalize upd H3 p4 (.lst ((A.st B).map V.int)) = G at s4 hp4
  generalize eLL : A.st B = L at hp4 lL
  refine ⟨_, rfl, p4, rfl, ⟨_, SqL.of hp4⟩, fun D hD => ?_⟩
  have nD : p4 ≠ D := ne_of_none hp4 hD
  refine ⟨fun i m G' => m = L.length - i ∧ i ≤ L.length ∧ Same G G' ∧ ∃ (S : Int → Bool) (n : Nat), G' D = some (SetO w D S n) ∧ n ≤ 60 * i ∧ ∀ k, S k = true ↔ ∃ s ∈ L.take i, s ≤ k ∧ k < s + 60,
    ⟨_, rfl, Nat.zero_le _, same_new hD, _, 0, upd_same, Nat.zero_le _, fun k => by simp⟩, ?_⟩
  rintro i m G1 ⟨rfl, hi, sG, S, n, hS, hn, hm⟩
  by_cases lt : i < L.length
  · refine .inr ⟨⟨_, .int L[i], sG.seq (SqL.of hp4), by simp [lt]⟩, fun G' => i + 1 ≤ L.length ∧ Same G G' ∧ ∃ (S : Int → Bool) (n : Nat), G' D = some (SetO w D S n) ∧ n ≤ 60 * (i + 1) ∧ ∀ k, S k = true ↔ ∃ s ∈ L.take (i + 1), s ≤ k ∧ k < s + 60,
      fun G' ⟨a1, a2, a3⟩ => ⟨L.length - (i + 1), by omega, rfl, a1, a2, a3⟩, ?_⟩
    rintro x G2 ⟨rfl, hx⟩
    have ex := hx _ (sG.seq (SqL.of hp4))
    rw [List.getElem?_map, List.getElem?_eq_getElem lt] at ex
    obtain rfl : V.int L[i] = x := Option.some.inj ex
    refine ⟨rfl, 60, rfl, by decide, by decide, ?_⟩
    refine ⟨fun j m G' => m = 60 - j ∧ j ≤ 60 ∧ Same G G' ∧ ∃ (S : Int → Bool) (n : Nat), G' D = some (SetO w D S n) ∧ n ≤ 60 * i + j ∧ ∀ k, S k = true ↔ (∃ s ∈ L.take i, s ≤ k ∧ k < s + 60) ∨ (L[i] ≤ k ∧ k < L[i] + j),
      ⟨_, rfl, Nat.zero_le _, sG, S, n, hS, by omega, fun k => by rw [hm k]; exact ⟨.inl, fun z => z.elim id fun ⟨a, b⟩ => absurd a (by omega)⟩⟩, ?_⟩
    clear hS hn hm S n
    rintro j m G3 ⟨rfl, hj, sG3, S, n, hS, hn, hm⟩
    by_cases lj : j < 60
    · refine .inr ⟨lj, fun G' => Same G G' ∧ ∃ (S : Int → Bool) (n : Nat), G' D = some (SetO w D S n) ∧ n ≤ 60 * i + (j + 1) ∧ ∀ k, S k = true ↔ (∃ s ∈ L.take i, s ≤ k ∧ k < s + 60) ∨ (L[i] ≤ k ∧ k < L[i] + (j + 1 : Nat)),
        fun G' ⟨a1, a2⟩ => ⟨60 - (j + 1), by omega, rfl, lj, a1, a2⟩, ?_⟩
      rintro x G4 ⟨rfl, rfl⟩
      refine ⟨rfl, _, rfl, _, rfl, .inl ⟨_, _, rfl, rfl, ?_⟩⟩
      refine ⟨_, S, n, rfl, hS, by show n + 1 < 4096; omega, fun b o q => ?_, _, _, upd_same, ?_, fun k => ?_⟩
      · rw [upd_ne (ne_of_none q hD)]
        exact sG3 b o q
      · split <;> omega
      · rw [Bool.or_eq_true, decide_eq_true_eq, hm k]
        constructor
        · rintro ((z | z) | z)
          · exact .inl z
          · exact .inr (by omega)
          · exact .inr (by omega)
        · rintro (z | z)
          · exact .inl (.inl z)
          · by_cases e : k = L[i] + (0 + (j : Int))
            · exact .inr e
            · exact .inl (.inr (by omega))
    · have e : j = 60 := by omega
      subst e
      refine .inl ⟨Nat.le_refl _, lt, sG3, S, n, hS, by omega, fun k => ?_⟩
      rw [hm k]
      constructor
      · rintro (⟨s, hs, a⟩ | a)
        · exact ⟨s, (mem_take_succ lt s).mpr (.inl hs), a⟩
        · exact ⟨L[i], (mem_take_succ lt _).mpr (.inr rfl), by omega⟩
      · rintro ⟨s, hs, a⟩
        rcases (mem_take_succ lt s).mp hs with z | rfl
        · exact .inl ⟨s, z, a⟩
        · exact .inr (by omega)
  · have e : i = L.length := by omega
    subst e
    refine .inl ⟨⟨_, sG.seq (SqL.of hp4), by simp⟩, D, S, n, rfl, hS, fun ns p up hk hp => ?_⟩
    rw [List.take_length] at hm
    have sD := same_new (o := .lst (ns.map V.int)) hp
    have sA := (s4.trans sG).trans sD
    refine k ns p _ up (fun j => by rw [hk j, hm j, ← eLL]; rfl) ((s4.trans sG).free hp) sA upd_same
def sp_least_apart (K : PySem.W.Frag) : Sp := fun vs H Q _ => ∃ u v A B, vs = [u, v] ∧ TrAt K H u A ∧ TrAt K H v B ∧ A.ok ∧ B.ok ∧ A.lv ≤ 6 ∧ B.lv ≤ 6 ∧
  ∀ H', Same H H' → (A.alike B → Q .non H') ∧ ∀ k, A.tells B k → A.give k ≠ B.give k → (∀ j, j < k → A.tells B j → A.give j = B.give j) → Q (.int k) H'
def t_least_apart (K : PySem.W.Frag) : TS :=
  (tSeq (tFor (iList K (tCall (sp_telling K) [] E0 (tCons (tVar 0) (tCons (tVar 1) tNil)))) (gName 2) (tIfS (tTest (tOp (rNeU K) (tCall (sp_given K 7) [] E0 (tCons (tVar 0) (tCons (tVar 2) tNil))) (tCall (sp_given K 7) [] E0 (tCons (tVar 1) (tCons (tVar 2) tNil))))) (tRet (tVar 2)) tNext))
    (tRet (tC .non)))
theorem ln_least_apart (h : sp_least_apart K vs H Q E) : vs.length = 2 := by obtain ⟨_, _, _, _, rfl, _⟩ := h; rfl
theorem rd_least_apart (h : sp_least_apart K vs H Q E) : t_least_apart K (EndsOf Q) (start ["", "", ""] vs) H := by
  obtain ⟨u, v, A, B, rfl, hA, hB, oA, oB, lA, lB, k⟩ := h
  refine ⟨_, rfl, _, rfl, u, v, A, B, rfl, hA, hB, lA, lB, fun ns p H1 up hk hp s1 h1 => ?_⟩
  refine ⟨p, rfl, ⟨_, SqL.of h1⟩, ?_⟩
  refine for_list (K := K) (a := p) (xs := ns.map V.int) (fun i σ' G => ∃ s2, σ' = [some u, some v, s2] ∧ Same H1 G ∧ ∀ j ∈ ns.take i, A.give j = B.give j) ⟨_, rfl, Same.refl _, fun j hj => by simp at hj⟩ (fun i σ' G _ ⟨_, _, s, _⟩ => s.seq (SqL.of h1)) ?_ ?_
  · rintro i x σ' G hx ⟨s2, rfl, s, eq⟩
    obtain ⟨lt, ex⟩ := List.getElem?_eq_some_iff.mp hx
    rw [List.length_map] at lt
    rw [List.getElem_map] at ex
    subst ex
    have sH := s1.trans s
    refine ⟨_, rfl, _, rfl, u, A, ns[i], rfl, hA.mono (Tups.same sH), oA, Tr.dp6 lA, ?_⟩
    refine ⟨_, rfl, _, rfl, v, B, ns[i], rfl, hB.mono (Tups.same sH), oB, Tr.dp6 lB, .inl ⟨rfl, _, rfl, ?_⟩⟩
    have tell := (hk ns[i]).mp (List.getElem_mem lt)
    by_cases e : A.give ns[i] = B.give ns[i]
    · refine iteF' (by rw [e]; simp) ⟨_, rfl, s, fun j hj => ?_⟩
      rw [List.take_succ_eq_append_getElem lt] at hj
      rcases List.mem_append.mp hj with z | z
      · exact eq j z
      · rw [List.mem_singleton.mp z]
        exact e
    · refine iteT' (by simpa using e) ⟨_, rfl, (k G sH).2 ns[i] tell e fun j hj tj => eq j ?_⟩
      obtain ⟨q, lq, rfl⟩ := List.mem_iff_getElem.mp ((hk j).mpr tj)
      have less : q < i := by
        rcases Nat.lt_or_ge q i with z | z
        · exact z
        · rcases Nat.eq_or_lt_of_le z with z | z
          · subst z
            exact absurd hj (by omega)
          · have := List.pairwise_iff_getElem.mp up i q lt lq z
            omega
      exact List.mem_iff_getElem.mpr ⟨q, by rw [List.length_take]; omega, by rw [List.getElem_take]⟩
  · rintro σ' G ⟨s2, rfl, s, eq⟩
    rw [List.length_map, List.take_length] at eq
    exact (k G (s1.trans s)).1 fun j tj => eq j ((hk j).mpr tj)
theorem Tr.pd_eqv : ∀ {A B : Tr}, PyData.eqv A.pd B.pd = true → A = B
  | .at t q, .at t' q', h => by
    have h : PyData.eqv (.tuple [.str "at", .int t, .int q]) (.tuple [.str "at", .int t', .int q']) = true := h
    simp only [PyData.eqv, PyData.eqvAll, Bool.and_eq_true, beq_iff_eq] at h
    obtain ⟨_, rfl, rfl, _⟩ := h
    rfl
  | .or a b, .or c d, h => by
    have h : PyData.eqv (.tuple [.str "or", a.pd, b.pd]) (.tuple [.str "or", c.pd, d.pd]) = true := h
    simp only [PyData.eqv, PyData.eqvAll, Bool.and_eq_true] at h
    rw [pd_eqv h.2.1, pd_eqv h.2.2.1]
  | .and a b, .and c d, h => by
    have h : PyData.eqv (.tuple [.str "and", a.pd, b.pd]) (.tuple [.str "and", c.pd, d.pd]) = true := h
    simp only [PyData.eqv, PyData.eqvAll, Bool.and_eq_true] at h
    rw [pd_eqv h.2.1, pd_eqv h.2.2.1]
  | .at t q, .or c d, h => by
    have h : PyData.eqv (.tuple [.str "at", .int t, .int q]) (.tuple [.str "or", c.pd, d.pd]) = true := h
    simp only [PyData.eqv, PyData.eqvAll, Bool.and_eq_true] at h
    exact absurd h.1 (by decide +kernel)
  | .at t q, .and c d, h => by
    have h : PyData.eqv (.tuple [.str "at", .int t, .int q]) (.tuple [.str "and", c.pd, d.pd]) = true := h
    simp only [PyData.eqv, PyData.eqvAll, Bool.and_eq_true] at h
    exact absurd h.1 (by decide +kernel)
  | .or a b, .at t q, h => by
    have h : PyData.eqv (.tuple [.str "or", a.pd, b.pd]) (.tuple [.str "at", .int t, .int q]) = true := h
    simp only [PyData.eqv, PyData.eqvAll, Bool.and_eq_true] at h
    exact absurd h.1 (by decide +kernel)
  | .and a b, .at t q, h => by
    have h : PyData.eqv (.tuple [.str "and", a.pd, b.pd]) (.tuple [.str "at", .int t, .int q]) = true := h
    simp only [PyData.eqv, PyData.eqvAll, Bool.and_eq_true] at h
    exact absurd h.1 (by decide +kernel)
  | .or a b, .and c d, h => by
    have h : PyData.eqv (.tuple [.str "or", a.pd, b.pd]) (.tuple [.str "and", c.pd, d.pd]) = true := h
    simp only [PyData.eqv, PyData.eqvAll, Bool.and_eq_true] at h
    exact absurd h.1 (by decide +kernel)
  | .and a b, .or c d, h => by
    have h : PyData.eqv (.tuple [.str "and", a.pd, b.pd]) (.tuple [.str "or", c.pd, d.pd]) = true := h
    simp only [PyData.eqv, PyData.eqvAll, Bool.and_eq_true] at h
    exact absurd h.1 (by decide +kernel)
/-- x == y of a Rule: y a Rule, or of a class that is none -/
def EqTo (K : PySem.W.Frag) (C : Cs) (A : Tr) (y : V) (H : Hp) (Q : Bool → Hp → Prop) : Prop :=
  (∃ B, RuleAt K C H y B ∧ ∀ (b : Bool) H', (b = true ↔ A.alike B) → Same H H' → Q b H') ∨ (∃ t, TyX K H y t ∧ PySem.W.kitOne K t (.ref C.Rule) = some false ∧ Q false H)
def sp_RuleEq (K : PySem.W.Frag) (C : Cs) : Sp := fun vs H Q _ => ∃ x y A, vs = [x, y] ∧ RuleAt K C H x A ∧ EqTo K C A y H fun b H' => Q (.bl b) H'
def t_RuleEq (K : PySem.W.Frag) (C : Cs) : TS :=
  (tSeq (tIfS (tNot (tB (tCB (rIsi K) (tCons (tVar 1) (tCons (tC (.ref C.Rule)) tNil))))) (tRet (tC (.bl false))) tNext)
    (tRet (tOrV (tOp (rEqU K) (tFld K (tVar 0) "_tree") (tFld K (tVar 1) "_tree")) (tOp (rIsNn) (tCall (sp_least_apart K) [] E0 (tCons (tFld K (tVar 0) "_tree") (tCons (tFld K (tVar 1) "_tree") tNil))) (tC .non)))))
theorem ln_RuleEq (h : sp_RuleEq K C vs H Q E) : vs.length = 2 := by obtain ⟨_, _, _, rfl, _⟩ := h; rfl
theorem rd_RuleEq (h : sp_RuleEq K C vs H Q E) : t_RuleEq K C (EndsOf Q) (start ["", ""] vs) H := by
  obtain ⟨x, y, A, rfl, ⟨a, dx, u, rfl, ha, hA, oA, lA, fx⟩, ⟨B, ⟨b, dy, z, rfl, hb, hB, oB, lB, _⟩, k⟩ | ⟨t, ty, ik, k⟩⟩ := h
  · refine ⟨_, rfl, _, _, _, _, true, rfl, .own _, .base (.ins hb fx.ic.cl fx.ic.ha fx.ic.hn fx.ic.htk fx.ic.hm), fx.ic.me, true, rfl, ?_⟩
    have gA := (gt_tree oA).good (by omega) (by omega)
    have gB := (gt_tree oB).good (by omega) (by omega)
    refine ⟨_, rfl, a, _, dx, _, u, rfl, ha, fx.cl, fx.no, rfl, _, rfl, b, _, dy, _, z, rfl, hb, fx.cl, fx.no, rfl, .inr ⟨A.pd, B.pd, hA.dp, hB.dp, gA.sh, gB.sh, ?_⟩⟩
    cases e : PyData.eqv A.pd B.pd with
    | true =>
      refine ⟨true, rfl, ?_⟩
      refine k true H ⟨fun _ => ?_, fun _ => rfl⟩ (Same.refl _)
      rw [Tr.pd_eqv e]
      exact fun _ _ => rfl
    | false =>
      refine ⟨false, rfl, ?_⟩
      refine ⟨_, rfl, a, _, dx, _, u, rfl, ha, fx.cl, fx.no, rfl, _, rfl, b, _, dy, _, z, rfl, hb, fx.cl, fx.no, rfl, u, z, A, B, rfl, hA, hB, oA, oB, lA, lB, fun H' s => ⟨fun al => ?_, fun j tj nj _ => ?_⟩⟩
      · refine ⟨rfl, ?_⟩
        rw [decide_eq_true (rfl : V.non = V.non)]
        exact k true H' ⟨fun _ => al, fun _ => rfl⟩ s
      · refine ⟨rfl, ?_⟩
        rw [decide_eq_false (fun z : V.int j = V.non => nomatch z)]
        exact k false H' ⟨(fun z => nomatch z), fun al => absurd (al j tj) nj⟩ s
  · exact ⟨_, rfl, _, _, _, _, false, rfl, .own _, ty, ik, false, rfl, k⟩
end
section
variable {X : Cx} {CX : CXT} {k j : Nat} {C : Addr} {ps : List Str} {sp : Sp} {E : XK} {x : Str}
/-- x == y, x != y, x an instance of the class at C, y of any type that is no younger class -/
def rEqA (K : PySem.W.Frag) (C : Addr) (sp : Sp) (E : XK) : R2 := fun x y H Q => ∃ a dx fs t, x = .ref a ∧ H a = some (.ins C dx fs) ∧ TyX K H y t ∧ PySem.W.notFirst K C t = true ∧ sp [x, y] H (fun v H' => ∃ c, v = .bl c ∧ Q (.bl c) H') E
def rNeA (K : PySem.W.Frag) (C : Addr) (sp : Sp) (E : XK) : R2 := fun x y H Q => ∃ a dx fs t, x = .ref a ∧ H a = some (.ins C dx fs) ∧ TyX K H y t ∧ PySem.W.notFirst K C t = true ∧ sp [x, y] H (fun v H' => ∃ c, v = .bl c ∧ Q (.bl (!c)) H') E
theorem op_eqA (c : Kls X.K X.mg x C) (F : Own X.prog X.w X.K X.mg X.base CX k C "__eq__" ps sp) (hr : Room j X.A) (hx : Passes CX X E) (hj : k ≤ j := by first | decide | omega) : OpR X (compareOp .Eq) (rEqA X.K C sp E) := by
  obtain ⟨f, fd, G, a1, a2, a3, a4, bb⟩ := F.ex
  intro pins s σ H u v ov iv Q I ru rv h
  obtain ⟨a, dx, fs, t, rfl, ha, ty, nf, q⟩ := h
  cases (show ov = Value.ref a from ru)
  obtain ⟨_, O, _⟩ := ins_get I.hok ha
  obtain ⟨od, J, _⟩ := O.look
  obtain ⟨P, Z, hP, _⟩ := kit_of I rv ty
  obtain ⟨_, hF⟩ := I.fr
  show wpAny (model X.prog X.w) X.A (richCompare .Eq (.ref a) iv) (EP X pins σ Q) X.xe s
  refine PySem.W.cmp_K (op := .Eq) (tb := t) (Nat.lt_of_le_of_lt (Nat.le_add_right _ 64) hr.units) hF I.ok.mod.kin J (Z.ty _ _ I.kIn hP) nf a1 a2 ?_
  refine wpAny_mono (run_fn (us := [.ref a, iv]) (vs := [.ref a, v]) G (hr.mono hj) bb .nil hx I (.cons rfl (.cons rv .nil)) q) ?_ fun _ _ z => z
  rintro w s' ⟨z, H', I', rz, d, rfl, qz⟩
  cases rz
  exact ⟨.bl d, H', I', rfl, qz⟩
theorem op_neA (c : Kls X.K X.mg x C) (F : Own X.prog X.w X.K X.mg X.base CX k C "__eq__" ps sp) (hr : Room j X.A) (hx : Passes CX X E) (hj : k + 1 ≤ j := by first | decide | omega) : OpR X (compareOp .NotEq) (rNeA X.K C sp E) := by
  obtain ⟨f, fd, G, a1, a2, a3, a4, bb⟩ := F.ex
  intro pins s σ H u v ov iv Q I ru rv h
  obtain ⟨a, dx, fs, t, rfl, ha, ty, nf, q⟩ := h
  cases (show ov = Value.ref a from ru)
  obtain ⟨_, O, _⟩ := ins_get I.hok ha
  obtain ⟨od, J, _⟩ := O.look
  obtain ⟨P, Z, hP, _⟩ := kit_of I rv ty
  obtain ⟨_, hF⟩ := I.fr
  show wpAny (model X.prog X.w) X.A (richCompare .NotEq (.ref a) iv) (EP X pins σ Q) X.xe s
  have hu := hr.units
  refine rich_ne (tb := t) (by omega) I.kIn J (Z.ty _ _ I.kIn hP) nf (obj_ne (by omega) I.kIn J c.ic.hm c.ne a1 a2 ?_)
  have e := I.env0
  have e0 : Env0 X.prog X.w X.K X.mg X.base X.A.in1 X.stack s H := ⟨e.frames, e.mod, e.bs, e.bsz, e.funs, e.frf, e.hok, e.bare⟩
  have hl := G.len _ _ _ _ q
  refine codeAny_mono (G.run X.A.in1 X.stack s H ⟨[.ref a, iv], []⟩ [.ref a, iv] [.ref a, v] _ E (hr.mono hj).in1 e0 (by
    have := bb s [.ref a, iv] I.kIn (by simpa using hl)
    simpa using this) (.cons rfl (.cons rv .nil)) q) fun r s' z => ?_
  match r, z with
  | .error e, z => exact hx pins σ H s e s' I z
  | .ok (.ret w), z =>
    obtain ⟨y, H', I', rz, d, rfl, qz⟩ := I.after z
    cases rz
    exact ⟨d, rfl, .bl (!d), H', I', rfl, qz⟩
end
end Pk
set_option Elab.async false
set_option linter.all false
set_option maxRecDepth 100000
set_option maxHeartbeats 2000000
/-! what tells two trees apart tells it of all amounts -/
namespace Pk
open PySem PySem.Spec L2 PyProof.Rows
namespace Tr
/-- whether a tree gives at all from s on, until something more begins -/
def on (s : Int) : Tr → Bool
  | .at t _ => decide (t ≤ s)
  | .or a b => on s a || on s b
  | .and a b => on s a && on s b
theorem on_pos {s : Int} : ∀ {T : Tr}, T.ok → T.on s = true → 1 ≤ s
  | .at t q, h, e => by
    have e : t ≤ s := of_decide_eq_true e
    have := h.1
    omega
  | .or a b, h, e => by
    have e : (a.on s || b.on s) = true := e
    rcases Bool.or_eq_true_iff.mp e with e | e
    · exact on_pos h.1 e
    · exact on_pos h.2 e
  | .and a b, h, e => by
    have e : (a.on s && b.on s) = true := e
    exact on_pos h.1 (Bool.and_eq_true_iff.mp e).1
theorem mod_six {q i c : Int} (h1 : 1 ≤ q) (h2 : q ≤ 6) : (i + 60 * c) % q = i % q ∧ (i % 60 = 0 → i % q = 0) := by
  rcases (by omega : q = 1 ∨ q = 2 ∨ q = 3 ∨ q = 4 ∨ q = 5 ∨ q = 6) with rfl | rfl | rfl | rfl | rfl | rfl <;> constructor <;> omega
/-- between s and what begins next: nothing, or the same in sixties -/
structure Go (T : Tr) (s i c : Int) : Prop where
  off : T.on s = false → T.give i = 0 ∧ T.give (i + 60 * c) = 0
  far : T.on s = true → T.give (i + 60 * c) = T.give i + 60 * c
  all : T.on s = true → i % 60 = 0 → T.give i = i
theorem go {s i c : Int} (h0 : 0 ≤ i) (hs : s ≤ i) (hc : 0 ≤ c) : ∀ {T : Tr}, T.ok → (∀ t ∈ T.starts, t ≤ i + 60 * c → t ≤ s) → Go T s i c
  | .at t q, h, hn => by
    obtain ⟨h1, h2, h3, h4⟩ := h
    have hn := hn t (by simp [starts])
    obtain ⟨m1, m2⟩ := mod_six (i := i) (c := c) h3 h4
    have e1 : ∀ j, (Tr.at t q).give j = if t ≤ j then j - j % q else 0 := fun j => rfl
    have e2 : (Tr.at t q).on s = decide (t ≤ s) := rfl
    refine ⟨fun e => ?_, fun e => ?_, fun e z => ?_⟩
    · rw [e2] at e
      have e : ¬ t ≤ s := of_decide_eq_false e
      rw [e1, e1, if_neg (by omega), if_neg (by omega)]
      exact ⟨rfl, rfl⟩
    · rw [e2] at e
      have e : t ≤ s := of_decide_eq_true e
      rw [e1, e1, if_pos (by omega), if_pos (by omega), m1]
      omega
    · rw [e2] at e
      have e : t ≤ s := of_decide_eq_true e
      rw [e1, if_pos (by omega), m2 z]
      omega
  | .or a b, h, hn => by
    have ga := go h0 hs hc h.1 fun t ht => hn t (List.mem_append_left _ ht)
    have gb := go h0 hs hc h.2 fun t ht => hn t (List.mem_append_right _ ht)
    have pa := (give_le (i := i) h.1 h0).1
    have pb := (give_le (i := i) h.2 h0).1
    have ta := (give_le (i := i) h.1 h0).2
    have tb := (give_le (i := i) h.2 h0).2
    obtain ⟨a1, a2, a3⟩ := ga
    obtain ⟨b1, b2, b3⟩ := gb
    have e : (Tr.or a b).on s = (a.on s || b.on s) := rfl
    refine ⟨fun z => ?_, fun z => ?_, fun z y => ?_⟩ <;> rw [e] at z <;> cases ea : a.on s <;> cases eb : b.on s <;> rw [ea, eb] at z <;> first
      | exact absurd z (by decide)
      | (have a1 := a1 ea; have b1 := b1 eb; rw [give_or, give_or, a1.1, a1.2, b1.1, b1.2]; exact ⟨rfl, rfl⟩)
      | (have a1 := a1 ea; have b2 := b2 eb; rw [give_or, give_or, a1.1, a1.2, b2]; split <;> split <;> omega)
      | (have a2 := a2 ea; have b1 := b1 eb; rw [give_or, give_or, a2, b1.1, b1.2]; split <;> split <;> omega)
      | (have a2 := a2 ea; have b2 := b2 eb; rw [give_or, give_or, a2, b2]; split <;> split <;> omega)
      | (have a1 := a1 ea; have b3 := b3 eb y; rw [give_or, a1.1, b3]; split <;> omega)
      | (have a3 := a3 ea y; have b1 := b1 eb; rw [give_or, a3, b1.1]; split <;> omega)
      | (have a3 := a3 ea y; have b3 := b3 eb y; rw [give_or, a3, b3]; split <;> omega)
  | .and a b, h, hn => by
    have ga := go h0 hs hc h.1 fun t ht => hn t (List.mem_append_left _ ht)
    have gb := go h0 hs hc h.2 fun t ht => hn t (List.mem_append_right _ ht)
    have pa := (give_le (i := i) h.1 h0).1
    have pb := (give_le (i := i) h.2 h0).1
    have qa := (give_le (i := i + 60 * c) h.1 (by omega)).1
    have qb := (give_le (i := i + 60 * c) h.2 (by omega)).1
    obtain ⟨a1, a2, a3⟩ := ga
    obtain ⟨b1, b2, b3⟩ := gb
    have e : (Tr.and a b).on s = (a.on s && b.on s) := rfl
    refine ⟨fun z => ?_, fun z => ?_, fun z y => ?_⟩ <;> rw [e] at z <;> cases ea : a.on s <;> cases eb : b.on s <;> rw [ea, eb] at z <;> first
      | exact absurd z (by decide)
      | (have a1 := a1 ea; have b1 := b1 eb; rw [give_and, give_and, a1.1, a1.2, b1.1, b1.2]; exact ⟨rfl, rfl⟩)
      | (have a1 := a1 ea; rw [give_and, give_and, a1.1, a1.2]; constructor <;> split <;> omega)
      | (have b1 := b1 eb; rw [give_and, give_and, b1.1, b1.2]; constructor <;> split <;> omega)
      | (have a2 := a2 ea; have b2 := b2 eb; rw [give_and, give_and, a2, b2]; split <;> split <;> omega)
      | (have a3 := a3 ea y; have b3 := b3 eb y; rw [give_and, a3, b3]; split <;> omega)
theorem starts_pos : ∀ {T : Tr}, T.ok → ∀ t ∈ T.starts, 1 ≤ t
  | .at t q, h, x, hx => by
    rw [List.mem_singleton.mp (show x ∈ [t] from hx)]
    exact h.1
  | .or a b, h, x, hx => by
    rcases List.mem_append.mp (show x ∈ a.starts ++ b.starts from hx) with z | z
    · exact starts_pos h.1 x z
    · exact starts_pos h.2 x z
  | .and a b, h, x, hx => by
    rcases List.mem_append.mp (show x ∈ a.starts ++ b.starts from hx) with z | z
    · exact starts_pos h.1 x z
    · exact starts_pos h.2 x z
theorem starts_le {m : Int} : ∀ {T : Tr}, T.le m → ∀ t ∈ T.starts, t ≤ m
  | .at t q, h, x, hx => by
    rw [List.mem_singleton.mp (show x ∈ [t] from hx)]
    exact h
  | .or a b, h, x, hx => by
    rcases List.mem_append.mp (show x ∈ a.starts ++ b.starts from hx) with z | z
    · exact starts_le h.1 x z
    · exact starts_le h.2 x z
  | .and a b, h, x, hx => by
    rcases List.mem_append.mp (show x ∈ a.starts ++ b.starts from hx) with z | z
    · exact starts_le h.1 x z
    · exact starts_le h.2 x z
end Tr
theorem last_below {a : Int} : ∀ {L : List Int}, (∃ s ∈ L, s ≤ a) → ∃ s ∈ L, s ≤ a ∧ ∀ t ∈ L, t ≤ a → t ≤ s
  | [], ⟨_, h, _⟩ => nomatch h
  | x :: L, ⟨s, h, le⟩ => by
    by_cases e : ∃ s ∈ L, s ≤ a
    · obtain ⟨y, hy, ly, my⟩ := last_below e
      by_cases c : x ≤ a ∧ y < x
      · refine ⟨x, List.mem_cons_self, c.1, fun t ht lt => ?_⟩
        rcases List.mem_cons.mp ht with rfl | z
        · exact Int.le_refl _
        · have := my t z lt
          omega
      · refine ⟨y, List.mem_cons_of_mem _ hy, ly, fun t ht lt => ?_⟩
        rcases List.mem_cons.mp ht with rfl | z
        · omega
        · exact my t z lt
    · refine ⟨x, List.mem_cons_self, ?_, fun t ht lt => ?_⟩
      · rcases List.mem_cons.mp h with rfl | z
        · exact le
        · exact absurd ⟨s, z, le⟩ e
      · rcases List.mem_cons.mp ht with rfl | z
        · exact Int.le_refl _
        · exact absurd ⟨t, z, lt⟩ e
/-- each amount has one that tells: where both give the same there, they give the same of it; and where one gives more -/
theorem Tr.told {A B : Tr} (oA : A.ok) (oB : B.ok) {a : Int} (h0 : 0 ≤ a) : ∃ s i c, s ∈ A.st B ∧ s ≤ i ∧ i < s + 60 ∧ 0 ≤ c ∧ a = i + 60 * c ∧ 0 ≤ i ∧ Go A s i c ∧ Go B s i c ∧ (∀ m, s ≤ m → m ≤ a → Go A s m 0 ∧ Go B s m 0) := by
  obtain ⟨s, hs, ls, ms⟩ := last_below (L := A.st B) (a := a) ⟨0, List.mem_cons_self, h0⟩
  have s0 : 0 ≤ s := ms 0 List.mem_cons_self h0
  have nA : ∀ t ∈ A.starts, t ≤ a → t ≤ s := fun t ht => ms t (List.mem_cons_of_mem _ (List.mem_append_left _ ht))
  have nB : ∀ t ∈ B.starts, t ≤ a → t ≤ s := fun t ht => ms t (List.mem_cons_of_mem _ (List.mem_append_right _ ht))
  have e : a = s + (a - s) % 60 + 60 * ((a - s) / 60) := by omega
  refine ⟨s, s + (a - s) % 60, (a - s) / 60, hs, by omega, by omega, by omega, e, by omega, Tr.go (by omega) (by omega) (by omega) oA fun t ht l => nA t ht (by omega), Tr.go (by omega) (by omega) (by omega) oB fun t ht l => nB t ht (by omega), fun m l1 l2 => ?_⟩
  exact ⟨Tr.go (by omega) l1 (by omega) oA fun t ht l => nA t ht (by omega), Tr.go (by omega) l1 (by omega) oB fun t ht l => nB t ht (by omega)⟩
theorem Tr.alike_all {A B : Tr} (oA : A.ok) (oB : B.ok) (h : A.alike B) {a : Int} (h0 : 0 ≤ a) : A.give a = B.give a := by
  obtain ⟨s, i, c, hs, l1, l2, c0, rfl, i0, gA, gB, near⟩ := Tr.told oA oB h0
  have here := h i ⟨s, hs, l1, l2⟩
  by_cases c1 : c = 0
  · subst c1
    rw [show i + 60 * 0 = i by omega]
    exact here
  -- the multiple of sixty between
  have le : s ≤ (s + 59) / 60 * 60 ∧ (s + 59) / 60 * 60 < s + 60 := by omega
  obtain ⟨mA, mB⟩ := near ((s + 59) / 60 * 60) le.1 (by omega)
  have there := h ((s + 59) / 60 * 60) ⟨s, hs, le⟩
  cases ea : A.on s <;> cases eb : B.on s
  · rw [(gA.off ea).2, (gB.off eb).2]
  · have p := Tr.on_pos oB eb
    rw [(mA.off ea).1, mB.all eb (by omega)] at there
    omega
  · have p := Tr.on_pos oA ea
    rw [mA.all ea (by omega), (mB.off eb).1] at there
    omega
  · rw [gA.far ea, gB.far eb, here]
/-- thresholds up to thirty: just if they give the same of all amounts up to ninety -/
theorem Tr.alike_iff {A B : Tr} (oA : A.ok) (oB : B.ok) (lA : A.le 30) (lB : B.le 30) : A.alike B ↔ ∀ a : Nat, a < 90 → A.give a = B.give a := by
  constructor
  · exact fun h a _ => Tr.alike_all oA oB h (Int.natCast_nonneg a)
  · rintro h k ⟨s, hs, l1, l2⟩
    have sl : 0 ≤ s ∧ s ≤ 30 := by
      rcases List.mem_cons.mp hs with rfl | z
      · omega
      · rcases List.mem_append.mp z with z | z
        · exact ⟨by have := Tr.starts_pos oA s z; omega, Tr.starts_le lA s z⟩
        · exact ⟨by have := Tr.starts_pos oB s z; omega, Tr.starts_le lB s z⟩
    have := h k.toNat (by omega)
    rw [Int.toNat_of_nonneg (by omega)] at this
    exact this
theorem Tr.le_mono {m m' : Int} (h : m ≤ m') : ∀ {T : Tr}, T.le m → T.le m'
  | .at t q, e => by have e : t ≤ m := e; show t ≤ m'; omega
  | .or a b, e => ⟨le_mono h e.1, le_mono h e.2⟩
  | .and a b, e => ⟨le_mono h e.1, le_mono h e.2⟩
section
variable {K : PySem.W.Frag} {C : Cs} {vs : List V} {H H' G G' : Hp} {Q : VK} {E : XK} {n : Nat}
/-- Rule(tree) within something else: what is promised at once -/
theorem make_ruleK {u : V} {T : Tr} {x dx : Addr} {Pq : VK} (hx : G x = none) (hd : G dx = none) (ne : dx ≠ x) (fx : FxRule K C) (ok : T.ok) (l6 : T.lv ≤ 6) (hT : TrAt K G u T) (k : ∀ H', Same G H' → RuleAt K C H' (.ref x) T → Pq .non H') :
    sp_Rule___init__ K C (.ref x :: ([u] ++ [])) (upd (upd G dx (.own x)) x (.ins C.Rule dx [])) Pq E := by
  have s : Same G (upd (upd G dx (.own x)) x (.ins C.Rule dx [])) := fun b o e => by
    rw [upd_ne (ne_of_none e hx), upd_ne (ne_of_none e hd)]
    exact e
  refine ⟨x, dx, u, T, rfl, upd_same, hT.mono (Tups.same s), ok, l6, fx, fun H' h1 h2 => ?_⟩
  have s2 : Same G H' := fun b o e => h2 b o (s b o e) (ne_of_none e hx)
  exact k H' s2 ⟨x, dx, u, rfl, h1, hT.mono (Tups.same s2), ok, l6, fx⟩
/-- what is no Rule -/
structure FxOdd (K : PySem.W.Frag) (C : Cs) : Prop where
  hd : PySem.W.hasDictIn K C.Rule = true
  ty : PySem.W.typeIn K (.ref C.Rule) = some (.type "type")
  si : PySem.W.subIn K (.type "int") (.ref C.Rule) = some false
  ss : PySem.W.subIn K (.type "str") (.ref C.Rule) = some false
  sl : PySem.W.subIn K (.type "list") (.ref C.Rule) = some false
  st : PySem.W.subIn K (.type "tuple") (.ref C.Rule) = some false
theorem FxOdd.kit (o : FxOdd K C) {t : String} (s : PySem.W.subIn K (.type t) (.ref C.Rule) = some false) : PySem.W.kitOne K (.type t) (.ref C.Rule) = some false := by
  obtain ⟨cd, hc, _⟩ := PySem.W.any_some o.hd
  unfold PySem.W.kitOne
  rw [show ((Value.type t) == Value.ref C.Rule) = false from rfl, if_neg (by decide)]
  unfold PySem.W.kitCls
  dsimp only
  rw [hc, o.ty]
  exact s
theorem odd_first {D : Addr} {t : String} (s : PySem.W.subIn K (.type t) (.ref D) = some false) : PySem.W.notFirst K D (.type t) = true := by
  unfold PySem.W.notFirst
  rw [s]
  exact Bool.or_true _
theorem own_first {D : Addr} : PySem.W.notFirst K D (.ref D) = true := by
  unfold PySem.W.notFirst
  simp
theorem RuleAt.ins {v : V} {T : Tr} (h : RuleAt K C H v T) : ∃ a dx fs, v = .ref a ∧ H a = some (.ins C.Rule dx fs) ∧ TyX K H v (.ref C.Rule) := by
  obtain ⟨a, dx, u, rfl, ha, _, _, _, fx⟩ := h
  exact ⟨a, dx, _, rfl, ha, .base (.ins ha fx.ic.cl fx.ic.ha fx.ic.hn fx.ic.htk fx.ic.hm)⟩
theorem TrAt.tyx {v : V} {T : Tr} (h : TrAt K H v T) : TyX K H v (.type "tuple") := by
  obtain ⟨a, w, x, y, rfl, s, _⟩ := h.tuple
  exact sqt_ty s
theorem same_bool {b c : Bool} {p : Prop} (h : b = true ↔ p) (g : c = true ↔ p) : b = c := by
  cases b <;> cases c <;> first
    | rfl
    | exact absurd (g.mpr (h.mp rfl)) (by decide)
    | exact absurd (h.mpr (g.mp rfl)) (by decide)
theorem gt_ints : ∀ (zs : List Int), (∀ z ∈ zs, z.natAbs ≤ 10 ^ 100) → AllTo 0 (2004 * zs.length) (zs.map PyData.int)
  | [], _ => at_nil
  | z :: zs, h => by
    have q := at_cons (gt_int (h z List.mem_cons_self)) (gt_ints zs fun y hy => h y (List.mem_cons_of_mem _ hy))
    refine ⟨q.lay, by have := q.dep; simpa using this, q.wr, ?_⟩
    have := q.sz
    show sizL (.int z :: zs.map PyData.int) ≤ 2004 * (zs.length + 1)
    omega
theorem dp_ints {p : Addr} : ∀ {zs : List Int}, SqL K H p (zs.map V.int) → Dp K H (.ref p) (.list (zs.map PyData.int)) := fun {zs} h => .lst h (by
  clear h
  induction zs with
  | nil => exact .nil
  | cons z zs ih => exact .cons (.int z) ih)
end
end Pk
set_option Elab.async false
set_option linter.all false
set_option maxRecDepth 100000
set_option maxHeartbeats 4000000
/-! sum of lists from a list on; the list of a range; the set of a list -/
namespace PkB
open PySem
theorem args_sum2 (a b : Value) : argsOk "sum" ⟨[a, b], []⟩ := by
  unfold argsOk
  kernel_rfl
section
variable {prog : Program} {w : World} {A : Around} {R : Result → Shared → Prop} {E : Value → Shared → Prop} {I ax S lo : Addr}
theorem isl_up {h : Heap} {a b : Addr} {f : Obj → Obj} {vs : Array Value} {n : Nat} (k : IsL h b vs n) (ne : b ≠ a) : IsL (h.update a f) b vs n := (Heap.get?_update_other _ _ (Ne.symm ne)).trans k
/-- sum's loop over lists: the sum so far stands in a list of one at S -/
theorem sum_lists (hh : A.handled = none) (as : List Addr) (f : Addr → List Value) (SI : S ≠ I) (Sx : ax ≠ S) (Ix : ax ≠ I) (na : ∀ a ∈ as, a ≠ S ∧ a ≠ I) :
    ∀ (k i : Nat) (s : Shared) (cur : Addr) (acc : List Value) (c : Nat), as.length - i = k → i ≤ as.length → lo ≤ s.heap.objs.size → S < s.heap.objs.size → I < s.heap.objs.size → s.heap.IsListIter I ax i → s.heap.IsList ax (as.map Value.ref).toArray →
      IsL s.heap S #[.ref cur] c → (∃ n, IsL s.heap cur acc.toArray n) → cur ≠ S → cur ≠ I → (∀ a ∈ as, ∃ n, IsL s.heap a (f a).toArray n) → acc.length + (((as.drop i).map f).flatten).length ≤ sizeLine →
      (∀ (h' : Heap) cur' n', (∀ b o, b ≠ I → b ≠ S → s.heap.get? b = some o → h'.get? b = some o) → IsL h' cur' (acc ++ ((as.drop i).map f).flatten).toArray n' → (i < as.length → lo ≤ cur') → (i = as.length → cur' = cur) → R (.ok (.ret (.ref cur'))) { s with heap := h' }) →
      codeAny (model prog w) A (.builtin "sum.loop" ⟨[.ref I, .ref S, rawInt 2, rawInt 0], []⟩) R s := by
  intro k
  induction k with
  | zero =>
    intro i s cur acc c hk hi hlo hSz hIz hit hax hS hcur cS cI hls hz hR
    have e : i = as.length := by omega
    subst e
    refine codeAny_builtin F.entry_sum_loop ?_
    rw [Around.under_plainId F.plain_sum_loop _]
    show wpAny _ A.in1 (seqItems? (.ref S) >>= _) _ _ s
    refine wpAny_bind (wpAny_seqItems hS rfl ?_)
    show wpAny _ A.in1 (tryCatch (pyNext (.ref I)) _ >>= _) _ _ s
    refine wpAny_bind (wpAny_tryCatch (wpAny_pyNext_list_end hh hit hax (by simp) fun h' he => ?_))
    obtain ⟨n, hc⟩ := hcur
    refine wpAny_pure (hR h' cur n (fun b o bI _ q => he b o bI q) ?_ (fun z => absurd z (Nat.lt_irrefl _)) fun _ => rfl)
    rw [List.drop_length, List.map_nil, List.flatten_nil, List.append_nil]
    exact he cur _ cI hc
  | succ k ih =>
    intro i s cur acc c hk hi hlo hSz hIz hit hax hS hcur cS cI hls hz hR
    have lt : i < as.length := by omega
    have ed : ((as.drop i).map f).flatten = f as[i] ++ ((as.drop (i + 1)).map f).flatten := by
      rw [List.drop_eq_getElem_cons lt, List.map_cons, List.flatten_cons]
    rw [ed] at hz hR
    refine codeAny_builtin F.entry_sum_loop ?_
    rw [Around.under_plainId F.plain_sum_loop _]
    show wpAny _ A.in1 (seqItems? (.ref S) >>= _) _ _ s
    refine wpAny_bind (wpAny_seqItems hS rfl ?_)
    show wpAny _ A.in1 (tryCatch (pyNext (.ref I)) _ >>= _) _ _ s
    refine wpAny_bind (wpAny_tryCatch (wpAny_pyNext_list_item hit hax (x := .ref as[i]) (by simp [lt]) fun h1 hit1 sb => ?_))
    have k1 : ∀ b o, b ≠ I → s.heap.get? b = some o → h1.get? b = some o := fun b o bI q => (sb.2 b bI).trans q
    obtain ⟨n, hc⟩ := hcur
    obtain ⟨m, ha⟩ := hls _ (List.getElem_mem lt)
    have n1 := na _ (List.getElem_mem lt)
    have len := List.length_append (as := f as[i]) (bs := ((as.drop (i + 1)).map f).flatten)
    show wpAny _ A.in1 ((holding [Value.ref as[i]] (binaryOp .Add (.ref cur) (.ref as[i]))).attempt >>= _) _ _ _
    refine wpAny_bind (wpAny_attempt (wpAny_holding (PySem.P.add_list (k1 _ _ cI hc) (k1 _ _ n1.2 ha) ?_ (by rw [List.size_toArray, List.size_toArray]; omega))))
    have z1 : h1.objs.size = s.heap.objs.size := sb.1
    generalize hN : h1.objs.size = N at z1 ⊢
    have hS2 : IsL (h1.push { cls := .type "list", data := .seq (acc.toArray ++ (f as[i]).toArray) }) S #[.ref cur] c := Heap.get?_push_of_some _ (k1 _ _ SI hS)
    show wpAny _ A.in1 (updateSeq S (fun _ => #[.ref N]) >>= _) _ _ _
    refine wpAny_bind ?_
    refine wpAny_updateSeq hS2 rfl ?_
    have hS3 := Heap.get?_update_self (Obj.mapSeq fun _ => #[Value.ref N]) hS2 rfl
    refine wpAny_bind (wpAny_letGo ?_)
    refine wpAny_bind ?_
    refine wpAny_updateSeq hS3 rfl (wpAny_pure ⟨plainId_quiet F.plain_sum_loop _, ?_⟩)
    have hS4 := Heap.get?_update_self (Obj.mapSeq fun _ => #[Value.ref N]) hS3 rfl
    have old : ∀ b o, b ≠ I → b ≠ S → s.heap.get? b = some o → (((h1.push { cls := .type "list", data := .seq (acc.toArray ++ (f as[i]).toArray) }).update S (Obj.mapSeq fun _ => #[Value.ref N])).update S (Obj.mapSeq fun _ => #[Value.ref N])).get? b = some o := fun b o bI bS q =>
      (Heap.get?_update_other _ _ (Ne.symm bS)).trans ((Heap.get?_update_other _ _ (Ne.symm bS)).trans (Heap.get?_push_of_some _ (k1 b o bI q)))
    have nS : N ≠ S := fun e => absurd hSz (by rw [← e, z1]; exact Nat.lt_irrefl _)
    have nI : N ≠ I := fun e => absurd hIz (by rw [← e, z1]; exact Nat.lt_irrefl _)
    have up : s.heap.objs.size ≤ N + 1 := by rw [z1]; exact Nat.le_succ _
    have loN : lo ≤ N := by rw [z1]; exact hlo
    have size : (((h1.push { cls := .type "list", data := .seq (acc.toArray ++ (f as[i]).toArray) }).update S (Obj.mapSeq fun _ => #[Value.ref N])).update S (Obj.mapSeq fun _ => #[Value.ref N])).objs.size = N + 1 := by
      rw [Heap.size_update, Heap.size_update, Heap.size_push, hN]
    have it2 : (((h1.push { cls := .type "list", data := .seq (acc.toArray ++ (f as[i]).toArray) }).update S (Obj.mapSeq fun _ => #[Value.ref N])).update S (Obj.mapSeq fun _ => #[Value.ref N])).IsListIter I ax (i + 1) :=
      hit1.at fun o q => (Heap.get?_update_other _ _ SI).trans ((Heap.get?_update_other _ _ SI).trans (Heap.get?_push_of_some _ q))
    have new : IsL (((h1.push { cls := .type "list", data := .seq (acc.toArray ++ (f as[i]).toArray) }).update S (Obj.mapSeq fun _ => #[Value.ref N])).update S (Obj.mapSeq fun _ => #[Value.ref N])) N (acc ++ f as[i]).toArray 0 := by
      refine isl_up (isl_up ?_ nS) nS
      show (h1.push _).get? N = some _
      rw [← hN, ← List.append_toArray]
      exact Heap.get?_push_size _ rfl
    generalize (((h1.push { cls := .type "list", data := .seq (acc.toArray ++ (f as[i]).toArray) }).update S (Obj.mapSeq fun _ => #[Value.ref N])).update S (Obj.mapSeq fun _ => #[Value.ref N])) = h2 at hS4 old size it2 new ⊢
    refine ih (i + 1) _ N (acc ++ f as[i]) _ (by omega) lt (by show lo ≤ h2.objs.size; rw [size]; exact Nat.le_trans hlo up) (by show S < h2.objs.size; rw [size]; exact Nat.lt_of_lt_of_le hSz up) (by show I < h2.objs.size; rw [size]; exact Nat.lt_of_lt_of_le hIz up) it2 (hax.at fun o q => old _ o Ix Sx q) hS4 ⟨_, new⟩ nS nI (fun a ha => ?_) ?_ fun h' cur' n' kk hcu p1 p2 => ?_
    · obtain ⟨m, hm⟩ := hls a ha
      exact ⟨m, old _ _ (na a ha).2 (na a ha).1 hm⟩
    · rw [List.length_append]
      omega
    · rw [List.append_assoc] at hcu
      refine hR h' cur' n' (fun b o bI bS q => kk b o bI bS (old b o bI bS q)) hcu (fun _ => ?_) fun z => absurd z (by omega)
      by_cases last : i + 1 < as.length
      · exact p1 last
      · rw [p2 (by omega)]
        exact loN
/-- sum(xs, zs), xs a list of lists -/
theorem call_sum_lists {q : Addr} {zs : List Value} {nz : Nat} {Q : Value → Shared → Prop} {s : Shared} (hh : A.handled = none) (as : List Addr) (f : Addr → List Value) (ne : as ≠ []) (hax : s.heap.IsList ax (as.map Value.ref).toArray)
    (hq : IsL s.heap q zs.toArray nz) (hls : ∀ a ∈ as, ∃ n, IsL s.heap a (f a).toArray n) (hz : zs.length + ((as.map f).flatten).length ≤ sizeLine)
    (hQ : ∀ (h' : Heap) l n', (∀ b o, s.heap.get? b = some o → h'.get? b = some o) → IsL h' l (zs ++ (as.map f).flatten).toArray n' → s.heap.objs.size ≤ l → Q (.ref l) { s with heap := h' }) :
    wpAny (model prog w) A (call (.builtin "sum") [.ref ax, .ref q]) Q E s := by
  refine call_function_tree F.kind_sum F.plain_sum F.entry_sum (args_sum2 _ _) ?_
  unfold Builtin.«sum»
  simp only [List.length_cons, List.length_nil]
  rw [if_neg (by decide)]
  refine wpAny_bind (wpAny_of_eq (show Builtin.Builtins.bindParams "sum" ["start"] 0 { pos := [.ref q] } = pure [some (.ref q)] from rfl) ?_)
  have xlt : ax < s.heap.objs.size := by
    obtain ⟨_, e, _⟩ := hax
    exact Heap.lt_size e
  refine wpAny_bind (wpAny_pyIter_list hax ?_)
  have kI : ∀ b o, s.heap.get? b = some o → (s.heap.push { cls := .type "list_iterator", data := .fields #[.ref ax, .int 0 0] }).get? b = some o := fun b o e => Heap.get?_push_of_some _ e
  have itI : (s.heap.push { cls := .type "list_iterator", data := .fields #[.ref ax, .int 0 0] }).IsListIter s.heap.objs.size ax 0 := ⟨_, Heap.get?_push_size _ rfl, rfl, rfl⟩
  have sz1 : (s.heap.push { cls := .type "list_iterator", data := .fields #[.ref ax, .int 0 0] }).objs.size = s.heap.objs.size + 1 := Heap.size_push ..
  generalize s.heap.push { cls := .type "list_iterator", data := .fields #[.ref ax, .int 0 0] } = h1 at kI itI sz1 ⊢
  have tq : (⟨h1, s.gens, s.drawn, s.toks, s.os⟩ : Shared).TypeIs (.ref q) "list" := ⟨_, kI _ _ hq, rfl⟩
  refine wpAny_bind (wpAny_pure ?_)
  simp only [List.forIn_cons, List.forIn_nil]
  refine wpAny_bind (wpAny_bind (wpAny_bind (wpAny_isInstance (b := false) tq F.sub_list_str ?_)))
  simp only [Bool.false_eq_true, if_false]
  refine wpAny_pure (wpAny_bind (wpAny_bind (wpAny_isInstance (b := false) tq F.sub_list_bytes ?_)))
  simp only [Bool.false_eq_true, if_false]
  refine wpAny_pure (wpAny_bind (wpAny_bind (wpAny_isInstance (b := false) tq F.sub_list_bytearray ?_)))
  simp only [Bool.false_eq_true, if_false]
  refine wpAny_pure (wpAny_pure ?_)
  refine wpAny_bind (wpAny_newObj_type ?_)
  have lt : ∀ {b : Addr} {o : Obj}, s.heap.get? b = some o → b < s.heap.objs.size := fun e => Heap.lt_size e
  have nq : ∀ {b : Addr} {o : Obj}, s.heap.get? b = some o → b ≠ h1.objs.size ∧ b ≠ s.heap.objs.size := fun {b o} e => ⟨fun z => by
    have := lt e
    rw [z, sz1] at this
    exact absurd this (Nat.not_lt_of_le (Nat.le_succ _)), Nat.ne_of_lt (lt e)⟩
  obtain ⟨ox, ex, _⟩ := id hax
  have nSI : h1.objs.size ≠ s.heap.objs.size := by
    rw [sz1]
    exact Nat.succ_ne_self _
  refine wpAny_pure ⟨plainId_quiet F.plain_sum_loop _, sum_lists (lo := s.heap.objs.size) hh as f nSI (nq ex).1 (nq ex).2 (fun a ha => ?_) as.length 0 _ q zs 0 (by omega) (Nat.zero_le _) ?_ ?_ ?_ (itI.at fun o e => Heap.get?_push_of_some _ e) (hax.at fun o e => Heap.get?_push_of_some _ (kI _ _ e))
    (Heap.get?_push_size _ rfl) ⟨_, Heap.get?_push_of_some _ (kI _ _ hq)⟩ (nq hq).1 (nq hq).2 (fun a ha => ?_) (by rw [List.drop_zero]; exact hz) fun h' cur' n' kk hcu p1 _ => ?_⟩
  · obtain ⟨m, hm⟩ := hls a ha
    exact nq hm
  · show s.heap.objs.size ≤ (h1.push _).objs.size
    rw [Heap.size_push, sz1]
    exact Nat.le_trans (Nat.le_succ _) (Nat.le_succ _)
  · show h1.objs.size < (h1.push _).objs.size
    rw [Heap.size_push]
    exact Nat.lt_succ_self _
  · show s.heap.objs.size < (h1.push _).objs.size
    rw [Heap.size_push, sz1]
    exact Nat.lt_succ_of_lt (Nat.lt_succ_self _)
  · obtain ⟨m, hm⟩ := hls a ha
    exact ⟨m, Heap.get?_push_of_some _ (kI _ _ hm)⟩
  · rw [List.drop_zero] at hcu
    refine hQ h' cur' n' (fun b o e => kk b o (nq e).2 (nq e).1 (Heap.get?_push_of_some _ (kI _ _ e))) hcu (p1 ?_)
    exact List.length_pos_iff.mpr ne
end
end PkB
set_option Elab.async false
set_option linter.all false
set_option maxRecDepth 100000
set_option maxHeartbeats 4000000
/-! the list of a range with ends of any size; the set of a list of whole numbers; sum of lists: as calls of the hand layer -/
namespace PkB
open PySem
open PySem.Spec PyProof.Rows L2
section
variable {prog : Program} {w : World} {A : Around} {E : Value → Shared → Prop} {s : Shared}
abbrev AtR (a : Int) : Nat → Value → Prop := fun i v => ∃ t, v = .int (a + i * 1) t
/-- walking over a range, its ends of any size -/
theorem iter_rng {Q : Value → Shared → Prop} {r : Addr} {a b : Int} {t u v : Tok} {n : Nat} (hh : A.handled = none) (hr : IsRange s.heap r a b 1 t u v) (hn : Builtin.Range.rangeSize a b 1 = n)
    (hq : ∀ ito St, Walks prog w A s.heap.objs.size [s.heap.objs.size] [s.heap.objs.size] n (AtR a) St → St 0 (s.heap.push ito) → Q (.ref s.heap.objs.size) { s with heap := s.heap.push ito }) : wpAny (model prog w) A (pyIter (.ref r)) Q E s := by
  cases hs : Builtin.Range.small a b 1 with
  | true =>
    refine wpAny_pyIter_range hr hs (hq _ _ (Walks.range hh _ a 1 n) ?_)
    show IsRangeIter _ _ _ _ _
    rw [hn]
    simpa using Heap.get?_push_size _ rfl
  | false =>
    refine wpAny_pyIter_longrange hr hs (hq _ _ (Walks.longrange hh _ a 1 n) ?_)
    show IsLongIter _ _ _ _ _
    rw [hn]
    simpa using Heap.get?_push_size _ rfl
theorem list_rng {Q : Value → Shared → Prop} {r : Addr} {a b : Int} {t u v : Tok} {n : Nat} (hh : A.handled = none) (hr : IsRange s.heap r a b 1 t u v) (hn : Builtin.Range.rangeSize a b 1 = n) (hlen : n ≤ 2 ^ 24)
    (hQ : ∀ h2 tk acc c2, (∀ b o, s.heap.get? b = some o → h2.get? b = some o) → h2.get? s.heap.objs.size = some { cls := .type "list", dict := none, data := .seq acc c2, slots := #[] } → ItemsOf (AtR a) acc n → Q (.ref s.heap.objs.size) { s with heap := h2, toks := tk }) :
    wpAny (model prog w) A (call (.type "list") [.ref r]) Q E s := by
  refine callType_codes (Q₁ := fun x y => x = .ref s.heap.objs.size ∧ y = { s with heap := s.heap.push { cls := .type "list", data := .seq #[] } }) F.called_list (F.typeCall_list_1 _) F.entry_list_init (code_list_new _ ⟨rfl, rfl⟩) ?_
  rintro x y ⟨rfl, rfl⟩
  have h0 : (s.heap.push { cls := .type "list", data := .seq #[] }).get? s.heap.objs.size = some { cls := .type "list", data := .seq #[] } := Heap.get?_push_size _ rfl
  have r0 : r ≠ s.heap.objs.size := Nat.ne_of_lt (Heap.lt_size hr)
  have k0 : ∀ b o, s.heap.get? b = some o → (s.heap.push { cls := .type "list", data := .seq #[] }).get? b = some o := fun b o e => Heap.get?_push_of_some _ e
  have z0 : (s.heap.push { cls := .type "list", data := .seq #[] }).objs.size = s.heap.objs.size + 1 := Heap.size_push ..
  refine ⟨⟨_, h0, rfl⟩, F.args_list_init_2 _ _, ?_⟩
  generalize hS : s.heap.objs.size = S at h0 r0 z0 ⊢
  generalize s.heap.push { cls := .type "list", data := .seq #[] } = ha at h0 k0 z0 ⊢
  show wpAny _ _ (Builtin.List.listItems (.ref S) >>= _) _ _ _
  refine wpAny_bind ?_
  unfold Builtin.List.listItems
  refine wpAny_bind (wpAny_seqItems h0 rfl (wpAny_pure ?_))
  show wpAny _ _ (updateSeq S (fun _ => #[]) >>= fun _ => letGo ([] : List Value) >>= fun _ => Builtin.List.listExtendWith (.ref S) (.ref r) .none) _ _ _
  refine wpAny_bind (wpAny_updateSeq h0 rfl (wpAny_bind (wpAny_letGo ?_)))
  have h1 := Heap.get?_update_self (Obj.mapSeq (fun _ => (#[] : Array Value))) h0 rfl
  have k1 : ∀ b o, b ≠ S → s.heap.get? b = some o → (ha.update S (Obj.mapSeq (fun _ => (#[] : Array Value)))).get? b = some o := fun b o ne e => (Heap.get?_update_other _ _ (Ne.symm ne)).trans (k0 b o e)
  have z1 : (ha.update S (Obj.mapSeq (fun _ => (#[] : Array Value)))).objs.size = S + 1 := (Heap.size_update ..).trans z0
  generalize ha.update S (Obj.mapSeq (fun _ => (#[] : Array Value))) = hb at h1 k1 z1 ⊢
  have r1 := k1 _ _ r0 hr
  unfold Builtin.List.listExtendWith
  refine wpAny_bind (wpAny_typeOf (T := "range") ⟨_, r1, rfl⟩ ?_)
  have e1 : Builtin.List.listSameRef (.ref S) (.ref r) = false := by simp [Builtin.List.listSameRef, Ne.symm r0]
  rw [e1, show (Value.type "range" == Value.type "list") = false by decide, show (Value.type "range" == Value.type "tuple") = false by decide]
  simp only [Bool.or_false, Bool.false_eq_true, if_false]
  refine wpAny_bind (iter_rng (A := A.in1.in1) hh (s := { s with heap := hb }) r1 hn fun ito St W st => ?_)
  have r2 : IsRange (hb.push ito) r a b 1 t u v := Heap.get?_push_of_some _ r1
  have h2 := Heap.get?_push_of_some ito h1
  have k2 : ∀ b o, b ≠ S → s.heap.get? b = some o → (hb.push ito).get? b = some o := fun b o ne e => Heap.get?_push_of_some _ (k1 b o ne e)
  have nI : S ≠ hb.objs.size := by rw [z1]; exact Nat.ne_of_lt (Nat.lt_succ_self _)
  have lt : ∀ {b : Addr} {o : Obj}, s.heap.get? b = some o → b ≠ S ∧ b ≠ hb.objs.size := fun {b o} e => by
    have := Heap.lt_size e
    rw [hS] at this
    exact ⟨Nat.ne_of_lt this, by rw [z1]; exact Nat.ne_of_lt (Nat.lt_succ_of_lt this)⟩
  generalize hb.objs.size = it at nI W lt ⊢
  dsimp only at st
  generalize hb.push ito = hc at r2 h2 k2 st ⊢
  have fin : ∀ (g : Heap) (c tk : Nat), (∀ b o, b ≠ S → hc.get? b = some o → g.get? b = some o) → g.get? S = some { cls := .type "list", data := .seq #[] c } →
      codeAny (model prog w) A.in1 (.builtin "list.extend.loop" ⟨[.ref S, .ref it, .none], []⟩) (wants (fun r s₂ => r = .none ∧ Q (.ref S) s₂) E) { s with heap := g, toks := tk } := by
    intro g c tk kg hg
    have stat : St 0 g := W.frame _ _ _ st fun b hb o e => kg b o (fun z => nI (z.symm.trans (List.mem_singleton.mp hb))) e
    refine codeAny_extend_loopS W.toS (Nat.le_trans hlen (by rw [sizeLine_eq]; decide)) S (by simpa using nI) .none n 0 _ #[] c rfl (Nat.zero_le _) stat hg (ItemsOf.nil _) fun z acc c3 hm e3 its => ?_
    rw [Moved.eq_with hm]
    refine ⟨rfl, by rw [← hS]; refine hQ z.heap z.toks acc c3 (fun b o e => hm.heap b o ?_ (kg b o (lt e).1 (k2 b o (lt e).1 e))) (by rw [hS]; exact e3) its; simp [(lt e).1, (lt e).2]⟩
  refine wpAny_bind (wpAny_holding (wpAny_hint_range (n := n) r2 hn hlen ?_))
  refine wpAny_ite_split (fun _ => ?_) (fun _ => wpAny_pure ⟨plainId_quiet F.plain_extend_loop _, fin hc _ _ (fun _ _ _ e => e) h2⟩)
  refine wpAny_bind (wpAny_rule (wpAny_bind ?_))
  show wpAny _ _ (updateSeq S (·.push .none) >>= fun _ => updateSeq S (·.pop)) _ _ _
  refine wpAny_bind (wpAny_updateSeq h2 rfl ?_)
  have h3 := Heap.get?_update_self (Obj.mapSeq (·.push Value.none)) h2 rfl
  refine wpAny_updateSeq (hz := by seq_fits) h3 rfl ?_
  have h4 := Heap.get?_update_self (Obj.mapSeq (·.pop)) h3 rfl
  exact wpAny_pure ⟨plainId_quiet F.plain_extend_loop _, fin _ _ _ (fun b o ne e => (Heap.get?_update_other _ _ (Ne.symm ne)).trans ((Heap.get?_update_other _ _ (Ne.symm ne)).trans e)) h4⟩
theorem size_rng {a : Int} {n : Nat} : Builtin.Range.rangeSize a (a + n) 1 = n := by
  unfold Builtin.Range.rangeSize
  split <;> omega
end
section
variable {X : Cx}
theorem boot_t_range : bootBuiltins "range" = some (.type "range") := by decide +kernel
theorem boot_t_set : bootBuiltins "set" = some (.type "set") := by decide +kernel
def rRange2 : List V → Hp → VK → Prop := fun vs H Q => ∃ i j, vs = [V.int i, V.int j] ∧ ∀ p, H p = none → Q (.ref p) (upd H p (.rng i j))
/-- list(range(a, b)) -/
def rListRng : List V → Hp → VK → Prop := fun xs H Q => ∃ (p : Addr) (a : Int) (n : Nat), xs = [.ref p] ∧ H p = some (.rng a (a + n)) ∧ n ≤ 1000 ∧ ∀ l, H l = none → Q (.ref l) (upd H l (.lst ((List.range n).map fun i => V.int (a + (i : Nat)))))
theorem vals_rng {a : Int} : ∀ {n : Nat} {acc : Array Value}, ItemsOf (AtR a) acc n → Vals ((List.range n).map fun i => V.int (a + (i : Nat))) acc.toList := by
  rintro n acc ⟨rfl, h⟩
  have go : ∀ (us : List Value) (k : Nat), (∀ j v, us[j]? = some v → AtR a (k + j) v) → Vals ((List.range' k us.length).map fun i => V.int (a + (i : Nat))) us := by
    intro us
    induction us with
    | nil => exact fun _ _ => .nil
    | cons x us ih =>
      intro k hk
      obtain ⟨t, e⟩ := hk 0 x rfl
      refine .cons ⟨t, by rw [e]; congr 1; omega⟩ (ih (k + 1) fun j v hv => ?_)
      have := hk (j + 1) v (by simpa using hv)
      rwa [show k + (j + 1) = k + 1 + j by omega] at this
  have := go acc.toList 0 fun j v hv => by
    rw [Nat.zero_add]
    exact h j v (by simpa using hv)
  rw [← Array.length_toList, List.range_eq_range']
  exact this
theorem cr_listRng (hc : X.calm = true) : CallR X (.type "list") rListRng := by
  intro pins s σ H xs us Q I r h
  obtain ⟨p, a, n, rfl, hp, hn, q⟩ := h
  obtain ⟨u, rfl, rx⟩ := vals1 r
  cases rx
  obtain ⟨t, u, v, e⟩ := I.hok p _ hp
  refine list_rng (I.ok.hd hc) e size_rng (Nat.le_trans hn (by decide)) fun h2 tk acc c2 k e2 its => ?_
  have rv := vals_rng its
  exact ⟨.ref s.heap.objs.size, _, I.laid k (Nat.le_refl _) (show ObjOk X.prog X.w _ h2 _ (.lst _) from ⟨by rw [List.length_map, List.length_range]; exact Nat.le_of_lt (small1000 hn), acc.toList, c2, rv, by simpa using e2⟩), rfl, q _ (I.hok.fresh (Nat.le_refl _))⟩
end
section
variable {prog : Program} {w : World} {A : Around} {E : Value → Shared → Prop} {s : Shared}
/-- an empty set as it is made -/
abbrev bare (w : World) : Obj := { cls := .type "set", dict := none, data := .set #[] 0 (.fresh 0 0 (!w.params.followText "set-order")) }
/-- set.__init__ with a list of whole numbers -/
theorem init_set {B : Around} {S q : Addr} {its : Array Value} {R : Result → Shared → Prop} (zs : List Int) (hB : B.handled = none) (hS : s.heap.get? S = some (bare w)) (hq : s.heap.IsList q its) (hz : IntsAre its.toList zs) (room : zs.length + 1 < scanBound) (ne : q ≠ S)
    (k : ∀ g tk c, SetR w g S (fun j => decide (j ∈ zs)) c → (∀ b o, b ≠ S → s.heap.get? b = some o → g.get? b = some o) → R (.ok (.ret .none)) { s with heap := g, toks := tk }) :
    wpAny (model prog w) B.in1 (Builtin.«set.__init__» ⟨[.ref S, .ref q], []⟩)
      (fun fin y => match fin with | .done f => R (.ok f) y | .again c => c.quiet = true ∧ codeAny (model prog w) B c R y) (fun e y => R (.error e) y) s := by
  have len : its.size = zs.length := (Array.length_toList).symm.trans (IntsAre.length hz)
  have tS : s.TypeIs (.ref S) "set" := ⟨_, hS, rfl⟩
  obtain ⟨⟨cl, dd, dat, sl⟩, hq', rfl, nl, rfl⟩ := id hq
  have ltS := Heap.lt_size hS
  have ltq := Heap.lt_size hq'
  have no1 := F.sub_list_set
  have no2 := F.sub_list_frozenset
  have no3 : (Value.type "list" == Value.type "dict") = false := by decide
  unfold Builtin.«set.__init__» noKeywords Builtin.Frozenset.updateFrom
  generalize hI : pyIter = IT
  wp_walk
  subst hI
  refine wpAny_pyIter_list hq (wpAny_bind (wpAny_runValue ?_))
  have at_ : ∀ (i : Nat) (v : Value), its[i]? = some v → ∃ k t, zs[i]? = some k ∧ v = .int k t := fun i v e => by
    have lt : i < zs.length := len ▸ (Array.getElem?_eq_some_iff.mp e).1
    obtain ⟨t, ev⟩ := hz.int_at i v (by rwa [Array.getElem?_toList])
    exact ⟨zs[i], t, List.getElem?_eq_getElem lt, by rw [ev, List.getD_eq_getElem?_getD, List.getElem?_eq_getElem lt]; rfl⟩
  have off : S ∉ [s.heap.objs.size, q] := by
    simp only [List.mem_cons, List.mem_singleton, List.not_mem_nil, or_false, not_or]
    exact ⟨Nat.ne_of_lt ltS, Ne.symm ne⟩
  refine set_update_ints (Walks.list (A := B.in1.in1) hB _ q (Nat.ne_of_lt ltq) its).toS S off zs len room at_ its.size 0 _ rfl (Nat.zero_le _) ⟨⟨_, Heap.get?_push_size _ rfl, rfl, rfl⟩, hq.push _⟩ ⟨0, Nat.le_refl 0, setR_new_at (Heap.get?_push_of_some _ hS)⟩ ?_
  rintro ⟨g, _, _, tk, _⟩ c hm _ hc
  have e1 := hm.gens
  have e2 := hm.drawn
  have e3 := hm.os
  dsimp only at e1 e2 e3
  subst e1 e2 e3
  refine wpAny_pure ?_
  show wpAny _ _ (ret Value.none) _ _ _
  refine wpAny_pure (k g tk c hc fun b o bS e => hm.heap b o ?_ (Heap.get?_push_of_some _ e))
  simp only [List.mem_cons, List.mem_singleton, List.not_mem_nil, or_false, not_or]
  exact ⟨bS, Nat.ne_of_lt (Heap.lt_size e)⟩
/-- set(a list of whole numbers) -/
theorem call_set_ints {q : Addr} {its : Array Value} {Q : Value → Shared → Prop} (zs : List Int) (hh : A.handled = none) (hq : s.heap.IsList q its) (hz : IntsAre its.toList zs) (room : zs.length + 1 < scanBound)
    (k : ∀ g tk c, SetR w g s.heap.objs.size (fun j => decide (j ∈ zs)) c → (∀ b o, s.heap.get? b = some o → g.get? b = some o) → Q (.ref s.heap.objs.size) { s with heap := g, toks := tk }) :
    wpAny (model prog w) A (call (.type "set") [.ref q]) Q E s := by
  obtain ⟨_, _, m1⟩ := F.called_set.mro
  have m2 := F.called_set.made
  have m3 := F.called_set.sub
  have m4 := F.called_set.notType
  have m5 := F.called_set.canCreate
  have m6 := F.typeCall_set_1 (.ref q)
  refine wpAny_call (codeAny_of_tree ?_)
  show wpAny _ _ (callAny (.type "set") _) _ _ _
  refine wpAny_pure ⟨Code.quiet_builtin _ (by decide +kernel), codeAny_builtin F.entry_type_call ?_⟩
  rw [Around.under_plain (weight_type_call_type "set" [.ref q] []) rfl]
  repeat (any_goals (first | assumption | wp_step))
  refine codeAny_mono (code_set_led1 (.ref q) (E := E) (Q₁ := fun x y => x = .ref s.heap.objs.size ∧ y = { s with heap := s.heap.push (bare w) }) ⟨rfl, rfl⟩) fun r y hr => ?_
  match r, hr with
  | .error e, hr => exact hr
  | .ok (.ret x), hr =>
    obtain ⟨rfl, rfl⟩ := hr
    have hS : (s.heap.push (bare w)).get? s.heap.objs.size = some (bare w) := Heap.get?_push_size _ rfl
    have tS : Shared.TypeIs { s with heap := s.heap.push (bare w) } (.ref s.heap.objs.size) "set" := ⟨_, hS, rfl⟩
    have m7 := F.called_set.init.lookup
    have m8 := F.called_set.init.bind (.ref s.heap.objs.size)
    repeat (any_goals (first | assumption | wp_step))
    have lq : q < s.heap.objs.size := by
      obtain ⟨_, e, _⟩ := hq
      exact Heap.lt_size e
    refine codeAny_mono (codeAny_call_builtin (R := wants (fun x y => x = .none ∧ Q (.ref s.heap.objs.size) y) E) F.called_set.init.plain F.entry_set_init (check_set_init_1 tS ?_)) fun r y hr => ?_
    · refine init_set zs hh hS (hq.push _) hz room (Nat.ne_of_lt lq) fun g tk c hc kp => ⟨rfl, k g tk c hc fun b o e => kp b o (Nat.ne_of_lt (Heap.lt_size e)) (Heap.get?_push_of_some _ e)⟩
    · match r, hr with
      | .error e, hr => exact hr
      | .ok (.ret x), hr =>
        obtain ⟨rfl, hr⟩ := hr
        repeat (any_goals (first | assumption | wp_step))
end
section
variable {X : Cx}
def rSetL (w : World) (K : PySem.W.Frag) : List V → Hp → VK → Prop := fun vs H Q => ∃ (p : Addr) (zs : List Int), vs = [.ref p] ∧ SqL K H p (zs.map V.int) ∧ zs.length + 1 < scanBound ∧ ∀ D c, H D = none → Q (.ref D) (upd H D (SetO w D (fun j => decide (j ∈ zs)) c))
theorem cr_setL (hc : X.calm = true) : CallR X (.type "set") (rSetL X.w X.K) := by
  intro pins s σ H vs us Q I r h
  obtain ⟨p, zs, rfl, hs, room, q⟩ := h
  obtain ⟨its, rv, hl, _⟩ := I.list hs
  rw [Vals.ref1 r]
  exact call_set_ints zs (I.ok.hd hc) hl.isList (by simpa using rv.ints) room fun g tk c hg k => ⟨.ref s.heap.objs.size, _, I.laid k (Nat.le_refl _) (setO_new hg), rfl, q _ _ (I.hok.fresh (Nat.le_refl _))⟩
/-- sum(xs, zs), xs a list of lists -/
def rSumL (K : PySem.W.Frag) : List V → Hp → VK → Prop := fun vs H Q => ∃ (p q : Addr) (as : List Addr) (f : Addr → List V) (zs : List V), vs = [.ref p, .ref q] ∧ SqL K H p (as.map V.ref) ∧ as ≠ [] ∧ (∀ a ∈ as, H a = some (.lst (f a))) ∧ H q = some (.lst zs) ∧ zs.length + ((as.map f).flatten).length ≤ sizeLine ∧
  ∀ l, H l = none → Q (.ref l) (upd H l (.lst (zs ++ (as.map f).flatten)))
theorem vals_flat {f : Addr → List V} {g : Addr → List Value} : ∀ {as : List Addr}, (∀ a ∈ as, Vals (f a) (g a)) → Vals ((as.map f).flatten) ((as.map g).flatten)
  | [], _ => .nil
  | a :: as, h => by
    rw [List.map_cons, List.map_cons, List.flatten_cons, List.flatten_cons]
    exact (h a List.mem_cons_self).append (vals_flat fun b hb => h b (List.mem_cons_of_mem _ hb))
theorem vals_refs : ∀ {as : List Addr} {us : List Value}, Vals (as.map V.ref) us → us = as.map Value.ref
  | [], _, .nil => rfl
  | a :: as, _, .cons r t => by
    cases r
    rw [vals_refs t]
    rfl
theorem cr_sumL (hc : X.calm = true) : CallR X (.builtin "sum") (rSumL X.K) := by
  intro pins s σ H vs us Q I r h
  obtain ⟨p, q, as, f, zs, rfl, hp, ne, ha, hq, fit, k⟩ := h
  obtain ⟨u1, u2, rfl, r1, r2⟩ := vals2 r
  cases r1
  cases r2
  obtain ⟨us, rv, pl, _⟩ := I.list hp
  obtain rfl := vals_refs rv
  obtain ⟨_, qs, nq, rq, _, eq⟩ := I.lstM hq
  have ex : ∀ a, ∃ g : List Value, a ∈ as → Vals (f a) g ∧ ∃ n, IsL s.heap a g.toArray n := fun a => by
    by_cases m : a ∈ as
    · obtain ⟨_, g, n, rg, _, eg⟩ := I.lstM (ha a m)
      exact ⟨g, fun _ => ⟨rg, n, eg⟩⟩
    · exact ⟨[], fun z => absurd z m⟩
  obtain ⟨g, hg⟩ : ∃ g : Addr → List Value, ∀ a, a ∈ as → Vals (f a) (g a) ∧ ∃ n, IsL s.heap a (g a).toArray n := ⟨fun a => Classical.choose (ex a), fun a => Classical.choose_spec (ex a)⟩
  have vf := vals_flat fun a m => (hg a m).1
  have va := rq.append vf
  have ln := vf.length
  have lz := rq.length
  refine call_sum_lists (I.ok.hd hc) as g ne pl.isList eq (fun a m => (hg a m).2) (by omega) fun h2 l n2 kp hl nl => ?_
  exact ⟨.ref l, _, I.laid (t' := s.toks) kp nl (show ObjOk X.prog X.w _ h2 _ (.lst _) from ⟨by rw [List.length_append]; exact fit, _, n2, va, hl⟩), rfl, k l (I.hok.fresh nl)⟩
end
end PkB
set_option Elab.async false
set_option linter.all false
set_option maxRecDepth 100000
set_option maxHeartbeats 2000000
/-! the least amount that parts two trees -/
namespace Pk
open PySem PySem.Spec L2 PyProof.Rows
/-- the least number from nought on of which P holds, or None -/
def FstV (P : Int → Prop) (v : V) : Prop := (v = .non ∧ ∀ k, 0 ≤ k → ¬ P k) ∨ ∃ k, v = .int k ∧ 0 ≤ k ∧ P k ∧ ∀ j, 0 ≤ j → j < k → ¬ P j
theorem FstV.one {P : Int → Prop} {v u : V} (h : FstV P v) (g : FstV P u) : v = u := by
  rcases h with ⟨rfl, h⟩ | ⟨k, rfl, k0, pk, h⟩ <;> rcases g with ⟨rfl, g⟩ | ⟨j, rfl, j0, pj, g⟩
  · rfl
  · exact absurd pj (h j j0)
  · exact absurd pk (g k k0)
  · have e : k = j := by
      by_cases a : k < j
      · exact absurd pk (g k k0 a)
      · by_cases b : j < k
        · exact absurd pj (h j j0 b)
        · omega
    rw [e]
theorem FstV.non {P : Int → Prop} {v : V} (h : FstV P v) : v = .non ↔ ∀ k, 0 ≤ k → ¬ P k := by
  rcases h with ⟨rfl, h⟩ | ⟨k, rfl, k0, pk, h⟩
  · exact ⟨fun _ => h, fun _ => rfl⟩
  · exact ⟨fun e => (by cases e), fun e => absurd pk (e k k0)⟩
theorem FstV.congr {P P' : Int → Prop} {v : V} (h : FstV P v) (e : ∀ k, 0 ≤ k → (P k ↔ P' k)) : FstV P' v := by
  rcases h with ⟨rfl, h⟩ | ⟨k, rfl, k0, pk, h⟩
  · exact .inl ⟨rfl, fun k k0 p => h k k0 ((e k k0).mpr p)⟩
  · exact .inr ⟨k, rfl, k0, (e k k0).mp pk, fun j j0 lt p => h j j0 lt ((e j j0).mpr p)⟩
/-- the first one of a list, with m more, or None -/
def firstV (zs : List Int) (m : Int) : V := match zs with
  | [] => .non
  | z :: _ => .int (z + m)
theorem FstV.of_list {P : Int → Prop} [DecidablePred P] {ns : List Int} {m : Int} {P' : Int → Prop} (up : ns.Pairwise (· < ·)) (pos : ∀ i ∈ ns, 0 ≤ i) (near : ∀ a, 0 ≤ a → P a → ∃ i ∈ ns, i ≤ a ∧ P i) (m0 : 0 ≤ m)
    (low : ∀ k, 0 ≤ k → k < m → ¬ P' k) (same : ∀ j, 0 ≤ j → (P' (j + m) ↔ P j)) : FstV P' (firstV (ns.filter fun k => decide (P k)) m) := by
  have sub := up.sublist (List.filter_sublist (p := fun k => decide (P k)))
  have mem : ∀ i, i ∈ ns.filter (fun k => decide (P k)) ↔ i ∈ ns ∧ P i := fun i => by rw [List.mem_filter, decide_eq_true_eq]
  generalize ns.filter (fun k => decide (P k)) = zs at sub mem
  have none : ∀ k, 0 ≤ k → (∀ j, 0 ≤ j → j ≤ k - m → ¬ P j) → ¬ P' k := fun k k0 h p => by
    by_cases lt : k < m
    · exact low k k0 lt p
    · refine h (k - m) (by omega) (by omega) ((same (k - m) (by omega)).mp ?_)
      rwa [show k - m + m = k by omega]
  cases zs with
  | nil =>
    refine .inl ⟨rfl, fun k k0 => none k k0 fun j j0 _ pj => ?_⟩
    obtain ⟨i, hi, _, pi⟩ := near j j0 pj
    exact absurd ((mem i).mpr ⟨hi, pi⟩) (by simp)
  | cons z zs =>
    obtain ⟨hz, pz⟩ := (mem z).mp List.mem_cons_self
    have z0 := pos z hz
    refine .inr ⟨z + m, rfl, by omega, (same z z0).mpr pz, fun k k0 lt => none k k0 fun j j0 le pj => ?_⟩
    obtain ⟨i, hi, ij, pi⟩ := near j j0 pj
    rcases List.mem_cons.mp ((mem i).mpr ⟨hi, pi⟩) with e | e
    · omega
    · have := (List.pairwise_cons.mp sub).1 i e
      omega
theorem firstV_mem {zs : List Int} {m : Int} : firstV zs m = .non ∨ ∃ z ∈ zs, firstV zs m = .int (z + m) := by
  cases zs with
  | nil => exact .inl rfl
  | cons z zs => exact .inr ⟨z, List.mem_cons_self, rfl⟩
namespace Tr
/-- where one gives more than the other: a place near by where it does, behind a start -/
theorem near {A B : Tr} (oA : A.ok) (oB : B.ok) {a : Int} (h0 : 0 ≤ a) (h : B.give a < A.give a) : ∃ s i, s ∈ A.st B ∧ 1 ≤ s ∧ s ≤ i ∧ i < s + 60 ∧ i ≤ a ∧ B.give i < A.give i := by
  obtain ⟨s, i, c, hs, l1, l2, c0, rfl, i0, gA, gB, nr⟩ := told oA oB h0
  obtain ⟨pA, _⟩ := give_le (i := i + 60 * c) oA h0
  obtain ⟨pB, _⟩ := give_le (i := i + 60 * c) oB h0
  cases ea : A.on s <;> cases eb : B.on s
  · have := (gA.off ea).2
    omega
  · have := (gA.off ea).2
    omega
  · have s1 := on_pos oA ea
    by_cases c1 : c = 0
    · subst c1
      exact ⟨s, i, hs, s1, l1, l2, by omega, by rwa [show i + 60 * 0 = i by omega] at h⟩
    · have le : s ≤ (s + 59) / 60 * 60 ∧ (s + 59) / 60 * 60 < s + 60 := by omega
      obtain ⟨mA, mB⟩ := nr ((s + 59) / 60 * 60) le.1 (by omega)
      refine ⟨s, _, hs, s1, le.1, le.2, by omega, ?_⟩
      rw [mA.all ea (by omega), (mB.off eb).1]
      omega
  · have s1 := on_pos oA ea
    rw [gA.far ea, gB.far eb] at h
    exact ⟨s, i, hs, s1, l1, l2, by omega, by omega⟩
/-- begun where something is given at all -/
def norm : Tr → Tr
  | .at t q => .at (if q > t then q else t) q
  | .or a b => .or (norm a) (norm b)
  | .and a b => .and (norm a) (norm b)
theorem norm_ok : ∀ {T : Tr}, T.ok → T.norm.ok
  | .at t q, h => by
    obtain ⟨h1, h2, h3, h4⟩ := h
    show 1 ≤ (if q > t then q else t) ∧ (if q > t then q else t) ≤ 10 ^ 50 ∧ 1 ≤ q ∧ q ≤ 6
    split <;> omega
  | .or a b, h => ⟨norm_ok h.1, norm_ok h.2⟩
  | .and a b, h => ⟨norm_ok h.1, norm_ok h.2⟩
theorem norm_starts : ∀ {T : Tr}, T.norm.starts = T.tops
  | .at t q => rfl
  | .or a b => by show a.norm.starts ++ b.norm.starts = a.tops ++ b.tops; rw [norm_starts, norm_starts]
  | .and a b => by show a.norm.starts ++ b.norm.starts = a.tops ++ b.tops; rw [norm_starts, norm_starts]
theorem at_give {t q i : Int} (h1 : 1 ≤ q) (h0 : 0 ≤ i) (lt : i < q) : (Tr.at t q).give i = 0 := by
  show (if t ≤ i then i - i % q else 0) = 0
  rw [Int.emod_eq_of_lt h0 lt]
  split <;> omega
theorem norm_give {i : Int} (h0 : 0 ≤ i) : ∀ {T : Tr}, T.ok → T.norm.give i = T.give i
  | .at t q, h => by
    obtain ⟨h1, h2, h3, h4⟩ := h
    by_cases c : q > t
    · by_cases l : i < q
      · rw [at_give h3 h0 l]
        show (Tr.at (if q > t then q else t) q).give i = 0
        rw [at_give h3 h0 l]
      · show (if (if q > t then q else t) ≤ i then i - i % q else 0) = if t ≤ i then i - i % q else 0
        rw [if_pos c, if_pos (by omega), if_pos (by omega)]
    · show (if (if q > t then q else t) ≤ i then i - i % q else 0) = if t ≤ i then i - i % q else 0
      rw [if_neg c]
  | .or a b, h => by rw [norm, give_or, give_or, norm_give h0 h.1, norm_give h0 h.2]
  | .and a b, h => by rw [norm, give_and, give_and, norm_give h0 h.1, norm_give h0 h.2]
/-- the same behind the greater ones of threshold and multiple -/
theorem near_top {A B : Tr} (oA : A.ok) (oB : B.ok) {a : Int} (h0 : 0 ≤ a) (h : B.give a < A.give a) : ∃ s i, s ∈ A.tops ++ B.tops ∧ s ≤ i ∧ i < s + 60 ∧ 0 ≤ i ∧ i ≤ a ∧ B.give i < A.give i := by
  obtain ⟨s, i, hs, s1, l1, l2, ia, hi⟩ := near (norm_ok oA) (norm_ok oB) h0 (by rwa [norm_give h0 oA, norm_give h0 oB])
  have i0 : 0 ≤ i := by omega
  rw [norm_give i0 oA, norm_give i0 oB] at hi
  refine ⟨s, i, ?_, l1, l2, i0, ia, hi⟩
  rcases List.mem_cons.mp hs with e | e
  · omega
  · rwa [norm_starts, norm_starts] at e
/-- lifted by a multiple of sixty -/
def lift (m : Int) : Tr → Tr
  | .at t q => .at ((if q > t then q else t) + m) q
  | .or a b => .or (lift m a) (lift m b)
  | .and a b => .and (lift m a) (lift m b)
theorem lift_lv {m : Int} : ∀ {T : Tr}, (T.lift m).lv = T.lv
  | .at t q => rfl
  | .or a b => by show (a.lift m).lv + (b.lift m).lv = a.lv + b.lv; rw [lift_lv, lift_lv]
  | .and a b => by show (a.lift m).lv + (b.lift m).lv = a.lv + b.lv; rw [lift_lv, lift_lv]
theorem lift_ok {m : Int} (m0 : 0 ≤ m) (m1 : m ≤ 10 ^ 40) : ∀ {T : Tr}, T.ok → T.le 1000 → (T.lift m).ok
  | .at t q, h, l => by
    obtain ⟨h1, h2, h3, h4⟩ := h
    have l : t ≤ 1000 := l
    show 1 ≤ (if q > t then q else t) + m ∧ (if q > t then q else t) + m ≤ 10 ^ 50 ∧ 1 ≤ q ∧ q ≤ 6
    split <;> omega
  | .or a b, h, l => ⟨lift_ok m0 m1 h.1 l.1, lift_ok m0 m1 h.2 l.2⟩
  | .and a b, h, l => ⟨lift_ok m0 m1 h.1 l.1, lift_ok m0 m1 h.2 l.2⟩
theorem lift_low {m k : Int} (k0 : 0 ≤ k) (lt : k < m) : ∀ {T : Tr}, T.ok → (T.lift m).give k = 0
  | .at t q, h => by
    obtain ⟨h1, h2, h3, h4⟩ := h
    show (if (if q > t then q else t) + m ≤ k then k - k % q else 0) = 0
    rw [if_neg (by split <;> omega)]
  | .or a b, h => by rw [lift, give_or, lift_low k0 lt h.1, lift_low k0 lt h.2]; rfl
  | .and a b, h => by rw [lift, give_and, lift_low k0 lt h.1, lift_low k0 lt h.2]; rfl
/-- what is given, lifted -/
def up (m z : Int) : Int := if z = 0 then 0 else z + m
theorem lift_give {m c i : Int} (e : m = 60 * c) (c0 : 0 ≤ c) (i0 : 0 ≤ i) : ∀ {T : Tr}, T.ok → (T.lift m).give (i + m) = up m (T.give i)
  | .at t q, h => by
    obtain ⟨h1, h2, h3, h4⟩ := h
    obtain ⟨md, _⟩ := mod_six (i := i) (c := c) h3 h4
    show (if (if q > t then q else t) + m ≤ i + m then i + m - (i + m) % q else 0) = up m (if t ≤ i then i - i % q else 0)
    rw [e, md]
    unfold up
    by_cases l : i < q
    · have ei : i % q = i := Int.emod_eq_of_lt i0 l
      rw [ei]
      have : (if t ≤ i then i - i else 0) = 0 := by split <;> omega
      rw [this, if_pos rfl]
      by_cases c2 : q > t
      · rw [if_pos c2, if_neg (by omega)]
      · rw [if_neg c2, if_neg (by omega)]
    · have b := Int.emod_lt_of_pos i (show 0 < q by omega)
      have key : (if (if q > t then q else t) + 60 * c ≤ i + 60 * c then i + 60 * c - i % q else 0) = if t ≤ i then i - i % q + 60 * c else 0 := by
        by_cases c3 : q > t
        · rw [if_pos c3, if_pos (show q + 60 * c ≤ i + 60 * c by omega), if_pos (show t ≤ i by omega)]
          omega
        · rw [if_neg c3]
          by_cases c2 : t ≤ i
          · rw [if_pos (show t + 60 * c ≤ i + 60 * c by omega), if_pos c2]
            omega
          · rw [if_neg (show ¬ t + 60 * c ≤ i + 60 * c by omega), if_neg c2]
      rw [key]
      by_cases c2 : t ≤ i
      · rw [if_pos c2, if_pos c2, if_neg (show ¬ i - i % q = 0 by omega)]
      · rw [if_neg c2, if_neg c2, if_pos rfl]
  | .or a b, h => by
    have pa := (give_le (i := i) h.1 i0).1
    have pb := (give_le (i := i) h.2 i0).1
    rw [lift, give_or, give_or, lift_give e c0 i0 h.1, lift_give e c0 i0 h.2]
    unfold up
    repeat' split
    all_goals omega
  | .and a b, h => by
    have pa := (give_le (i := i) h.1 i0).1
    have pb := (give_le (i := i) h.2 i0).1
    rw [lift, give_and, give_and, lift_give e c0 i0 h.1, lift_give e c0 i0 h.2]
    unfold up
    repeat' split
    all_goals omega
theorem up_lt {m x y : Int} (m0 : 0 ≤ m) (x0 : 0 ≤ x) (y0 : 0 ≤ y) : up m x < up m y ↔ x < y := by
  unfold up
  repeat' split
  all_goals omega
/-- parted; above -/
def Un (A B : Tr) (k : Int) : Prop := A.give k ≠ B.give k
def Ov (A B : Tr) (k : Int) : Prop := B.give k < A.give k
instance {A B : Tr} : DecidablePred (Un A B) := fun k => inferInstanceAs (Decidable (A.give k ≠ B.give k))
instance {A B : Tr} : DecidablePred (Ov A B) := fun k => inferInstanceAs (Decidable (B.give k < A.give k))
theorem un_ov {A B : Tr} {k : Int} : Un A B k ↔ Ov A B k ∨ Ov B A k := by
  unfold Un Ov
  omega
theorem un_near {A B : Tr} (oA : A.ok) (oB : B.ok) {a : Int} (h0 : 0 ≤ a) (h : Un A B a) : ∃ i, A.tells B i ∧ 0 ≤ i ∧ i ≤ a ∧ Un A B i := by
  rcases un_ov.mp h with h | h
  · obtain ⟨s, i, hs, s1, l1, l2, ia, hi⟩ := near oA oB h0 h
    exact ⟨i, ⟨s, hs, l1, l2⟩, by omega, ia, un_ov.mpr (.inl hi)⟩
  · obtain ⟨s, i, hs, s1, l1, l2, ia, hi⟩ := near oB oA h0 h
    refine ⟨i, ⟨s, ?_, l1, l2⟩, by omega, ia, un_ov.mpr (.inr hi)⟩
    rcases List.mem_cons.mp hs with e | e
    · exact e ▸ List.mem_cons_self
    · rcases List.mem_append.mp e with e | e
      · exact List.mem_cons_of_mem _ (List.mem_append_right _ e)
      · exact List.mem_cons_of_mem _ (List.mem_append_left _ e)
theorem ov_near {A B : Tr} (oA : A.ok) (oB : B.ok) {a : Int} (h0 : 0 ≤ a) (h : Ov A B a) : ∃ i, A.tells B i ∧ 0 ≤ i ∧ i ≤ a ∧ Ov A B i := by
  obtain ⟨s, i, hs, s1, l1, l2, ia, hi⟩ := near oA oB h0 h
  exact ⟨i, ⟨s, hs, l1, l2⟩, by omega, ia, hi⟩
theorem tells_pos {A B : Tr} (oA : A.ok) (oB : B.ok) {k : Int} (h : A.tells B k) : 0 ≤ k := by
  obtain ⟨s, hs, l1, _⟩ := h
  rcases List.mem_cons.mp hs with e | e
  · omega
  · rcases List.mem_append.mp e with e | e
    · have := starts_pos oA s e
      omega
    · have := starts_pos oB s e
      omega
end Tr
end Pk
set_option Elab.async false
set_option linter.all false
set_option maxRecDepth 100000
set_option maxHeartbeats 2000000
namespace Pk
open PySem PySem.Spec L2 PyProof.Rows
section
variable {K : PySem.W.Frag} {C : Cs} {vs : List V} {H H' G G' : Hp} {Q : VK} {E : XK} {n : Nat} {w : World}
def sp_least_above (K : PySem.W.Frag) : Sp := fun vs H Q _ => ∃ u v A B, vs = [u, v] ∧ TrAt K H u A ∧ TrAt K H v B ∧ A.ok ∧ B.ok ∧ A.lv ≤ 6 ∧ B.lv ≤ 6 ∧ ∀ x H', Same H H' → FstV (A.Ov B) x → Q x H'
def t_least_above (K : PySem.W.Frag) : TS :=
  (tSeq (tFor (iList K (tCall (sp_telling K) [] E0 (tCons (tVar 0) (tCons (tVar 1) tNil)))) (gName 2) (tIfS (tTest (tOp (rGtI) (tCall (sp_given K 7) [] E0 (tCons (tVar 0) (tCons (tVar 2) tNil))) (tCall (sp_given K 7) [] E0 (tCons (tVar 1) (tCons (tVar 2) tNil))))) (tRet (tVar 2)) tNext))
    (tRet (tC .non)))
theorem ln_least_above (h : sp_least_above K vs H Q E) : vs.length = 2 := by obtain ⟨_, _, _, _, rfl, _⟩ := h; rfl
theorem rd_least_above (h : sp_least_above K vs H Q E) : t_least_above K (EndsOf Q) (start ["", "", ""] vs) H := by
  obtain ⟨u, v, A, B, rfl, hA, hB, oA, oB, lA, lB, k⟩ := h
  refine ⟨_, rfl, _, rfl, u, v, A, B, rfl, hA, hB, lA, lB, fun ns p H1 up hk hp s1 h1 => ?_⟩
  refine ⟨p, rfl, ⟨_, SqL.of h1⟩, ?_⟩
  refine for_list (K := K) (a := p) (xs := ns.map V.int) (fun i σ' G => ∃ s2, σ' = [some u, some v, s2] ∧ Same H1 G ∧ ∀ j ∈ ns.take i, ¬ A.Ov B j) ⟨_, rfl, Same.refl _, fun j hj => by simp at hj⟩ (fun i σ' G _ ⟨_, _, s, _⟩ => s.seq (SqL.of h1)) ?_ ?_
  · rintro i x σ' G hx ⟨s2, rfl, s, no⟩
    obtain ⟨lt, ex⟩ := List.getElem?_eq_some_iff.mp hx
    rw [List.length_map] at lt
    rw [List.getElem_map] at ex
    subst ex
    have sH := s1.trans s
    refine ⟨_, rfl, _, rfl, u, A, ns[i], rfl, hA.mono (Tups.same sH), oA, Tr.dp6 lA, ?_⟩
    refine ⟨_, rfl, _, rfl, v, B, ns[i], rfl, hB.mono (Tups.same sH), oB, Tr.dp6 lB, _, _, rfl, rfl, _, rfl, ?_⟩
    have tell := (hk ns[i]).mp (List.getElem_mem lt)
    refine ifD (fun c => ?_) (fun c => ?_)
    · refine ⟨_, rfl, k _ G sH (.inr ⟨ns[i], rfl, Tr.tells_pos oA oB tell, c, fun j j0 lj pj => ?_⟩)⟩
      obtain ⟨m, tm, m0, mj, pm⟩ := Tr.ov_near oA oB j0 pj
      refine no m ?_ pm
      obtain ⟨q, lq, rfl⟩ := List.mem_iff_getElem.mp ((hk m).mpr tm)
      have less : q < i := by
        rcases Nat.lt_or_ge q i with z | z
        · exact z
        · rcases Nat.eq_or_lt_of_le z with z | z
          · subst z
            exact absurd mj (by omega)
          · have := List.pairwise_iff_getElem.mp up i q lt lq z
            omega
      exact List.mem_iff_getElem.mpr ⟨q, by rw [List.length_take]; omega, by rw [List.getElem_take]⟩
    · refine ⟨_, rfl, s, fun j hj => ?_⟩
      rw [List.take_succ_eq_append_getElem lt] at hj
      rcases List.mem_append.mp hj with z | z
      · exact no j z
      · rw [List.mem_singleton.mp z]
        exact c
  · rintro σ' G ⟨s2, rfl, s, no⟩
    rw [List.length_map, List.take_length] at no
    refine k _ G (s1.trans s) (.inl ⟨rfl, fun j j0 pj => ?_⟩)
    obtain ⟨m, tm, _, _, pm⟩ := Tr.ov_near oA oB j0 pj
    exact no m ((hk m).mpr tm) pm
def sp_apart (K : PySem.W.Frag) (C : Cs) : Sp := fun vs H Q _ => ∃ x y A B, vs = [x, y] ∧ RuleAt K C H x A ∧ RuleAt K C H y B ∧ ∀ v H', Same H H' → FstV (A.Un B) v → Q v H'
def t_apart (K : PySem.W.Frag) (C : Cs) : TS :=
  (tRet (tCall (sp_least_apart K) [] E0 (tCons (tMeth C.Rule "tree" (sp_Rule_tree K C) [] E0 (tVar 0) tNil) (tCons (tMeth C.Rule "tree" (sp_Rule_tree K C) [] E0 (tVar 1) tNil) tNil))))
theorem ln_apart (h : sp_apart K C vs H Q E) : vs.length = 2 := by obtain ⟨_, _, _, _, rfl, _⟩ := h; rfl
theorem rd_apart (h : sp_apart K C vs H Q E) : t_apart K C (EndsOf Q) (start ["", ""] vs) H := by
  obtain ⟨x, y, A, B, rfl, rA, rB, k⟩ := h
  obtain ⟨a, da, u, rfl, ha, hA, oA, lA, fx⟩ := id rA
  obtain ⟨b, db, v, rfl, hb, hB, oB, lB, _⟩ := id rB
  refine ⟨_, rfl, a, da, _, rfl, ha, lk_tree (by decide +kernel), _, A, rfl, rA, fun u' hu => ⟨_, rfl, b, db, _, rfl, hb, lk_tree (by decide +kernel), _, B, rfl, rB, fun v' hv => ?_⟩⟩
  refine ⟨u', v', A, B, rfl, hu, hv, oA, oB, lA, lB, fun H' s => ⟨fun al => ?_, fun m tm ne less => ?_⟩⟩
  · exact k _ H' s (.inl ⟨rfl, fun j j0 pj => pj (Tr.alike_all oA oB al j0)⟩)
  · refine k _ H' s (.inr ⟨m, rfl, Tr.tells_pos oA oB tm, ne, fun j j0 lj pj => ?_⟩)
    obtain ⟨i, ti, _, ij, pi⟩ := Tr.un_near oA oB j0 pj
    exact pi (less i (by omega) ti)
def sp_above (K : PySem.W.Frag) (C : Cs) : Sp := fun vs H Q _ => ∃ x y A B, vs = [x, y] ∧ RuleAt K C H x A ∧ RuleAt K C H y B ∧ ∀ v H', Same H H' → FstV (A.Ov B) v → Q v H'
def t_above (K : PySem.W.Frag) (C : Cs) : TS :=
  (tRet (tCall (sp_least_above K) [] E0 (tCons (tMeth C.Rule "tree" (sp_Rule_tree K C) [] E0 (tVar 0) tNil) (tCons (tMeth C.Rule "tree" (sp_Rule_tree K C) [] E0 (tVar 1) tNil) tNil))))
theorem ln_above (h : sp_above K C vs H Q E) : vs.length = 2 := by obtain ⟨_, _, _, _, rfl, _⟩ := h; rfl
theorem rd_above (h : sp_above K C vs H Q E) : t_above K C (EndsOf Q) (start ["", ""] vs) H := by
  obtain ⟨x, y, A, B, rfl, rA, rB, k⟩ := h
  obtain ⟨a, da, u, rfl, ha, hA, oA, lA, fx⟩ := id rA
  obtain ⟨b, db, v, rfl, hb, hB, oB, lB, _⟩ := id rB
  refine ⟨_, rfl, a, da, _, rfl, ha, lk_tree (by decide +kernel), _, A, rfl, rA, fun u' hu => ⟨_, rfl, b, db, _, rfl, hb, lk_tree (by decide +kernel), _, B, rfl, rB, fun v' hv => ?_⟩⟩
  exact ⟨u', v', A, B, rfl, hu, hv, oA, oB, lA, lB, k⟩
def sp_law_least (K : PySem.W.Frag) : Sp := fun vs H Q _ => ∃ p m, ∃ zs : List Int, vs = [.ref p, .int m] ∧ SqL K H p (zs.map V.int) ∧ zs.length ≤ 1000 ∧ (∀ z ∈ zs, z.natAbs ≤ 10 ^ 100) ∧ ∀ H', Same H H' → Q (firstV zs m) H'
def t_law_least (K : PySem.W.Frag) : TS :=
  (tRet (tIf (tTest (tOp (rNeU K) (tVar 0) (tLst tNil))) (tOp (rAddU K) (tOp (rIx K) (tVar 0) (tC (.int 0))) (tVar 1)) (tC .non)))
theorem ln_law_least (h : sp_law_least K vs H Q E) : vs.length = 2 := by obtain ⟨_, _, _, rfl, _⟩ := h; rfl
theorem rd_law_least (h : sp_law_least K vs H Q E) : t_law_least K (EndsOf Q) (start ["", ""] vs) H := by
  obtain ⟨p, m, zs, rfl, hp, lz, bz, k⟩ := h
  refine ⟨_, rfl, Nat.zero_le _, fun p0 h0 => .inr ⟨_, _, dp_ints ((same_new h0).seq hp), dp_ints (zs := []) (SqL.of upd_same), ((gt_list (gt_ints zs bz)).good (by decide) (by omega)).sh, rfl, ?_⟩⟩
  have s := same_new (o := .lst []) h0
  cases zs with
  | nil => exact ⟨_, rfl, iteF' rfl (k _ s)⟩
  | cons z zs => exact ⟨_, rfl, iteT' rfl ⟨_, rfl, .inl ⟨p, _, 0, .int z, rfl, rfl, s.seq hp, atI_nat (j := 0) rfl, _, rfl, .inl ⟨_, _, rfl, rfl, k _ s⟩⟩⟩⟩
def sp_law_lifted (K : PySem.W.Frag) (n : Nat) : Sp := fun vs H Q _ => ∃ v m T, vs = [v, .int m] ∧ TrAt K H v T ∧ T.dp ≤ n ∧ ∀ u H', Same H H' → TrAt K H' u (T.lift m) → Q u H'
def t_law_lifted (K : PySem.W.Frag) (n : Nat) : TS :=
  (tSeq (tAsg (tVar 0) (gTup K 3 (gCons (gName 2) (gCons (gName 3) (gCons (gName 4) gNil)))))
    (tSeq (tIfS (tTest (tOp (rEqU K) (tVar 2) (tC (.str "at")))) (tRet (tTup (tCons (tC (.str "at")) (tCons (tOp (rAddU K) (tCB (rMax2) (tCons (tVar 3) (tCons (tVar 4) tNil))) (tVar 1)) (tCons (tVar 4) tNil))))) tNext)
    (tRet (tTup (tCons (tVar 2) (tCons (tCall (sp_law_lifted K n) [] E0 (tCons (tVar 3) (tCons (tVar 1) tNil))) (tCons (tCall (sp_law_lifted K n) [] E0 (tCons (tVar 4) (tCons (tVar 1) tNil))) tNil)))))))
theorem no_law_lifted (h : sp_law_lifted K 0 vs H Q E) : False := by
  obtain ⟨_, _, T, _, _, h, _⟩ := h
  have := T.dp_pos
  omega
theorem ln_law_lifted (h : sp_law_lifted K n vs H Q E) : vs.length = 2 := by obtain ⟨_, _, _, rfl, _⟩ := h; rfl
theorem rd_law_lifted (h : sp_law_lifted K (n + 1) vs H Q E) : t_law_lifted K n (EndsOf Q) (start ["", "", "", "", ""] vs) H := by
  obtain ⟨v, m, T, rfl, hT, hd, k⟩ := h
  obtain ⟨a, w, x, y, rfl, s, cw⟩ := hT.tuple
  refine ⟨_, rfl, g3 s ?_⟩
  have two : ∀ {A B : Tr}, (w = "or" ∧ T = .or A B ∨ w = "and" ∧ T = .and A B) → TrAt K H x A → TrAt K H y B →
      tRet (tTup (tCons (tVar 2) (tCons (tCall (sp_law_lifted K n) [] E0 (tCons (tVar 3) (tCons (tVar 1) tNil))) (tCons (tCall (sp_law_lifted K n) [] E0 (tCons (tVar 4) (tCons (tVar 1) tNil))) tNil)))) (EndsOf Q) [some (.ref a), some (.int m), some (.str w), some x, some y] H := by
    intro A B c hA hB
    have hd' : max A.dp B.dp + 1 ≤ n + 1 := by
      rcases c with ⟨_, rfl⟩ | ⟨_, rfl⟩ <;> exact hd
    refine ⟨_, rfl, _, rfl, _, rfl, x, m, A, rfl, hA, by omega, fun u G1 s1 h1 => ?_⟩
    refine ⟨_, rfl, _, rfl, y, m, B, rfl, hB.mono (Tups.same s1), by omega, fun z G2 s2 h2 => ?_⟩
    refine ⟨two_fit.2.2.1, fun p hp => ?_⟩
    have s3 := same_new (o := .tup [.str w, u, z]) hp
    have h1 := (h1.mono (Tups.same s2)).mono (Tups.same s3)
    have h2 := h2.mono (Tups.same s3)
    have s := (s1.trans s2).trans s3
    rcases c with ⟨rfl, rfl⟩ | ⟨rfl, rfl⟩
    · exact k _ _ s ⟨p, u, z, rfl, SqT.of upd_same, h1, h2⟩
    · exact k _ _ s ⟨p, u, z, rfl, SqT.of upd_same, h1, h2⟩
  refine ⟨_, rfl, .inl ⟨rfl, _, rfl, ?_⟩⟩
  rcases cw with ⟨rfl, t, q, rfl, rfl, rfl⟩ | ⟨rfl, A, B, rfl, hA, hB⟩ | ⟨rfl, A, B, rfl, hA, hB⟩
  · refine ifS (fun _ => ?_) (fun z => absurd rfl z)
    refine ⟨_, rfl, _, rfl, _, _, rfl, _, rfl, .inl ⟨_, _, rfl, rfl, _, rfl, two_fit.2.2.1, fun p hp => ?_⟩⟩
    exact k _ _ (same_new hp) ⟨p, rfl, SqT.of upd_same⟩
  · exact ifS (fun z => absurd z or_at) fun _ => two (.inl ⟨rfl, rfl⟩) hA hB
  · exact ifS (fun z => absurd z and_at) fun _ => two (.inr ⟨rfl, rfl⟩) hA hB
/-- the sixty amounts from each one on -/
def rngs (L : List Int) : List Int := (L.map fun t => (List.range 60).map fun i => t + ((i : Nat) : Int)).flatten
theorem rngs_mem {L : List Int} {k : Int} : k ∈ rngs L ↔ ∃ t ∈ L, t ≤ k ∧ k < t + 60 := by
  unfold rngs
  rw [List.mem_flatten]
  constructor
  · rintro ⟨l, hl, hk⟩
    obtain ⟨t, ht, rfl⟩ := List.mem_map.mp hl
    obtain ⟨i, hi, rfl⟩ := List.mem_map.mp hk
    have := List.mem_range.mp hi
    exact ⟨t, ht, by omega, by omega⟩
  · rintro ⟨t, ht, l1, l2⟩
    exact ⟨_, List.mem_map.mpr ⟨t, ht, rfl⟩, List.mem_map.mpr ⟨(k - t).toNat, List.mem_range.mpr (by omega), by omega⟩⟩
theorem rngs_len : ∀ (L : List Int), (rngs L).length = 60 * L.length
  | [] => rfl
  | t :: L => by
    have e : rngs (t :: L) = ((List.range 60).map fun i => t + ((i : Nat) : Int)) ++ rngs L := rfl
    rw [e, List.length_append, rngs_len L, List.length_map, List.length_range, List.length_cons]
    omega
theorem rngs_snoc {L : List Int} {t : Int} : rngs (L ++ [t]) = rngs L ++ (List.range 60).map fun i => t + ((i : Nat) : Int) := by
  unfold rngs
  rw [List.map_append, List.flatten_append]
  simp
/-- a list of the items of which something holds, out of triples -/
theorem far_filter {rest : TS} {De : Ends} {m : Nat} {tt : TT} {P : Int → Bool} {f g : Int → Int} {a0 a1 a2 s4 s5 s6 : Option V} {p : Addr} {ts : List Addr} {ns : List Int}
    (ht : ∀ G k c, c = [a0, a1, a2, some (.ref p), s4, s5, s6, some (.int k), some (.int (f k)), some (.int (g k)), none, none] → ∀ Q : Bool → Hp → Prop, Q (P k) G → tt c G Q) (hp : H p = some (.lst (ts.map V.ref))) (len : ts.length = ns.length) (few : ns.length ≤ 1000)
    (hts : ∀ (j : Nat) t k, ts[j]? = some t → ns[j]? = some k → H t = some (.tup [.int k, .int (f k), .int (g k)]))
    (k : ∀ D H', Same H H' → H D = none → H' D = some (.lst ((ns.filter P).map V.int)) → rest De (([a0, a1, a2, some (.ref p), s4, s5, s6, none, none, none, none, none] : L2.St).set m (some (.ref D))) H') :
    tSeq (tAsg (tLc (iList K (tVar 3)) (gTup K 3 (gCons (gName 7) (gCons (gName 8) (gCons (gName 9) gNil)))) tt (tVar 7) [7, 8, 9]) (gName m)) rest De [a0, a1, a2, some (.ref p), s4, s5, s6, none, none, none, none, none] H := by
  refine ⟨_, rfl, p, rfl, ⟨_, SqL.of hp⟩, fun D hD => ?_⟩
  refine lc_list (K := K) (a := p) (xs := ts.map V.ref) (fun i G => Same H G ∧ G D = some (.lst (((ns.take i).filter P).map V.int))) ⟨same_new hD, upd_same⟩ (fun i G _ s => s.1.seq (SqL.of hp)) ?_ ?_
  · rintro i x G hx ⟨s, hz⟩
    obtain ⟨lt, ex⟩ := List.getElem?_eq_some_iff.mp hx
    rw [List.length_map] at lt
    rw [List.getElem_map] at ex
    subst ex
    have lt' : i < ns.length := by omega
    have h3 := s _ _ (hts i ts[i] ns[i] (List.getElem?_eq_getElem lt) (List.getElem?_eq_getElem lt'))
    refine g3 (SqT.of h3) ⟨rfl, ?_⟩
    refine ht G ns[i] _ rfl _ ?_
    rw [List.take_succ_eq_append_getElem lt', List.filter_append]
    cases e : P ns[i] with
    | true =>
      refine iteT' rfl ⟨_, rfl, _, hz, small1000 ?_, fun c o q => ?_, ?_⟩
      · rw [List.length_map]
        have := List.length_filter_le P (ns.take i)
        rw [List.length_take] at this
        omega
      · rw [upd_ne (ne_of_none q hD)]
        exact s c o q
      · rw [upd_same, List.map_append]
        simp [e]
    | false =>
      refine iteF' rfl ⟨s, ?_⟩
      rw [hz]
      simp [e]
  · rintro G ⟨s, hz⟩
    rw [List.length_map, len, List.take_length] at hz
    exact k D G s hD hz
theorem sub_len : ∀ {ns ms : List Int}, ns.Pairwise (· ≠ ·) → (∀ k, k ∈ ns → k ∈ ms) → ns.length ≤ ms.length
  | [], _, _, _ => Nat.zero_le _
  | n :: ns, ms, h, s => by
    obtain ⟨h1, h2⟩ := List.pairwise_cons.mp h
    have m := s n List.mem_cons_self
    have := sub_len (ms := ms.erase n) h2 fun k hk => (List.mem_erase_of_ne (Ne.symm (h1 k hk))).mpr (s k (List.mem_cons_of_mem _ hk))
    rw [List.length_erase_of_mem m] at this
    have := List.length_pos_of_mem m
    rw [List.length_cons]
    omega
/-- a small number, or None -/
def SmallV (v : V) : Prop := v = .non ∨ ∃ k : Int, v = .int k ∧ k.natAbs ≤ 10 ^ 100
def sp_law_far_due (K : PySem.W.Frag) : Sp := fun vs H Q _ => ∃ u v A B, vs = [u, v] ∧ TrAt K H u A ∧ TrAt K H v B ∧ A.ok ∧ B.ok ∧ A.lv ≤ 6 ∧ B.lv ≤ 6 ∧
  ∀ p x y z H', Same H H' → H' p = some (.lst [x, x, y, z]) → FstV (A.Un B) x → FstV (A.Ov B) y → FstV (B.Ov A) z → SmallV x → SmallV y → SmallV z → Q (.ref p) H'
def t_law_far_due (K : PySem.W.Frag) (w : World) : TS :=
  (tSeq (tAsg (tCB (rSortedSetI w) (tCons (tCB (PkB.rSetL w K) (tCons (tCB (PkB.rSumL K) (tCons (tLc (iList K (tOp (rAddU K) (tCall (sp_law_bounds K 7) [] E0 (tCons (tVar 0) tNil)) (tCall (sp_law_bounds K 7) [] E0 (tCons (tVar 1) tNil)))) (gName 11) tYes (tCB PkB.rListRng (tCons (tCB PkB.rRange2 (tCons (tVar 11) (tCons (tOp (rAddU K) (tVar 11) (tC (.int 60))) tNil))) tNil)) [11]) (tCons (tLst tNil) tNil))) tNil)) tNil)) (gName 2))
    (tSeq (tAsg (tLc (iList K (tVar 2)) (gName 7) tYes (tTup (tCons (tVar 7) (tCons (tCall (sp_law_give K 7) [] E0 (tCons (tVar 0) (tCons (tVar 7) tNil))) (tCons (tCall (sp_law_give K 7) [] E0 (tCons (tVar 1) (tCons (tVar 7) tNil))) tNil)))) [7]) (gName 3))
    (tSeq (tAsg (tLc (iList K (tVar 3)) (gTup K 3 (gCons (gName 7) (gCons (gName 8) (gCons (gName 9) gNil)))) (tTest (tOp (rNeU K) (tVar 8) (tVar 9))) (tVar 7) [7, 8, 9]) (gName 4))
    (tSeq (tAsg (tLc (iList K (tVar 3)) (gTup K 3 (gCons (gName 7) (gCons (gName 8) (gCons (gName 9) gNil)))) (tTest (tOp (rGtI) (tVar 8) (tVar 9))) (tVar 7) [7, 8, 9]) (gName 5))
    (tSeq (tAsg (tLc (iList K (tVar 3)) (gTup K 3 (gCons (gName 7) (gCons (gName 8) (gCons (gName 9) gNil)))) (tTest (tOp (rLtI) (tVar 8) (tVar 9))) (tVar 7) [7, 8, 9]) (gName 6))
    (tRet (tLc (iTup K (tTup (tCons (tVar 4) (tCons (tVar 4) (tCons (tVar 5) (tCons (tVar 6) tNil)))))) (gName 10) tYes (tCall (sp_law_least K) [] E0 (tCons (tVar 10) (tCons (tC (.int 0)) tNil))) [10])))))))
theorem ln_law_far_due (h : sp_law_far_due K vs H Q E) : vs.length = 2 := by obtain ⟨_, _, _, _, rfl, _⟩ := h; rfl
theorem rd_law_far_due (h : sp_law_far_due K vs H Q E) : t_law_far_due K w (EndsOf Q) (start ["", "", "", "", "", "", "", "", "", "", "", ""] vs) H := by
  obtain ⟨u, v, A, B, rfl, hA, hB, oA, oB, lA, lB, k⟩ := h
  -- the ranges
  refine ⟨_, rfl, u, A, rfl, hA, Tr.dp6 lA, by omega, fun p1 H1 hp1 s1 h1 => ?_⟩
  refine ⟨_, rfl, v, B, rfl, hB.mono (Tups.same s1), Tr.dp6 lB, by omega, fun p2 H2 hp2 s2 h2 => ?_⟩
  refine .inr (.inr (.inl ⟨p1, p2, _, _, rfl, rfl, s2 _ _ h1, h2, ?_, fun r hr => ?_⟩))
  · rw [List.length_map, List.length_map, A.tops_len, B.tops_len]
    exact Nat.le_of_lt (small1000 (by omega))
  rw [← List.map_append]
  have lL : (A.tops ++ B.tops).length = A.lv + B.lv := by rw [List.length_append, A.tops_len, B.tops_len]
  have pL : ∀ i ∈ A.tops ++ B.tops, 1 ≤ i ∧ i ≤ 10 ^ 50 := fun i hi => (List.mem_append.mp hi).elim (Tr.tops_ok oA i) (Tr.tops_ok oB i)
  have posA := A.lv_pos
  have near : ∀ {X Y : Tr}, X.ok → Y.ok → (∀ s, s ∈ X.tops ++ Y.tops → s ∈ A.tops ++ B.tops) → ∀ a, 0 ≤ a → X.Ov Y a → ∃ i, i ∈ rngs (A.tops ++ B.tops) ∧ i ≤ a ∧ X.Ov Y i := fun oX oY sub a a0 ha => by
    obtain ⟨s, i, hs, l1, l2, i0, ia, hi⟩ := Tr.near_top oX oY a0 ha
    exact ⟨i, rngs_mem.mpr ⟨s, sub s hs, l1, l2⟩, ia, hi⟩
  have nearA := near oA oB fun s hs => hs
  have nearB := near oB oA fun s hs => List.mem_append.mpr (List.mem_append.mp hs).symm
  clear near
  have sr := (s1.trans s2).trans (same_new (o := .lst ((A.tops ++ B.tops).map V.int)) hr)
  have hr2 : upd H2 r (.lst ((A.tops ++ B.tops).map V.int)) r = some (.lst ((A.tops ++ B.tops).map V.int)) := upd_same
  generalize A.tops ++ B.tops = L at lL pL nearA nearB sr hr2 ⊢
  generalize upd H2 r (.lst (L.map V.int)) = G0 at sr hr2 ⊢
  refine ⟨r, rfl, ⟨_, SqL.of hr2⟩, fun D hD => ?_⟩
  refine lc_list (K := K) (a := r) (xs := L.map V.int) (fun i G => Same G0 G ∧ ∃ (as : List Addr) (f : Addr → List V), G D = some (.lst (as.map V.ref)) ∧ as.length = i ∧ (∀ a ∈ as, a ≠ D ∧ G a = some (.lst (f a))) ∧ (as.map f).flatten = (rngs (L.take i)).map V.int)
    ⟨same_new hD, [], fun _ => [], upd_same, rfl, (fun a ha => nomatch ha), rfl⟩ (fun i G _ s => s.1.seq (SqL.of hr2)) ?_ ?_
  · rintro i x G hx ⟨s, as, f, hz, la, ha, fl⟩
    obtain ⟨lt, ex⟩ := List.getElem?_eq_some_iff.mp hx
    rw [List.length_map] at lt
    rw [List.getElem_map] at ex
    subst ex
    refine ⟨rfl, ?_⟩
    refine ⟨_, rfl, _, rfl, .inl ⟨_, _, rfl, rfl, _, _, rfl, fun q hq => ?_⟩⟩
    refine ⟨q, L[i], 60, rfl, upd_same, by decide, fun l hl => ?_⟩
    have nD : D ≠ q := ne_of_none hz hq
    have sq := same_new (o := .rng L[i] (L[i] + 60)) hq
    have sl := sq.trans (same_new (o := .lst ((List.range 60).map fun j => V.int (L[i] + ((j : Nat) : Int)))) hl)
    have new : ∀ a ∈ as, a ≠ l := fun a m => ne_of_none (sq _ _ (ha a m).2) hl
    refine ⟨_, sl _ _ hz, small1000 (by rw [List.length_map]; omega), fun c o e => ?_, as ++ [l], fun a => if a = l then (List.range 60).map fun j => V.int (L[i] + ((j : Nat) : Int)) else f a, ?_, by rw [List.length_append, la]; rfl, fun a m => ?_, ?_⟩
    · rw [upd_ne (ne_of_none e hD)]
      exact sl _ _ (s _ _ e)
    · rw [upd_same, List.map_append]
      rfl
    · have ne : a ≠ D := by
        rcases List.mem_append.mp m with m | m
        · exact (ha a m).1
        · rw [List.mem_singleton.mp m]
          exact Ne.symm (ne_of_none (sq _ _ hz) hl)
      refine ⟨ne, ?_⟩
      rw [upd_ne ne]
      dsimp only
      rcases List.mem_append.mp m with m | m
      · rw [if_neg (new a m)]
        exact sl _ _ (ha a m).2
      · rw [List.mem_singleton.mp m, if_pos rfl]
        exact upd_same
    · rw [List.map_append, List.flatten_append, List.take_succ_eq_append_getElem lt, rngs_snoc, List.map_append, ← fl]
      congr 1
      · exact congrArg List.flatten (List.map_congr_left fun a m => if_neg (new a m))
      · simp
  rintro G1 ⟨s1', as, f, hz, la, ha, fl⟩
  rw [List.length_map] at la
  rw [List.length_map, List.take_length] at fl
  -- the sum, the set, sorted
  refine ⟨Nat.zero_le _, fun q hq => ⟨D, q, as, f, [], rfl, SqL.of (same_new hq _ _ hz), ?_, fun a m => same_new hq _ _ (ha a m).2, upd_same, ?_, fun l hl => ?_⟩⟩
  · intro z
    rw [z] at la
    have := la.symm
    simp only [List.length_nil] at this
    omega
  · rw [fl, List.length_map, rngs_len, List.length_nil]
    exact Nat.le_of_lt (small1000 (show 0 + 60 * L.length ≤ 1000 by omega))
  rw [List.nil_append, fl]
  refine ⟨l, rngs L, rfl, SqL.of upd_same, by rw [rngs_len]; show _ + 1 < 4096; omega, fun S c hS => ?_⟩
  refine ⟨S, _, c, rfl, upd_same, fun ns p up hk hp => ?_⟩
  have sS := ((((same_new (o := .lst []) hq).trans (same_new (o := .lst ((rngs L).map V.int)) hl)).trans (same_new (o := SetO w S (fun j => decide (j ∈ rngs L)) c) hS)).trans (same_new (o := .lst (ns.map V.int)) hp))
  have sH := (sr.trans s1').trans sS
  have hp4 : (upd (upd (upd (upd G1 q (.lst [])) l (.lst ((rngs L).map V.int))) S (SetO w S (fun j => decide (j ∈ rngs L)) c)) p (.lst (ns.map V.int))) p = some (.lst (ns.map V.int)) := upd_same
  have hk : ∀ k, k ∈ ns ↔ k ∈ rngs L := fun k => by rw [hk k, decide_eq_true_eq]
  have few : ns.length ≤ 1000 := by
    have := sub_len (up.imp fun h => Int.ne_of_lt h) fun k m => (hk k).mp m
    rw [rngs_len] at this
    omega
  have hm : ∀ i ∈ ns, 0 ≤ i ∧ i.natAbs ≤ 10 ^ 100 := fun i m => by
    obtain ⟨t, ht, l1, l2⟩ := rngs_mem.mp ((hk i).mp m)
    have := pL t ht
    omega
  have nearA : ∀ a, 0 ≤ a → A.Ov B a → ∃ i ∈ ns, i ≤ a ∧ A.Ov B i := fun a a0 ha => by
    obtain ⟨i, hi, ia, oi⟩ := nearA a a0 ha
    exact ⟨i, (hk i).mpr hi, ia, oi⟩
  have nearB : ∀ a, 0 ≤ a → B.Ov A a → ∃ i ∈ ns, i ≤ a ∧ B.Ov A i := fun a a0 ha => by
    obtain ⟨i, hi, ia, oi⟩ := nearB a a0 ha
    exact ⟨i, (hk i).mpr hi, ia, oi⟩
  have nearU : ∀ a, 0 ≤ a → A.Un B a → ∃ i ∈ ns, i ≤ a ∧ A.Un B i := fun a a0 ha => by
    rcases Tr.un_ov.mp ha with z | z
    · obtain ⟨i, hi, ia, oi⟩ := nearA a a0 z
      exact ⟨i, hi, ia, Tr.un_ov.mpr (.inl oi)⟩
    · obtain ⟨i, hi, ia, oi⟩ := nearB a a0 z
      exact ⟨i, hi, ia, Tr.un_ov.mpr (.inr oi)⟩
  have fU : FstV (A.Un B) (firstV (ns.filter fun k => decide (A.Un B k)) 0) := FstV.of_list up (fun i m => (hm i m).1) nearU (Int.le_refl 0) (fun k a b => absurd b (by omega)) fun j _ => by rw [Int.add_zero]
  have fO : FstV (A.Ov B) (firstV (ns.filter fun k => decide (A.Ov B k)) 0) := FstV.of_list up (fun i m => (hm i m).1) nearA (Int.le_refl 0) (fun k a b => absurd b (by omega)) fun j _ => by rw [Int.add_zero]
  have fV : FstV (B.Ov A) (firstV (ns.filter fun k => decide (B.Ov A k)) 0) := FstV.of_list up (fun i m => (hm i m).1) nearB (Int.le_refl 0) (fun k a b => absurd b (by omega)) fun j _ => by rw [Int.add_zero]
  have small : ∀ P : Int → Bool, (ns.filter P).length ≤ 1000 ∧ (∀ z ∈ ns.filter P, z.natAbs ≤ 10 ^ 100) ∧ SmallV (firstV (ns.filter P) 0) := fun P => by
    have b : ∀ z ∈ ns.filter P, z.natAbs ≤ 10 ^ 100 := fun z m => (hm z (List.mem_filter.mp m).1).2
    refine ⟨Nat.le_trans (List.length_filter_le _ _) few, b, ?_⟩
    rcases firstV_mem (zs := ns.filter P) (m := 0) with e | ⟨z, m, e⟩
    · exact .inl e
    · exact .inr ⟨z, by rw [e, Int.add_zero], b z m⟩
  clear nearA nearB nearU hm hk pL lL
  generalize (upd (upd (upd (upd G1 q (.lst [])) l (.lst ((rngs L).map V.int))) S (SetO w S (fun j => decide (j ∈ rngs L)) c)) p (.lst (ns.map V.int))) = G2 at sH hp4 ⊢
  clear sr hr2 hD hz ha fl hq hl hS hp sS s1' la
  -- the triples
  refine ⟨_, rfl, p, rfl, ⟨_, SqL.of hp4⟩, fun D2 hD2 => ?_⟩
  refine lc_list (K := K) (a := p) (xs := ns.map V.int) (fun i G => Same G2 G ∧ ∃ ts : List Addr, G D2 = some (.lst (ts.map V.ref)) ∧ ts.length = i ∧ ∀ (j : Nat) t k, ts[j]? = some t → ns[j]? = some k → t ≠ D2 ∧ G t = some (.tup [.int k, .int (A.give k), .int (B.give k)]))
    ⟨same_new hD2, [], upd_same, rfl, fun j t k e => nomatch e⟩ (fun i G _ s => s.1.seq (SqL.of hp4)) ?_ ?_
  · rintro i x G hx ⟨s, ts, hz, lt', ht⟩
    obtain ⟨lt, ex⟩ := List.getElem?_eq_some_iff.mp hx
    rw [List.length_map] at lt
    rw [List.getElem_map] at ex
    subst ex
    refine ⟨rfl, ?_⟩
    refine ⟨_, rfl, _, rfl, _, rfl, u, A, ns[i], rfl, hA.mono (Tups.same (sH.trans s)), oA, Tr.dp6 lA, fun Ga ga => ?_⟩
    refine ⟨_, rfl, _, rfl, v, B, ns[i], rfl, hB.mono (Tups.same ((sH.trans s).trans ga)), oB, Tr.dp6 lB, fun Gb gb => ⟨two_fit.2.2.1, fun t1 ht1 => ?_⟩⟩
    have g := (ga.trans gb).trans (same_new (o := .tup [.int ns[i], .int (A.give ns[i]), .int (B.give ns[i])]) ht1)
    have n1 : D2 ≠ t1 := ne_of_none ((ga.trans gb) _ _ hz) ht1
    refine ⟨_, g _ _ hz, small1000 (by rw [List.length_map]; omega), fun c o e => ?_, ts ++ [t1], ?_, by rw [List.length_append, lt']; rfl, fun j t k e1 e2 => ?_⟩
    · rw [upd_ne (ne_of_none e hD2)]
      exact g _ _ (s _ _ e)
    · rw [upd_same, List.map_append]
      rfl
    · by_cases c : j < ts.length
      · rw [List.getElem?_append_left c] at e1
        obtain ⟨a1, a2⟩ := ht j t k e1 e2
        exact ⟨a1, by rw [upd_ne a1]; exact g _ _ a2⟩
      · have ej : j = ts.length := by
          have := (List.getElem?_eq_some_iff.mp e1).1
          rw [List.length_append] at this
          have : j < ts.length + 1 := this
          omega
        subst ej
        rw [List.getElem?_append_right (Nat.le_refl _), Nat.sub_self] at e1
        cases e1
        rw [lt', List.getElem?_eq_getElem lt] at e2
        cases e2
        exact ⟨Ne.symm n1, by rw [upd_ne (Ne.symm n1)]; exact upd_same⟩
  rintro G3 ⟨s3, ts, hz, lt', ht⟩
  rw [List.length_map] at lt'
  have ht := fun j t k e1 e2 => (ht j t k e1 e2).2
  have sH3 := sH.trans s3
  clear sH s3 hp4 hD2
  -- where they are unlike, above, under
  dsimp only [gName]
  show tSeq (tAsg _ (gName 4)) _ (EndsOf Q) [some u, some v, some (.ref p), some (.ref D2), none, none, none, none, none, none, none, none] G3
  refine far_filter (K := K) (tt := tTest (tOp (rNeU K) (tVar 8) (tVar 9))) (P := fun k => decide (A.Un B k)) (f := A.give) (g := B.give) (fun G k c e Q q => by
    subst e
    exact ⟨_, rfl, _, rfl, .inl ⟨rfl, _, rfl, by
      have : (!decide (V.int (A.give k) = V.int (B.give k))) = decide (A.Un B k) := by
        by_cases e : A.give k = B.give k
        · rw [decide_eq_true (congrArg V.int e), decide_eq_false fun z : A.Un B k => z e]
          rfl
        · rw [decide_eq_false fun z => e (V.int.inj z), decide_eq_true (show A.Un B k from e)]
          rfl
      rw [← this] at q
      exact q⟩⟩) hz lt' few ht fun D4 G4 s4 n4 h4 => ?_
  have ht4 := fun j t k e1 e2 => s4 _ _ (ht j t k e1 e2)
  have hz4 := s4 _ _ hz
  show tSeq (tAsg _ (gName 5)) _ (EndsOf Q) [some u, some v, some (.ref p), some (.ref D2), some (.ref D4), none, none, none, none, none, none, none] G4
  refine far_filter (K := K) (tt := tTest (tOp rGtI (tVar 8) (tVar 9))) (P := fun k => decide (A.Ov B k)) (f := A.give) (g := B.give) (fun G k c e Q q => by
    subst e
    exact ⟨_, rfl, _, rfl, _, _, rfl, rfl, _, rfl, q⟩) hz4 lt' few ht4 fun D5 G5 s5 n5 h5 => ?_
  have ht5 := fun j t k e1 e2 => s5 _ _ (ht4 j t k e1 e2)
  have hz5 := s5 _ _ hz4
  have h4 := s5 _ _ h4
  show tSeq (tAsg _ (gName 6)) _ (EndsOf Q) [some u, some v, some (.ref p), some (.ref D2), some (.ref D4), some (.ref D5), none, none, none, none, none, none] G5
  refine far_filter (K := K) (tt := tTest (tOp rLtI (tVar 8) (tVar 9))) (P := fun k => decide (B.Ov A k)) (f := A.give) (g := B.give) (fun G k c e Q q => by
    subst e
    exact ⟨_, rfl, _, rfl, _, _, rfl, rfl, _, rfl, q⟩) hz5 lt' few ht5 fun D6 G6 s6 n6 h6 => ?_
  have h4 := s6 _ _ h4
  have h5 := s6 _ _ h5
  have sH6 := ((sH3.trans s4).trans s5).trans s6
  clear hz hz4 hz5 ht ht4 ht5 sH3 s4 s5 s6 n4 n5 n6 lt' hA hB h1 h2 hp1 hp2 s1 s2
  have sm1 := small fun k => decide (A.Un B k)
  have sm2 := small fun k => decide (A.Ov B k)
  have sm3 := small fun k => decide (B.Ov A k)
  clear small few up
  generalize ns.filter (fun k => decide (A.Un B k)) = z1 at fU sm1 h4
  generalize ns.filter (fun k => decide (A.Ov B k)) = z2 at fO sm2 h5
  generalize ns.filter (fun k => decide (B.Ov A k)) = z3 at fV sm3 h6
  refine ⟨_, rfl, _, rfl, _, rfl, _, rfl, two_fit.2.2.2, fun q hq => ⟨q, rfl, ⟨_, SqT.of upd_same⟩, fun D hD => ?_⟩⟩
  have sq := same_new (o := .tup [.ref D4, .ref D4, .ref D5, .ref D6]) hq
  refine lc_tup (K := K) (a := q) (xs := [.ref D4, .ref D4, .ref D5, .ref D6]) (fun i G => Same (upd G6 q (.tup [.ref D4, .ref D4, .ref D5, .ref D6])) G ∧ G D = some (.lst (([firstV z1 0, firstV z1 0, firstV z2 0, firstV z3 0] : List V).take i)))
    ⟨same_new hD, upd_same⟩ (fun i G _ s => SqT.of (s.1 _ _ upd_same)) ?_ ?_
  · rintro i x G hx ⟨s, hz⟩
    have go : ∀ (a : Addr) (zs : List Int), x = .ref a → G6 a = some (.lst (zs.map V.int)) → (zs.length ≤ 1000 ∧ (∀ z ∈ zs, z.natAbs ≤ 10 ^ 100) ∧ SmallV (firstV zs 0)) → ([firstV z1 0, firstV z1 0, firstV z2 0, firstV z3 0] : List V).take (i + 1) = ([firstV z1 0, firstV z1 0, firstV z2 0, firstV z3 0] : List V).take i ++ [firstV zs 0] →
        tCall (sp_law_least K) [] E0 (tCons (tVar 10) (tCons (tC (.int 0)) tNil)) [some u, some v, some (.ref p), some (.ref D2), some (.ref D4), some (.ref D5), some (.ref D6), none, none, none, some x, none] G fun y H4 => ∃ acc, H4 D = some (.lst acc) ∧ acc.length < sizeLine ∧
          Same (upd G6 q (.tup [.ref D4, .ref D4, .ref D5, .ref D6])) (upd H4 D (.lst (acc ++ [y]))) ∧ (upd H4 D (.lst (acc ++ [y]))) D = some (.lst (([firstV z1 0, firstV z1 0, firstV z2 0, firstV z3 0] : List V).take (i + 1))) := by
      intro a zs e ha sm et
      subst e
      refine ⟨_, rfl, a, 0, zs, rfl, SqL.of (s _ _ (sq _ _ ha)), sm.1, sm.2.1, fun G' g => ⟨_, g _ _ hz, small1000 ?_, fun c o e => ?_, ?_⟩⟩
      · rw [List.length_take]
        exact Nat.le_trans (Nat.min_le_right _ _) (show (4 : Nat) ≤ 1000 by decide)
      · rw [upd_ne (ne_of_none e hD)]
        exact g _ _ (s _ _ e)
      · rw [upd_same, et]
    refine ⟨rfl, ?_⟩
    rcases (by have := (List.getElem?_eq_some_iff.mp hx).1; have : i < 4 := this; omega : i = 0 ∨ i = 1 ∨ i = 2 ∨ i = 3) with rfl | rfl | rfl | rfl
    · exact go D4 z1 (Option.some.inj hx).symm h4 sm1 rfl
    · exact go D4 z1 (Option.some.inj hx).symm h4 sm1 rfl
    · exact go D5 z2 (Option.some.inj hx).symm h5 sm2 rfl
    · exact go D6 z3 (Option.some.inj hx).symm h6 sm3 rfl
  · rintro G ⟨s, hz⟩
    exact k D _ _ _ G ((sH6.trans sq).trans s) hz fU fO fV sm1.2.2 sm2.2.2 sm3.2.2
def pdV : V → PyData
  | .int k => .int k
  | _ => .none
theorem SmallV.dp {v : V} (h : SmallV v) : Dp K H v (pdV v) := by
  rcases h with rfl | ⟨k, rfl, _⟩
  · exact .non
  · exact .int k
theorem SmallV.gt {v : V} (h : SmallV v) : GoodTo 0 2000 (pdV v) := by
  rcases h with rfl | ⟨k, rfl, b⟩
  · exact gt_none.mono
  · exact gt_int b
theorem dp_small : ∀ {vs : List V}, (∀ v ∈ vs, SmallV v) → DpAll K H vs (vs.map pdV)
  | [], _ => .nil
  | v :: vs, h => .cons (h v List.mem_cons_self).dp (dp_small fun u m => h u (List.mem_cons_of_mem _ m))
theorem gt_small : ∀ {vs : List V}, (∀ v ∈ vs, SmallV v) → AllTo 0 (2004 * vs.length) (vs.map pdV)
  | [], _ => at_nil
  | v :: vs, h => by
    have q := at_cons (h v List.mem_cons_self).gt (gt_small fun u m => h u (List.mem_cons_of_mem _ m))
    refine ⟨q.lay, by have := q.dep; simpa using this, q.wr, ?_⟩
    have := q.sz
    show sizL (pdV v :: vs.map pdV) ≤ 2004 * (vs.length + 1)
    omega
/-- two lists of the same few small values -/
theorem small_two {p q : Addr} {vs : List V} (h : ∀ v ∈ vs, SmallV v) (few : vs.length ≤ 100) (hp : H p = some (.lst vs)) (hq : H q = some (.lst vs)) :
    Dp K H (.ref p) (.list (vs.map pdV)) ∧ Dp K H (.ref q) (.list (vs.map pdV)) ∧ Good (.list (vs.map pdV)) :=
  ⟨.lst (SqL.of hp) (dp_small h), .lst (SqL.of hq) (dp_small h), (gt_list (gt_small h)).good (by decide) (by omega)⟩
theorem un_swap {A B : Tr} {v : V} (h : FstV (B.Un A) v) : FstV (A.Un B) v := h.congr fun k _ => ⟨fun z => Ne.symm z, fun z => Ne.symm z⟩
theorem un_alike {A B : Tr} (oA : A.ok) (oB : B.ok) : A.alike B ↔ ∀ k, 0 ≤ k → ¬ A.Un B k :=
  ⟨fun h k k0 z => z (Tr.alike_all oA oB h k0), fun h k tk => Decidable.byContradiction fun z => h k (Tr.tells_pos oA oB tk) z⟩
theorem un_self {A : Tr} {v : V} (h : FstV (A.Un A) v) : v = .non := h.non.mpr fun k _ z => z rfl
theorem ov_self {A : Tr} {v : V} (h : FstV (A.Ov A) v) : v = .non := h.non.mpr fun k _ z => absurd (show A.give k < A.give k from z) (Int.lt_irrefl _)
/-- the four least amounts, as the program tells them -/
theorem four {i j m : Nat} {rest : TS} {De : Ends} {σ : L2.St} {u1 u2 : V} {A B : Tr} {x y z : V} (hi : σ[i]? = some (some u1)) (hj : σ[j]? = some (some u2)) (R1 : RuleAt K C H u1 A) (R2 : RuleAt K C H u2 B) (fu : FstV (A.Un B) x) (fo : FstV (A.Ov B) y) (fv : FstV (B.Ov A) z)
    (k : ∀ p H', Same H H' → H' p = some (.lst [x, x, y, z]) → rest De (σ.set m (some (.ref p))) H') :
    tSeq (tAsg (tLst (tCons (tCall (sp_apart K C) [] E0 (tCons (tVar i) (tCons (tVar j) tNil))) (tCons (tCall (sp_apart K C) [] E0 (tCons (tVar j) (tCons (tVar i) tNil))) (tCons (tCall (sp_above K C) [] E0 (tCons (tVar i) (tCons (tVar j) tNil))) (tCons (tCall (sp_above K C) [] E0 (tCons (tVar j) (tCons (tVar i) tNil))) tNil))))) (gName m)) rest De σ H := by
  refine ⟨_, hi, _, hj, u1, u2, A, B, rfl, R1, R2, fun w1 G1 g1 f1 => ?_⟩
  refine ⟨_, hj, _, hi, u2, u1, B, A, rfl, R2.same g1, R1.same g1, fun w2 G2 g2 f2 => ?_⟩
  have g := g1.trans g2
  refine ⟨_, hi, _, hj, u1, u2, A, B, rfl, R1.same g, R2.same g, fun w3 G3 g3 f3 => ?_⟩
  have g := g.trans g3
  refine ⟨_, hj, _, hi, u2, u1, B, A, rfl, R2.same g, R1.same g, fun w4 G4 g4 f4 => ?_⟩
  have g := g.trans g4
  obtain rfl := f1.one fu
  obtain rfl := (un_swap f2).one fu
  obtain rfl := f3.one fo
  obtain rfl := f4.one fv
  exact ⟨two_fit.2.2.2, fun p hp => k p _ (g.trans (same_new hp)) upd_same⟩
def sp_law_far_right (K : PySem.W.Frag) (C : Cs) : Sp := fun vs H Q _ => ∃ b l, vs = [.ref b] ∧ Bag H b l ∧ FxRule K C ∧ ∀ H', Bag H' b l → Q (.bl true) H'
def t_law_far_right (K : PySem.W.Frag) (C : Cs) : TS :=
  (tSeq (tAsg (tCB (rIntU) (tCons (tOp (rAddU K) (tC (.str "1")) (tOp (rMulU K) (tC (.str "0")) (tCall (sp_law_take K) [] E0 (tCons (tVar 0) (tCons (tC (.int 31)) tNil))))) tNil)) (gName 1))
    (tSeq (tAsg (tCall (sp_law_draw_rule K) [] E0 (tCons (tVar 0) (tCons (tC (.int 20)) (tCons (tVar 1) (tCons (tOp (rAddU K) (tC (.int 1)) (tCall (sp_law_take K) [] E0 (tCons (tVar 0) (tCons (tC (.int 3)) tNil)))) tNil))))) (gName 2))
    (tSeq (tAsg (tCall (sp_law_draw_rule K) [] E0 (tCons (tVar 0) (tCons (tC (.int 20)) (tCons (tVar 1) (tCons (tOp (rAddU K) (tC (.int 1)) (tCall (sp_law_take K) [] E0 (tCons (tVar 0) (tCons (tC (.int 3)) tNil)))) tNil))))) (gName 3))
    (Evl.tCut (tIfS (tTest (tOp (rGtI) (tCall (sp_law_take K) [] E0 (tCons (tVar 0) (tCons (tC (.int 3)) tNil))) (tC (.int 0)))) (tAsg (tTup (tCons (tOp (rIx K) (tLst (tCons (tC (.str "or")) (tCons (tC (.str "and")) tNil))) (tCall (sp_law_take K) [] E0 (tCons (tVar 0) (tCons (tC (.int 2)) tNil)))) (tCons (tVar 2) (tCons (tVar 3) tNil)))) (gName 3)) tNext)
    (tSeq (tPar3 4 5 6 (tCons (tCall (sp_law_made K C 7) [] E0 (tCons (tVar 0) (tCons (tVar 2) tNil))) (tCons (tCall (sp_law_made K C 7) [] E0 (tCons (tVar 0) (tCons (tVar 3) tNil))) (tCons (tCall (sp_law_far_due K) [] E0 (tCons (tVar 2) (tCons (tVar 3) tNil))) tNil))))
    (tSeq (tFor (iRng1 (tCons (tC (.int 2)) tNil)) (gName 7) (tSeq (tAsg (tLst (tCons (tCall (sp_apart K C) [] E0 (tCons (tVar 4) (tCons (tVar 5) tNil))) (tCons (tCall (sp_apart K C) [] E0 (tCons (tVar 5) (tCons (tVar 4) tNil))) (tCons (tCall (sp_above K C) [] E0 (tCons (tVar 4) (tCons (tVar 5) tNil))) (tCons (tCall (sp_above K C) [] E0 (tCons (tVar 5) (tCons (tVar 4) tNil))) tNil))))) (gName 8))
    (tIfS (tOr (tNot (tB (tCall (sp_law_alike K) [] E0 (tCons (tVar 8) (tCons (tVar 6) tNil))))) (tNot (tB (tCall (sp_law_alike K) [] E0 (tCons (tOp (rEqA K C.Rule (sp_RuleEq K C) E0) (tVar 4) (tVar 5)) (tCons (tOp (rIsNn) (tOp (rIx K) (tVar 6) (tC (.int 0))) (tC .non)) tNil)))))) (tRet (tC (.bl false))) tNext)))
    (tRet (tCall (sp_law_alike K) [] E0 (tCons (tLst (tCons (tCall (sp_apart K C) [] E0 (tCons (tVar 4) (tCons (tVar 4) tNil))) (tCons (tCall (sp_above K C) [] E0 (tCons (tVar 5) (tCons (tVar 5) tNil))) tNil))) (tCons (tLst (tCons (tC .non) (tCons (tC .non) tNil))) tNil))))))))))
theorem ln_law_far_right (h : sp_law_far_right K C vs H Q E) : vs.length = 1 := by obtain ⟨_, _, rfl, _⟩ := h; rfl
theorem rd_law_far_right (h : sp_law_far_right K C vs H Q E) : t_law_far_right K C (EndsOf Q) (start ["", "", "", "", "", "", "", "", ""] vs) H := by
  obtain ⟨b, l, rfl, B, fx, k⟩ := h
  refine scale_asg (i := 0) rfl B fun sc H1 sc1 sc2 B1 k1 => ?_
  refine ⟨_, rfl, _, rfl, _, rfl, b, l, 3, rfl, B1, by decide, by decide, fun c1 G1 c10 c11 B2 k2 => .inl ⟨_, _, rfl, rfl, ?_⟩⟩
  refine ⟨b, l, 20, sc, _, rfl, B2, by decide, by decide, sc1, by omega, by omega, by omega, fun v1 A G2 tA oA eA vA B3 k3 => ?_⟩
  refine ⟨_, rfl, _, rfl, _, rfl, b, l, 3, rfl, B3, by decide, by decide, fun c2 G3 c20 c21 B4 k4 => .inl ⟨_, _, rfl, rfl, ?_⟩⟩
  refine ⟨b, l, 20, sc, _, rfl, B4, by decide, by decide, sc1, by omega, by omega, by omega, fun v2 Z0 G4 tZ oZ eZ vZ B5 k5 => ?_⟩
  have tA := (tA.mono (B3.tups k4)).mono (B4.tups k5)
  have lA : A.lv ≤ 3 := by omega
  have lZ0 : Z0.lv ≤ 3 := by omega
  clear B B1 B2 B3 B4 k1 k2 k3 k4 k5 eA eZ vA vZ
  refine ⟨fun σ' G' => ∃ v2 Z, σ' = [some (.ref b), some (.int sc), some v1, some v2, none, none, none, none, none] ∧ Bag G' b l ∧ TrAt K G' v1 A ∧ TrAt K G' v2 Z ∧ Z.ok ∧ Z.lv ≤ 6, ?_, ?_⟩
  · refine ⟨_, rfl, b, l, 3, rfl, B5, by decide, by decide, fun j G5 j0 j1 B6 k6 => ⟨_, _, rfl, rfl, _, rfl, ?_⟩⟩
    have tA := tA.mono (B5.tups k6)
    have tZ := tZ.mono (B5.tups k6)
    refine ifD (fun _ => ?_) (fun _ => ⟨v2, Z0, rfl, B6, tA, tZ, oZ, by omega⟩)
    refine ⟨two_fit.2.1, fun p hp => ?_⟩
    have g1 := same_new (o := .lst [.str "or", .str "and"]) hp
    refine ⟨_, rfl, b, l, 2, rfl, B6.same g1, by decide, by decide, fun r G6 r0 r1 B7 k7 => ?_⟩
    obtain ⟨wd, hw, cj⟩ := pick2 (x := .str "or") (y := .str "and") r0 r1
    refine .inl ⟨p, _, r, wd, rfl, rfl, SqL.of (k7 p _ upd_same (B6.nb hp)), hw, ?_⟩
    refine ⟨_, rfl, _, rfl, two_fit.2.2.1, fun q hq => ?_⟩
    have g2 := same_new (o := .tup [wd, v1, v2]) hq
    have tA := ((tA.mono (Tups.same g1)).mono ((B6.same g1).tups k7)).mono (Tups.same g2)
    have tZ := ((tZ.mono (Tups.same g1)).mono ((B6.same g1).tups k7)).mono (Tups.same g2)
    rcases cj with ⟨_, rfl⟩ | ⟨_, rfl⟩
    · exact ⟨_, .or A Z0, rfl, B7.same g2, tA, ⟨q, v1, v2, rfl, SqT.of upd_same, tA, tZ⟩, ⟨oA, oZ⟩, by show A.lv + Z0.lv ≤ 6; omega⟩
    · exact ⟨_, .and A Z0, rfl, B7.same g2, tA, ⟨q, v1, v2, rfl, SqT.of upd_same, tA, tZ⟩, ⟨oA, oZ⟩, by show A.lv + Z0.lv ≤ 6; omega⟩
  clear tA tZ B5 oZ lZ0 Z0 v2
  rintro σ' G5 ⟨v2, Z, rfl, B5, tA, tZ, oZ, lZ⟩
  have lA6 : A.lv ≤ 6 := by omega
  refine ⟨_, rfl, _, rfl, b, l, v1, A, rfl, B5, tA, oA, lA6, Tr.dp6 lA6, fx, fun u1 G6 R1 B6 k6 => ?_⟩
  have tA := tA.mono (B5.tups k6)
  have tZ := tZ.mono (B5.tups k6)
  refine ⟨_, rfl, _, rfl, b, l, v2, Z, rfl, B6, tZ, oZ, lZ, Tr.dp6 lZ, fx, fun u2 G7 R2 B7 k7 => ?_⟩
  have tA := tA.mono (B6.tups k7)
  have tZ := tZ.mono (B6.tups k7)
  have R1 := R1.kpB B6 k7
  refine ⟨_, rfl, _, rfl, v1, v2, A, Z, rfl, tA, tZ, oA, oZ, lA6, lZ, fun p x y z G8 s8 hp fu fo fv sx sy sz => ⟨_, _, _, rfl, ?_⟩⟩
  have R1 := R1.same s8
  have R2 := R2.same s8
  have B8 := B7.same s8
  clear tA tZ B5 B6 B7 k6 k7 s8
  refine ⟨2, rfl, by decide, by decide, ?_⟩
  refine for_range (lo := 0) (n := 2) (fun i σ' G' => ∃ s7 s8, σ' = [some (.ref b), some (.int sc), some v1, some v2, some u1, some u2, some (.ref p), s7, s8] ∧ Same G8 G') ⟨_, _, rfl, Same.refl _⟩ ?_ ?_
  · rintro i σ' G' hi ⟨s7, s8, rfl, s⟩
    have hp' := s _ _ hp
    have R1 := R1.same s
    have R2 := R2.same s
    refine four (i := 4) (j := 5) (m := 8) rfl rfl R1 R2 fu fo fv fun pf Gf gf hf => ?_
    have hp' := gf _ _ hp'
    have R1 := R1.same gf
    have R2 := R2.same gf
    have s := s.trans gf
    have sm : ∀ v ∈ [x, x, y, z], SmallV v := fun v m => by
      simp only [List.mem_cons, List.not_mem_nil, or_false] at m
      rcases m with rfl | rfl | rfl | rfl <;> assumption
    obtain ⟨d1, d2, gd⟩ := small_two (K := K) sm (by show (4 : Nat) ≤ 100; decide) hf hp'
    refine ⟨_, rfl, _, rfl, _, _, _, rfl, d1, d2, gd, true, rfl, ?_⟩
    refine iteF' rfl ?_
    obtain ⟨a1, da1, f1, e1, h1, ty1⟩ := R1.ins
    obtain ⟨a2, da2, f2, e2, h2, ty2⟩ := R2.ins
    refine ⟨_, rfl, _, rfl, a1, da1, f1, _, e1, h1, ty2, own_first, _, _, A, rfl, R1, .inl ⟨Z, R2, fun b1 Ge ee ge => ⟨b1, rfl, ?_⟩⟩⟩
    refine ⟨_, rfl, .inl ⟨p, _, 0, x, rfl, rfl, SqL.of (ge _ _ hp'), rfl, rfl, ?_⟩⟩
    have eb : b1 = decide (x = .non) := same_bool ee (decide_eq_true_iff.trans (fu.non.trans (un_alike oA oZ).symm))
    refine ⟨_, _, .bool b1, rfl, .bl b1, by rw [← eb]; exact .bl b1, (gt_bool b1).good, true, rfl, ?_⟩
    exact iteF' rfl ⟨_, _, rfl, s.trans ge⟩
  · rintro σ' G9 ⟨s7, s8, rfl, s⟩
    have R1 := R1.same s
    have R2 := R2.same s
    have B9 := B8.same s
    refine ⟨_, rfl, _, rfl, u1, u1, A, A, rfl, R1, R1, fun w1 Ga ga f1 => ?_⟩
    refine ⟨_, rfl, _, rfl, u2, u2, Z, Z, rfl, R2.same ga, R2.same ga, fun w2 Gb gb f2 => ?_⟩
    obtain rfl := un_self f1
    obtain rfl := ov_self f2
    refine ⟨two_fit.2.1, fun p1 hp1 => ⟨two_fit.2.1, fun p2 hp2 => ?_⟩⟩
    have g1 := same_new (o := .lst [.non, .non]) hp1
    have g2 := same_new (o := .lst [.non, .non]) hp2
    obtain ⟨d1, d2, gd⟩ := small_two (K := K) (vs := [.non, .non]) (fun v m => .inl (by simpa using m)) (by show (2 : Nat) ≤ 100; decide) (g2 _ _ upd_same) upd_same
    exact ⟨_, _, _, rfl, d1, d2, gd, k _ (B9.same (((ga.trans gb).trans g1).trans g2))⟩
theorem tops_le {m : Int} (h6 : 6 ≤ m) : ∀ {T : Tr}, T.ok → T.le m → ∀ s ∈ T.tops, s ≤ m
  | .at t q, h, l, s, hs => by
    obtain ⟨h1, h2, h3, h4⟩ := h
    have l : t ≤ m := l
    have e : s = if q > t then q else t := List.mem_singleton.mp hs
    rw [e]
    split <;> omega
  | .or a b, h, l, s, hs => (List.mem_append.mp (show s ∈ a.tops ++ b.tops from hs)).elim (tops_le h6 h.1 l.1 s) (tops_le h6 h.2 l.2 s)
  | .and a b, h, l, s, hs => (List.mem_append.mp (show s ∈ a.tops ++ b.tops from hs)).elim (tops_le h6 h.1 l.1 s) (tops_le h6 h.2 l.2 s)
/-- the amounts that the law looks at -/
def to90 : List Int := (List.range 90).map fun i => ((i : Nat) : Int)
theorem to90_mem {k : Int} : k ∈ to90 ↔ 0 ≤ k ∧ k < 90 := by
  unfold to90
  rw [List.mem_map]
  constructor
  · rintro ⟨i, hi, rfl⟩
    have := List.mem_range.mp hi
    omega
  · rintro ⟨a, c⟩
    exact ⟨k.toNat, List.mem_range.mpr (by omega), by omega⟩
theorem to90_up : to90.Pairwise (· < ·) := by unfold to90; decide +kernel
theorem ov_90 {A B : Tr} (oA : A.ok) (oB : B.ok) (eA : A.le 20) (eB : B.le 20) : ∀ a, 0 ≤ a → A.Ov B a → ∃ i ∈ to90, i ≤ a ∧ A.Ov B i := fun a a0 h => by
  obtain ⟨s, i, hs, l1, l2, i0, ia, hi⟩ := Tr.near_top oA oB a0 h
  have : s ≤ 20 := (List.mem_append.mp hs).elim (tops_le (by decide) oA eA s) (tops_le (by decide) oB eB s)
  exact ⟨i, to90_mem.mpr ⟨i0, by omega⟩, ia, hi⟩
theorem un_90 {A B : Tr} (oA : A.ok) (oB : B.ok) (eA : A.le 20) (eB : B.le 20) : ∀ a, 0 ≤ a → A.Un B a → ∃ i ∈ to90, i ≤ a ∧ A.Un B i := fun a a0 h => by
  rcases Tr.un_ov.mp h with z | z
  · obtain ⟨i, hi, ia, oi⟩ := ov_90 oA oB eA eB a a0 z
    exact ⟨i, hi, ia, Tr.un_ov.mpr (.inl oi)⟩
  · obtain ⟨i, hi, ia, oi⟩ := ov_90 oB oA eB eA a a0 z
    exact ⟨i, hi, ia, Tr.un_ov.mpr (.inr oi)⟩
theorem ov_lift {A B : Tr} (oA : A.ok) (oB : B.ok) {m c j : Int} (e : m = 60 * c) (c0 : 0 ≤ c) (j0 : 0 ≤ j) : (A.lift m).Ov (B.lift m) (j + m) ↔ A.Ov B j := by
  unfold Tr.Ov
  rw [Tr.lift_give e c0 j0 oA, Tr.lift_give e c0 j0 oB]
  exact Tr.up_lt (by omega) (Tr.give_le oB j0).1 (Tr.give_le oA j0).1
theorem ov_low {A B : Tr} (oA : A.ok) (oB : B.ok) {m k : Int} (k0 : 0 ≤ k) (lt : k < m) : ¬ (A.lift m).Ov (B.lift m) k := by
  unfold Tr.Ov
  rw [Tr.lift_low k0 lt oA, Tr.lift_low k0 lt oB]
  exact Int.lt_irrefl 0
/-- the first ones, lifted -/
theorem ov_first {A B : Tr} (oA : A.ok) (oB : B.ok) (eA : A.le 20) (eB : B.le 20) {m c : Int} (e : m = 60 * c) (c0 : 0 ≤ c) : FstV ((A.lift m).Ov (B.lift m)) (firstV (to90.filter fun k => decide (A.Ov B k)) m) :=
  FstV.of_list to90_up (fun i hi => (to90_mem.mp hi).1) (ov_90 oA oB eA eB) (by omega) (fun k k0 lt => ov_low oA oB k0 lt) fun j j0 => ov_lift oA oB e c0 j0
theorem un_first {A B : Tr} (oA : A.ok) (oB : B.ok) (eA : A.le 20) (eB : B.le 20) {m c : Int} (e : m = 60 * c) (c0 : 0 ≤ c) : FstV ((A.lift m).Un (B.lift m)) (firstV (to90.filter fun k => decide (A.Un B k)) m) :=
  FstV.of_list to90_up (fun i hi => (to90_mem.mp hi).1) (un_90 oA oB eA eB) (by omega) (fun k k0 lt z => (Tr.un_ov.mp z).elim (ov_low oA oB k0 lt) (ov_low oB oA k0 lt))
    fun j j0 => Tr.un_ov.trans ((or_congr (ov_lift oA oB e c0 j0) (ov_lift oB oA e c0 j0)).trans Tr.un_ov.symm)
theorem first_small {P : Int → Bool} {m : Int} (m0 : 0 ≤ m) (m1 : m ≤ 10 ^ 40) : SmallV (firstV (to90.filter P) m) := by
  rcases firstV_mem (zs := to90.filter P) (m := m) with e | ⟨z, hz, e⟩
  · exact .inl e
  · have := to90_mem.mp (List.mem_filter.mp hz).1
    exact .inr ⟨_, e, by omega⟩
/-- the pairs of what two trees give of all amounts up to ninety -/
def Pairs (H : Hp) (p : Addr) (f g : Int → Int) : Prop := ∃ ts : List Addr, H p = some (.lst (ts.map V.ref)) ∧ ∀ j : Nat, j < 90 → ∃ t, ts[j]? = some t ∧ H t = some (.tup [.int (f j), .int (g j)])
theorem Pairs.same {p : Addr} {f g : Int → Int} (h : Pairs H p f g) (s : Same H H') : Pairs H' p f g := by
  obtain ⟨ts, e, k⟩ := h
  refine ⟨ts, s _ _ e, fun j hj => ?_⟩
  obtain ⟨t, e1, e2⟩ := k j hj
  exact ⟨t, e1, s _ _ e2⟩
/-- pairs[k][i] -/
theorem pair_at {p : Addr} {f g : Int → Int} {σ : L2.St} {k : Nat} (h : Pairs H p f g) (h5 : σ[5]? = some (some (.ref p))) (hk : σ[16]? = some (some (.int k))) (lt : k < 90) :
    (∀ Q : VK, Q (.int (f k)) H → tOp (rIx K) (tOp (rIx K) (tVar 5) (tVar 16)) (tC (.int 0)) σ H Q) ∧ (∀ Q : VK, Q (.int (g k)) H → tOp (rIx K) (tOp (rIx K) (tVar 5) (tVar 16)) (tC (.int 1)) σ H Q) := by
  obtain ⟨ts, e, h⟩ := h
  obtain ⟨t, e1, e2⟩ := h k lt
  have at_ : atI (ts.map V.ref) (k : Int) = some (.ref t) := atI_nat (by rw [List.getElem?_map, e1]; rfl)
  exact ⟨fun Q q => ⟨_, h5, _, hk, .inl ⟨p, _, _, _, rfl, rfl, SqL.of e, at_, .inr (.inl ⟨t, _, 0, _, rfl, rfl, SqT.of e2, rfl, q⟩)⟩⟩,
    fun Q q => ⟨_, h5, _, hk, .inl ⟨p, _, _, _, rfl, rfl, SqL.of e, at_, .inr (.inl ⟨t, _, 1, _, rfl, rfl, SqT.of e2, rfl, q⟩)⟩⟩⟩
/-- the amounts up to ninety of which something holds -/
theorem near_filter {rest : TS} {De : Ends} {m : Nat} {tt : TT} {P : Int → Bool} {σ : L2.St} (h16 : σ.length = 18) (h16' : σ[16]? = some none)
    (ht : ∀ G (k : Nat) c, Same H G → k < 90 → c = σ.set 16 (some (.int k)) → ∀ Q : Bool → Hp → Prop, Q (P k) G → tt c G Q)
    (k : ∀ D H', H D = none → Same H H' → H' D = some (.lst ((to90.filter P).map V.int)) → rest De (σ.set m (some (.ref D))) H') :
    tSeq (tAsg (tLc (iRng1 (tCons (tC (.int 90)) tNil)) (gName 16) tt (tVar 16) [16]) (gName m)) rest De σ H := by
  refine ⟨90, rfl, by decide, by decide, fun D hD => ?_⟩
  obtain ⟨lt16, e16⟩ := List.getElem?_eq_some_iff.mp h16'
  have wp : wipe σ [16] = σ := (congrArg (σ.set 16) e16.symm).trans (List.set_getElem_self lt16)
  refine lc_range (lo := 0) (n := 90) (fun j G => Same H G ∧ G D = some (.lst (((to90.take j).filter P).map V.int))) ⟨same_new hD, upd_same⟩ ?_ ?_
  · rintro j G hj ⟨s, hz⟩
    rw [wp]
    have e0 : ((0 : Int) + (j : Int)) = ((j : Nat) : Int) := by omega
    rw [e0]
    have lt : j < to90.length := by unfold to90; rw [List.length_map, List.length_range]; exact hj
    have ej : to90[j] = ((j : Nat) : Int) := by simp [to90]
    have w2 : wipe (σ.set 16 (some (.int (j : Int)))) [16] = σ := by
      show (σ.set 16 (some (.int (j : Int)))).set 16 none = σ
      rw [List.set_set]
      exact wp
    refine ⟨w2, ?_⟩
    refine ht G j _ s hj rfl _ ?_
    rw [List.take_succ_eq_append_getElem lt, List.filter_append, ej]
    cases e : P j with
    | true =>
      refine iteT' rfl ⟨_, List.getElem?_set_self lt16, _, hz, small1000 ?_, fun c o q => ?_, ?_⟩
      · rw [List.length_map]
        have := List.length_filter_le P (to90.take j)
        rw [List.length_take] at this
        omega
      · rw [upd_ne (ne_of_none q hD)]
        exact s c o q
      · rw [upd_same, List.map_append]
        simp [e]
    | false =>
      refine iteF' rfl ⟨s, ?_⟩
      rw [hz]
      simp [e]
  · rintro G ⟨s, hz⟩
    rw [List.take_of_length_le (by unfold to90; rw [List.length_map, List.length_range]; exact Nat.le_refl _)] at hz
    exact k D G hD s hz
/-- what stands while the law lifts -/
structure St16 (K : PySem.W.Frag) (G : Hp) (b l : Addr) (v1 v2 : V) (A Z : Tr) (p1 p2 p3 : Addr) (z1 z2 z3 : List Int) : Prop where
  bag : Bag G b l
  ta : TrAt K G v1 A
  tz : TrAt K G v2 Z
  n1 : p1 ≠ b
  n2 : p2 ≠ b
  n3 : p3 ≠ b
  h1 : G p1 = some (.lst (z1.map V.int))
  h2 : G p2 = some (.lst (z2.map V.int))
  h3 : G p3 = some (.lst (z3.map V.int))
theorem St16.step {b l : Addr} {v1 v2 : V} {A Z : Tr} {p1 p2 p3 : Addr} {z1 z2 z3 : List Int} (S : St16 K G b l v1 v2 A Z p1 p2 p3 z1 z2 z3) (B : Bag G' b l) (k : Kp b G G') : St16 K G' b l v1 v2 A Z p1 p2 p3 z1 z2 z3 :=
  ⟨B, S.ta.mono (S.bag.tups k), S.tz.mono (S.bag.tups k), S.n1, S.n2, S.n3, k _ _ S.h1 S.n1, k _ _ S.h2 S.n2, k _ _ S.h3 S.n3⟩
theorem St16.same {b l : Addr} {v1 v2 : V} {A Z : Tr} {p1 p2 p3 : Addr} {z1 z2 z3 : List Int} (S : St16 K G b l v1 v2 A Z p1 p2 p3 z1 z2 z3) (s : Same G G') : St16 K G' b l v1 v2 A Z p1 p2 p3 z1 z2 z3 := S.step (S.bag.same s) (Kp.of s)
def t_law (K : PySem.W.Frag) (C : Cs) : TS :=
  (tSeq (tAsg (tCall (sp_law_bag K) [] E0 (tCons (tVar 0) tNil)) (gName 1))
    (tSeq (tFor (iRng1 (tCons (tC (.int 2)) tNil)) (gName 2) (tSeq (tIfS (tOr (tNot (tB (tCall (sp_law_far_right K C) [] E0 (tCons (tVar 1) tNil)))) (tNot (tB (tCall (sp_law_far_right K C) [] E0 (tCons (tVar 1) tNil))))) (tRet (tC (.bl false))) tNext)
    (tSeq (tAsg (tCall (sp_law_draw_rule K) [] E0 (tCons (tVar 1) (tCons (tC (.int 20)) (tCons (tC (.int 1)) (tCons (tOp (rAddU K) (tC (.int 1)) (tCall (sp_law_take K) [] E0 (tCons (tVar 1) (tCons (tC (.int 3)) tNil)))) tNil))))) (gName 3))
    (tSeq (tAsg (tCall (sp_law_draw_rule K) [] E0 (tCons (tVar 1) (tCons (tC (.int 20)) (tCons (tC (.int 1)) (tCons (tOp (rAddU K) (tC (.int 1)) (tCall (sp_law_take K) [] E0 (tCons (tVar 1) (tCons (tC (.int 3)) tNil)))) tNil))))) (gName 4))
    (Evl.tCut (tIfS (tTest (tOp (rEqU K) (tCall (sp_law_take K) [] E0 (tCons (tVar 1) (tCons (tC (.int 2)) tNil))) (tC (.int 0)))) (tAsg (tTup (tCons (tOp (rIx K) (tLst (tCons (tC (.str "or")) (tCons (tC (.str "and")) tNil))) (tCall (sp_law_take K) [] E0 (tCons (tVar 1) (tCons (tC (.int 2)) tNil)))) (tCons (tVar 3) (tCons (tVar 4) tNil)))) (gName 4)) tNext)
    (tIfS (tTest (tOp (rLtI) (tCB (rLenU K) (tCons (tCall (sp_law_bounds K 7) [] E0 (tCons (tVar 4) tNil)) tNil)) (tC (.int 7)))) (tSeq (tAsg (tLc (iRng1 (tCons (tC (.int 90)) tNil)) (gName 15) tYes (tTup (tCons (tCall (sp_law_give K 7) [] E0 (tCons (tVar 3) (tCons (tVar 15) tNil))) (tCons (tCall (sp_law_give K 7) [] E0 (tCons (tVar 4) (tCons (tVar 15) tNil))) tNil))) [15]) (gName 5))
    (tSeq (tAsg (tLc (iRng1 (tCons (tC (.int 90)) tNil)) (gName 16) (tTest (tOp (rNeU K) (tOp (rIx K) (tOp (rIx K) (tVar 5) (tVar 16)) (tC (.int 0))) (tOp (rIx K) (tOp (rIx K) (tVar 5) (tVar 16)) (tC (.int 1))))) (tVar 16) [16]) (gName 6))
    (tSeq (tAsg (tLc (iRng1 (tCons (tC (.int 90)) tNil)) (gName 16) (tTest (tOp (rGtI) (tOp (rIx K) (tOp (rIx K) (tVar 5) (tVar 16)) (tC (.int 0))) (tOp (rIx K) (tOp (rIx K) (tVar 5) (tVar 16)) (tC (.int 1))))) (tVar 16) [16]) (gName 7))
    (tSeq (tAsg (tLc (iRng1 (tCons (tC (.int 90)) tNil)) (gName 16) (tTest (tOp (rLtI) (tOp (rIx K) (tOp (rIx K) (tVar 5) (tVar 16)) (tC (.int 0))) (tOp (rIx K) (tOp (rIx K) (tVar 5) (tVar 16)) (tC (.int 1))))) (tVar 16) [16]) (gName 8))
    (tFor (iTup K (tTup (tCons (tC (.int 0)) (tCons (tOp (rMulU K) (tC (.int 60)) (tCall (sp_law_take K) [] E0 (tCons (tVar 1) (tCons (tOp (rPowI) (tC (.int 10)) (tC (.int 30))) tNil)))) tNil)))) (gName 9) (tSeq (tPar 10 11 (tCons (tCall (sp_law_made K C 7) [] E0 (tCons (tVar 1) (tCons (tCall (sp_law_lifted K 7) [] E0 (tCons (tVar 3) (tCons (tVar 9) tNil))) tNil))) (tCons (tCall (sp_law_made K C 7) [] E0 (tCons (tVar 1) (tCons (tCall (sp_law_lifted K 7) [] E0 (tCons (tVar 4) (tCons (tVar 9) tNil))) tNil))) tNil)))
    (tSeq (tAsg (tLc (iTup K (tTup (tCons (tVar 6) (tCons (tVar 6) (tCons (tVar 7) (tCons (tVar 8) tNil)))))) (gName 17) tYes (tCall (sp_law_least K) [] E0 (tCons (tVar 17) (tCons (tVar 9) tNil))) [17]) (gName 12))
    (tFor (iRng1 (tCons (tC (.int 2)) tNil)) (gName 13) (tSeq (tAsg (tLst (tCons (tCall (sp_apart K C) [] E0 (tCons (tVar 10) (tCons (tVar 11) tNil))) (tCons (tCall (sp_apart K C) [] E0 (tCons (tVar 11) (tCons (tVar 10) tNil))) (tCons (tCall (sp_above K C) [] E0 (tCons (tVar 10) (tCons (tVar 11) tNil))) (tCons (tCall (sp_above K C) [] E0 (tCons (tVar 11) (tCons (tVar 10) tNil))) tNil))))) (gName 14))
    (tIfS (tNot (tB (tCall (sp_law_alike K) [] E0 (tCons (tVar 14) (tCons (tVar 12) tNil))))) (tRet (tC (.bl false))) tNext)))))))))) tNext))))))
    (tRet (tC (.bl true)))))
theorem rd_law (fx : FxRule K C) (h : sp_law K vs H Q E) : t_law K C (EndsOf Q) (start ["", "", "", "", "", "", "", "", "", "", "", "", "", "", "", "", "", ""] vs) H := by
  obtain ⟨a, ns, rfl, hS, _, k⟩ := h
  refine ⟨_, rfl, a, ns, rfl, hS, fun b l H1 hb hl B s1 => ?_⟩
  clear hS hb hl s1
  refine ⟨2, rfl, by decide, by decide, ?_⟩
  refine for_range (lo := 0) (n := 2) (fun i σ' G => ∃ s2 s3 s4 s5 s6 s7 s8 s9 s10 s11 s12 s13 s14, σ' = [some (.ref a), some (.ref b), s2, s3, s4, s5, s6, s7, s8, s9, s10, s11, s12, s13, s14, none, none, none] ∧ Bag G b l) ⟨_, _, _, _, _, _, _, _, _, _, _, _, _, rfl, B⟩ ?_ (fun σ' G _ => k G)
  clear B
  rintro i σ' G hi ⟨s2, s3, s4, s5, s6, s7, s8, s9, s10, s11, s12, s13, s14, rfl, B⟩
  refine ⟨_, rfl, b, l, rfl, B, fx, fun G1 B1 => ⟨true, rfl, iteF' rfl ⟨_, rfl, b, l, rfl, B1, fx, fun G2 B2 => ⟨true, rfl, iteF' rfl ?_⟩⟩⟩⟩
  clear B B1
  -- the trees
  refine ⟨_, rfl, _, rfl, b, l, 3, rfl, B2, by decide, by decide, fun c1 G3 c10 c11 B3 k3 => .inl ⟨_, _, rfl, rfl, ?_⟩⟩
  refine ⟨b, l, 20, 1, 1 + c1, rfl, B3, by decide, by decide, by decide, by decide, by omega, by omega, fun v1 A G4 tA oA eA vA B4 k4 => ?_⟩
  refine ⟨_, rfl, _, rfl, b, l, 3, rfl, B4, by decide, by decide, fun c2 G5 c20 c21 B5 k5 => .inl ⟨_, _, rfl, rfl, ?_⟩⟩
  refine ⟨b, l, 20, 1, 1 + c2, rfl, B5, by decide, by decide, by decide, by decide, by omega, by omega, fun v2 Z0 G6 tZ oZ eZ vZ B6 k6 => ?_⟩
  have tA := (tA.mono (B4.tups k5)).mono (B5.tups k6)
  have lA : A.lv ≤ 3 := by omega
  have lZ0 : Z0.lv ≤ 3 := by omega
  clear B2 B3 B4 B5 k3 k4 k5 k6 vA vZ
  refine ⟨fun σ' G' => ∃ v2 Z, σ' = [some (.ref a), some (.ref b), some (.int (0 + i)), some v1, some v2, s5, s6, s7, s8, s9, s10, s11, s12, s13, s14, none, none, none] ∧ Bag G' b l ∧ TrAt K G' v1 A ∧ TrAt K G' v2 Z ∧ Z.ok ∧ Z.le 20 ∧ Z.lv ≤ 6, ?_, ?_⟩
  · refine ⟨_, rfl, b, l, 2, rfl, B6, by decide, by decide, fun j G7 j0 j1 B7 k7 => .inl ⟨rfl, _, rfl, ?_⟩⟩
    have tA := tA.mono (B6.tups k7)
    have tZ := tZ.mono (B6.tups k7)
    refine ifI (fun _ => ?_) (fun _ => ⟨v2, Z0, rfl, B7, tA, tZ, oZ, eZ, by omega⟩)
    refine ⟨two_fit.2.1, fun p hp => ?_⟩
    have g1 := same_new (o := .lst [.str "or", .str "and"]) hp
    refine ⟨_, rfl, b, l, 2, rfl, B7.same g1, by decide, by decide, fun r G8 r0 r1 B8 k8 => ?_⟩
    obtain ⟨wd, hw, cj⟩ := pick2 (x := .str "or") (y := .str "and") r0 r1
    refine .inl ⟨p, _, r, wd, rfl, rfl, SqL.of (k8 p _ upd_same (B7.nb hp)), hw, ?_⟩
    refine ⟨_, rfl, _, rfl, two_fit.2.2.1, fun q hq => ?_⟩
    have g2 := same_new (o := .tup [wd, v1, v2]) hq
    have tA := ((tA.mono (Tups.same g1)).mono ((B7.same g1).tups k8)).mono (Tups.same g2)
    have tZ := ((tZ.mono (Tups.same g1)).mono ((B7.same g1).tups k8)).mono (Tups.same g2)
    rcases cj with ⟨_, rfl⟩ | ⟨_, rfl⟩
    · exact ⟨_, .or A Z0, rfl, B8.same g2, tA, ⟨q, v1, v2, rfl, SqT.of upd_same, tA, tZ⟩, ⟨oA, oZ⟩, ⟨eA, eZ⟩, by show A.lv + Z0.lv ≤ 6; omega⟩
    · exact ⟨_, .and A Z0, rfl, B8.same g2, tA, ⟨q, v1, v2, rfl, SqT.of upd_same, tA, tZ⟩, ⟨oA, oZ⟩, ⟨eA, eZ⟩, by show A.lv + Z0.lv ≤ 6; omega⟩
  clear tA tZ B6 oZ eZ lZ0 Z0 v2
  rintro σ' G7 ⟨v2, Z, rfl, B7, tA, tZ, oZ, eZ, lZ⟩
  have lA6 : A.lv ≤ 6 := by omega
  have eA : A.le 20 := eA
  refine ⟨_, rfl, v2, Z, rfl, tZ, Tr.dp6 lZ, by omega, fun p G8 hp s8' h8 => .inl ⟨_, _, rfl, .inl ⟨_, SqL.of h8, rfl⟩, _, _, rfl, rfl, _, rfl, ?_⟩⟩
  rw [List.length_map, Z.tops_len]
  have B8 := B7.same s8'
  have tA := tA.mono (Tups.same s8')
  have tZ := tZ.mono (Tups.same s8')
  refine ifD (fun c => ?_) (fun c => ⟨_, _, _, _, _, _, _, _, _, _, _, _, _, rfl, B8⟩)
  clear hp h8 s8' B7
  -- what both give of the amounts up to ninety
  refine ⟨90, rfl, by decide, by decide, fun D hD => ?_⟩
  refine lc_range (lo := 0) (n := 90) (fun j G' => Same G8 G' ∧ ∃ ts : List Addr, G' D = some (.lst (ts.map V.ref)) ∧ ts.length = j ∧ ∀ m : Nat, m < j → ∃ t, t ≠ D ∧ ts[m]? = some t ∧ G' t = some (.tup [.int (A.give m), .int (Z.give m)]))
    ⟨same_new hD, [], upd_same, rfl, fun m hm => absurd hm (Nat.not_lt_zero _)⟩ ?_ ?_
  · rintro j G' hj ⟨s, ts, hz, lt', ht⟩
    have e0 : ((0 : Int) + (j : Int)) = ((j : Nat) : Int) := by omega
    rw [e0]
    refine ⟨rfl, ?_⟩
    refine ⟨_, rfl, _, rfl, v1, A, _, rfl, tA.mono (Tups.same s), oA, Tr.dp6 lA6, fun Ga ga => ?_⟩
    refine ⟨_, rfl, _, rfl, v2, Z, _, rfl, tZ.mono (Tups.same (s.trans ga)), oZ, Tr.dp6 lZ, fun Gb gb => ⟨two_fit.2.1, fun t1 ht1 => ?_⟩⟩
    have g := (ga.trans gb).trans (same_new (o := .tup [.int (A.give j), .int (Z.give j)]) ht1)
    have n1 : D ≠ t1 := ne_of_none ((ga.trans gb) _ _ hz) ht1
    refine ⟨_, g _ _ hz, small1000 (by rw [List.length_map]; omega), fun c o e => ?_, ts ++ [t1], ?_, by rw [List.length_append, lt']; rfl, fun m hm => ?_⟩
    · rw [upd_ne (ne_of_none e hD)]
      exact g _ _ (s _ _ e)
    · rw [upd_same, List.map_append]
      rfl
    · by_cases cm : m < j
      · obtain ⟨t, a1, a2, a3⟩ := ht m cm
        exact ⟨t, a1, by rw [List.getElem?_append_left (by omega)]; exact a2, by rw [upd_ne a1]; exact g _ _ a3⟩
      · obtain rfl : m = j := by omega
        refine ⟨t1, Ne.symm n1, ?_, by rw [upd_ne (Ne.symm n1)]; exact upd_same⟩
        rw [← lt', List.getElem?_append_right (Nat.le_refl _), Nat.sub_self]
        rfl
  rintro G9 ⟨s9', ts, hz, lt', ht⟩
  have prs : Pairs G9 D A.give Z.give := ⟨ts, hz, fun j hj => by
    obtain ⟨t, _, a2, a3⟩ := ht j hj
    exact ⟨t, a2, a3⟩⟩
  have B9 := B8.same s9'
  have tA := tA.mono (Tups.same s9')
  have tZ := tZ.mono (Tups.same s9')
  clear ht hz lt' s9' hD B8
  dsimp only [gName]
  show tSeq (tAsg _ (gName 6)) _ _ [some (.ref a), some (.ref b), some (.int (0 + i)), some v1, some v2, some (.ref D), s6, s7, s8, s9, s10, s11, s12, s13, s14, none, none, none] G9
  refine near_filter (P := fun k => decide (A.Un Z k)) rfl rfl (fun G k c s lt e Q q => ?_) fun p1 G10 n1 s10' h1 => ?_
  · subst e
    refine (pair_at (prs.same s) rfl rfl lt).1 _ ((pair_at (prs.same s) rfl rfl lt).2 _ (.inl ⟨rfl, _, rfl, ?_⟩))
    have : (!decide (V.int (A.give k) = V.int (Z.give k))) = decide (A.Un Z k) := by
      by_cases e : A.give k = Z.give k
      · rw [decide_eq_true (congrArg V.int e), decide_eq_false fun z : A.Un Z k => z e]
        rfl
      · rw [decide_eq_false fun z => e (V.int.inj z), decide_eq_true (show A.Un Z k from e)]
        rfl
    rw [← this] at q
    exact q
  have B10 := B9.same s10'
  have tA := tA.mono (Tups.same s10')
  have tZ := tZ.mono (Tups.same s10')
  have prs := prs.same s10'
  have n1 := B9.nb n1
  clear B9 s10'
  show tSeq (tAsg _ (gName 7)) _ _ [some (.ref a), some (.ref b), some (.int (0 + i)), some v1, some v2, some (.ref D), some (.ref p1), s7, s8, s9, s10, s11, s12, s13, s14, none, none, none] G10
  refine near_filter (P := fun k => decide (A.Ov Z k)) rfl rfl (fun G k c s lt e Q q => ?_) fun p2 G11 n2 s11' h2 => ?_
  · subst e
    exact (pair_at (prs.same s) rfl rfl lt).1 _ ((pair_at (prs.same s) rfl rfl lt).2 _ ⟨_, _, rfl, rfl, _, rfl, q⟩)
  have B11 := B10.same s11'
  have tA := tA.mono (Tups.same s11')
  have tZ := tZ.mono (Tups.same s11')
  have prs := prs.same s11'
  have n2 := B10.nb n2
  have h1 := s11' _ _ h1
  clear B10 s11'
  show tSeq (tAsg _ (gName 8)) _ _ [some (.ref a), some (.ref b), some (.int (0 + i)), some v1, some v2, some (.ref D), some (.ref p1), some (.ref p2), s8, s9, s10, s11, s12, s13, s14, none, none, none] G11
  refine near_filter (P := fun k => decide (Z.Ov A k)) rfl rfl (fun G k c s lt e Q q => ?_) fun p3 G12 n3 s12' h3 => ?_
  · subst e
    exact (pair_at (prs.same s) rfl rfl lt).1 _ ((pair_at (prs.same s) rfl rfl lt).2 _ ⟨_, _, rfl, rfl, _, rfl, q⟩)
  have S : St16 K G12 b l v1 v2 A Z p1 p2 p3 (to90.filter fun k => decide (A.Un Z k)) (to90.filter fun k => decide (A.Ov Z k)) (to90.filter fun k => decide (Z.Ov A k)) :=
    ⟨B11.same s12', tA.mono (Tups.same s12'), tZ.mono (Tups.same s12'), n1, n2, B11.nb n3, s12' _ _ h1, s12' _ _ h2, h3⟩
  clear B11 s12' prs tA tZ n1 n2 n3 h1 h2 h3
  -- the liftings
  refine ⟨_, rfl, _, _, rfl, rfl, ⟨by decide, by decide, by decide⟩, b, l, _, rfl, S.bag, by decide, by decide, fun c6 G13 c60 c61 B13 k13 => .inl ⟨_, _, rfl, rfl, mul_ok (by decide) ?_, two_fit.2.1, fun q hq => ⟨q, rfl, ⟨_, SqT.of upd_same⟩, ?_⟩⟩⟩
  · have : (10 : Int) ^ ((30 : Int).toNat) = 10 ^ 30 := rfl
    omega
  have c62 : c6 ≤ 10 ^ 30 := by
    have : (10 : Int) ^ ((30 : Int).toNat) = 10 ^ 30 := rfl
    omega
  clear c61
  have S := (S.step B13 k13).same (same_new (o := .tup [.int 0, .int (60 * c6)]) hq)
  clear B13 k13
  refine for_tup (K := K) (a := q) (xs := [.int 0, .int (60 * c6)]) (fun j σ' G' => ∃ s9 s10 s11 s12 s13 s14, σ' = [some (.ref a), some (.ref b), some (.int (0 + i)), some v1, some v2, some (.ref D), some (.ref p1), some (.ref p2), some (.ref p3), s9, s10, s11, s12, s13, s14, none, none, none] ∧
    St16 K G' b l v1 v2 A Z p1 p2 p3 (to90.filter fun k => decide (A.Un Z k)) (to90.filter fun k => decide (A.Ov Z k)) (to90.filter fun k => decide (Z.Ov A k)) ∧ SqT K G' q [.int 0, .int (60 * c6)]) ⟨_, _, _, _, _, _, rfl, S, SqT.of upd_same⟩ (fun j σ' G' _ ⟨_, _, _, _, _, _, _, _, h⟩ => h) ?_
    (fun σ' G' ⟨s9, s10, s11, s12, s13, s14, e, S, _⟩ => ⟨_, _, _, _, _, _, _, _, _, _, _, _, _, e, S.bag⟩)
  clear S hq s9 s10 s11 s12 s13 s14
  rintro j xv σ' G14 hx ⟨s9, s10, s11, s12, s13, s14, rfl, S, hq⟩
  obtain ⟨m, cc, rfl, em, cc0, m1⟩ : ∃ m cc : Int, xv = .int m ∧ m = 60 * cc ∧ 0 ≤ cc ∧ m ≤ 10 ^ 40 := by
    rcases (by have := (List.getElem?_eq_some_iff.mp hx).1; have : j < 2 := this; omega : j = 0 ∨ j = 1) with rfl | rfl
    · exact ⟨0, 0, (Option.some.inj hx).symm, by omega, by omega, by decide⟩
    · exact ⟨60 * c6, c6, (Option.some.inj hx).symm, rfl, c60, by omega⟩
  clear hx
  have m0 : 0 ≤ m := by omega
  have eA3 : A.le 1000 := Tr.le_mono (by decide) eA
  have eZ3 : Z.le 1000 := Tr.le_mono (by decide) eZ
  have oA' := Tr.lift_ok m0 m1 oA eA3
  have oZ' := Tr.lift_ok m0 m1 oZ eZ3
  have lA' : (A.lift m).lv ≤ 6 := by rw [Tr.lift_lv]; exact lA6
  have lZ' : (Z.lift m).lv ≤ 6 := by rw [Tr.lift_lv]; exact lZ
  refine ⟨_, rfl, _, rfl, _, rfl, v1, m, A, rfl, S.ta, Tr.dp6 lA6, fun u1 G15 g15 t15 => ⟨b, l, u1, A.lift m, rfl, S.bag.same g15, t15, oA', lA', Tr.dp6 lA', fx, fun r1 G16 R1 B16 k16 => ?_⟩⟩
  have hq := (S.bag.tups ((Kp.of g15).trans k16)) _ _ hq
  have S := (S.same g15).step B16 k16
  refine ⟨_, rfl, _, rfl, _, rfl, v2, m, Z, rfl, S.tz, Tr.dp6 lZ, fun u2 G17 g17 t17 => ⟨b, l, u2, Z.lift m, rfl, S.bag.same g17, t17, oZ', lZ', Tr.dp6 lZ', fx, fun r2 G18 R2 B18 k18 => ⟨_, _, rfl, ?_⟩⟩⟩
  have hq := (S.bag.tups ((Kp.of g17).trans k18)) _ _ hq
  have R1 := R1.kpB S.bag ((Kp.of g17).trans k18)
  have S := (S.same g17).step B18 k18
  clear B16 B18 k16 k18 g15 g17 t15 t17
  have fu := un_first oA oZ eA eZ em cc0
  have fo := ov_first oA oZ eA eZ em cc0
  have fv := ov_first oZ oA eZ eA em cc0
  have sm : ∀ P : Int → Bool, (to90.filter P).length ≤ 1000 ∧ (∀ z ∈ to90.filter P, z.natAbs ≤ 10 ^ 100) ∧ SmallV (firstV (to90.filter P) m) := fun P => by
    refine ⟨?_, fun z hz => ?_, first_small m0 m1⟩
    · have := List.length_filter_le P to90
      have e : to90.length = 90 := by unfold to90; rw [List.length_map, List.length_range]
      omega
    · have := to90_mem.mp (List.mem_filter.mp hz).1
      omega
  have sm1 := sm fun k => decide (A.Un Z k)
  have sm2 := sm fun k => decide (A.Ov Z k)
  have sm3 := sm fun k => decide (Z.Ov A k)
  clear sm
  generalize hz1 : to90.filter (fun k => decide (A.Un Z k)) = z1 at fu sm1 S
  generalize hz2 : to90.filter (fun k => decide (A.Ov Z k)) = z2 at fo sm2 S
  generalize hz3 : to90.filter (fun k => decide (Z.Ov A k)) = z3 at fv sm3 S
  -- what is due
  refine ⟨_, rfl, _, rfl, _, rfl, _, rfl, two_fit.2.2.2, fun t ht => ⟨t, rfl, ⟨_, SqT.of upd_same⟩, fun D2 hD2 => ?_⟩⟩
  have st := same_new (o := .tup [.ref p1, .ref p1, .ref p2, .ref p3]) ht
  refine lc_tup (K := K) (a := t) (xs := [.ref p1, .ref p1, .ref p2, .ref p3]) (fun i G => Same (upd G18 t (.tup [.ref p1, .ref p1, .ref p2, .ref p3])) G ∧ G D2 = some (.lst (([firstV z1 m, firstV z1 m, firstV z2 m, firstV z3 m] : List V).take i)))
    ⟨same_new hD2, upd_same⟩ (fun i G _ s => SqT.of (s.1 _ _ upd_same)) ?_ ?_
  · rintro n x G hx ⟨s, hz⟩
    have go : ∀ (q : Addr) (zs : List Int), x = .ref q → G18 q = some (.lst (zs.map V.int)) → (zs.length ≤ 1000 ∧ (∀ z ∈ zs, z.natAbs ≤ 10 ^ 100) ∧ SmallV (firstV zs m)) → ([firstV z1 m, firstV z1 m, firstV z2 m, firstV z3 m] : List V).take (n + 1) = ([firstV z1 m, firstV z1 m, firstV z2 m, firstV z3 m] : List V).take n ++ [firstV zs m] →
        tCall (sp_law_least K) [] E0 (tCons (tVar 17) (tCons (tVar 9) tNil)) [some (.ref a), some (.ref b), some (.int (0 + i)), some v1, some v2, some (.ref D), some (.ref p1), some (.ref p2), some (.ref p3), some (.int m), some r1, some r2, s12, s13, s14, none, none, some x] G fun y H4 => ∃ acc, H4 D2 = some (.lst acc) ∧ acc.length < sizeLine ∧
          Same (upd G18 t (.tup [.ref p1, .ref p1, .ref p2, .ref p3])) (upd H4 D2 (.lst (acc ++ [y]))) ∧ (upd H4 D2 (.lst (acc ++ [y]))) D2 = some (.lst (([firstV z1 m, firstV z1 m, firstV z2 m, firstV z3 m] : List V).take (n + 1))) := by
      intro q zs e ha sm et
      subst e
      refine ⟨_, rfl, _, rfl, q, m, zs, rfl, SqL.of (s _ _ (st _ _ ha)), sm.1, sm.2.1, fun G' g => ⟨_, g _ _ hz, small1000 ?_, fun c o e => ?_, ?_⟩⟩
      · rw [List.length_take]
        exact Nat.le_trans (Nat.min_le_right _ _) (show (4 : Nat) ≤ 1000 by decide)
      · rw [upd_ne (ne_of_none e hD2)]
        exact g _ _ (s _ _ e)
      · rw [upd_same, et]
    refine ⟨rfl, ?_⟩
    rcases (by have := (List.getElem?_eq_some_iff.mp hx).1; have : n < 4 := this; omega : n = 0 ∨ n = 1 ∨ n = 2 ∨ n = 3) with rfl | rfl | rfl | rfl
    · exact go p1 z1 (Option.some.inj hx).symm S.h1 sm1 rfl
    · exact go p1 z1 (Option.some.inj hx).symm S.h1 sm1 rfl
    · exact go p2 z2 (Option.some.inj hx).symm S.h2 sm2 rfl
    · exact go p3 z3 (Option.some.inj hx).symm S.h3 sm3 rfl
  rintro G19 ⟨s19, hz⟩
  have s19 := st.trans s19
  have S := S.same s19
  have R1 := R1.same s19
  have R2 := R2.same s19
  have hq := (Tups.same (K := K) s19) _ _ hq
  have ss : ∀ v ∈ [firstV z1 m, firstV z1 m, firstV z2 m, firstV z3 m], SmallV v := fun v hv => by
    simp only [List.mem_cons, List.not_mem_nil, or_false] at hv
    rcases hv with rfl | rfl | rfl | rfl
    · exact sm1.2.2
    · exact sm1.2.2
    · exact sm2.2.2
    · exact sm3.2.2
  have hz : G19 D2 = some (.lst [firstV z1 m, firstV z1 m, firstV z2 m, firstV z3 m]) := hz
  clear sm1 sm2 sm3 st s19 ht hD2
  refine ⟨2, rfl, by decide, by decide, ?_⟩
  refine for_range (lo := 0) (n := 2) (fun n σ' G' => ∃ s13 s14, σ' = [some (.ref a), some (.ref b), some (.int (0 + i)), some v1, some v2, some (.ref D), some (.ref p1), some (.ref p2), some (.ref p3), some (.int m), some r1, some r2, some (.ref D2), s13, s14, none, none, none] ∧ Same G19 G')
    ⟨_, _, rfl, Same.refl _⟩ ?_ ?_
  · rintro n σ' G' hn ⟨s13, s14, rfl, s⟩
    refine four (i := 10) (j := 11) (m := 14) rfl rfl (R1.same s) (R2.same s) fu fo fv fun pf Gf gf hf => ?_
    obtain ⟨d1, d2, gd⟩ := small_two (K := K) ss (by show (4 : Nat) ≤ 100; decide) hf (gf _ _ (s _ _ hz))
    exact ⟨_, rfl, _, rfl, _, _, _, rfl, d1, d2, gd, true, rfl, iteF' rfl ⟨_, _, rfl, s.trans gf⟩⟩
  · rintro σ' G' ⟨s13, s14, rfl, s⟩
    have S := S.same s
    exact ⟨_, _, _, _, _, _, rfl, S, (Tups.same (K := K) s) _ _ hq⟩
end
end Pk
set_option maxHeartbeats 4000000
namespace Lw
open PySem PySem.Spec L2 PyProof.Rows Pk
def top (i : Nat) : Stmt := PySem.Challenge.pw_sharedpipe_k16_first_parting_amounts.main.body.getD i (.Pass ⟨0, 0, 0, 0⟩)
abbrev s__law_alike : Stmt := (top 33)
abbrev N__law_alike : List Str := ["_law_found", "_law_due"]
abbrev P__law_alike : List Str := ["_law_found", "_law_due"]
theorem sc__law_alike : FnScope N__law_alike P__law_alike (defScope s__law_alike) := ⟨rfl, rfl, rfl, by decide +kernel, rfl, by decide +kernel, by decide +kernel⟩
abbrev s__law_bag : Stmt := (top 31)
abbrev N__law_bag : List Str := ["_law_script", "_law_cell"]
abbrev P__law_bag : List Str := ["_law_script"]
theorem sc__law_bag : FnScope N__law_bag P__law_bag (defScope s__law_bag) := ⟨rfl, rfl, rfl, by decide +kernel, rfl, by decide +kernel, by decide +kernel⟩
abbrev s__law_bounds : Stmt := (top 38)
abbrev N__law_bounds : List Str := ["_law_tree", "_law_word", "_law_one", "_law_other"]
abbrev P__law_bounds : List Str := ["_law_tree"]
theorem sc__law_bounds : FnScope N__law_bounds P__law_bounds (defScope s__law_bounds) := ⟨rfl, rfl, rfl, by decide +kernel, rfl, by decide +kernel, by decide +kernel⟩
abbrev s__law_take : Stmt := (top 32)
abbrev N__law_take : List Str := ["_law_bag_here", "_law_many", "_law_cell", "_law_mixed", "_law_value", "_law_begin", "_law_second"]
abbrev P__law_take : List Str := ["_law_bag_here", "_law_many"]
theorem sc__law_take : FnScope N__law_take P__law_take (defScope s__law_take) := ⟨rfl, rfl, rfl, by decide +kernel, rfl, by decide +kernel, by decide +kernel⟩
abbrev s__law_draw_size : Stmt := (top 34)
abbrev N__law_draw_size : List Str := ["_law_bag_here", "_law_top", "_law_scale"]
abbrev P__law_draw_size : List Str := ["_law_bag_here", "_law_top", "_law_scale"]
theorem sc__law_draw_size : FnScope N__law_draw_size P__law_draw_size (defScope s__law_draw_size) := ⟨rfl, rfl, rfl, by decide +kernel, rfl, by decide +kernel, by decide +kernel⟩
abbrev s__law_draw_rule : Stmt := (top 36)
abbrev N__law_draw_rule : List Str := ["_law_bag_here", "_law_top", "_law_scale", "_law_many", "_law_some", "_law_at", "_law_k"]
abbrev P__law_draw_rule : List Str := ["_law_bag_here", "_law_top", "_law_scale", "_law_many"]
theorem sc__law_draw_rule : FnScope N__law_draw_rule P__law_draw_rule (defScope s__law_draw_rule) := ⟨rfl, rfl, rfl, by decide +kernel, rfl, by decide +kernel, by decide +kernel⟩
abbrev s_given : Stmt := (top 12)
abbrev N_given : List Str := ["tree", "amount", "word", "one", "other"]
abbrev P_given : List Str := ["tree", "amount"]
theorem sc_given : FnScope N_given P_given (defScope s_given) := ⟨rfl, rfl, rfl, by decide +kernel, rfl, by decide +kernel, by decide +kernel⟩
abbrev s_leaves_of : Stmt := (top 14)
abbrev N_leaves_of : List Str := ["tree", "word", "one", "other"]
abbrev P_leaves_of : List Str := ["tree"]
theorem sc_leaves_of : FnScope N_leaves_of P_leaves_of (defScope s_leaves_of) := ⟨rfl, rfl, rfl, by decide +kernel, rfl, by decide +kernel, by decide +kernel⟩
abbrev s_starts_of : Stmt := (top 15)
abbrev N_starts_of : List Str := ["tree", "_", "least"]
abbrev P_starts_of : List Str := ["tree"]
theorem sc_starts_of : FnScope N_starts_of P_starts_of (defScope s_starts_of) := ⟨rfl, rfl, rfl, by decide +kernel, rfl, by decide +kernel, by decide +kernel⟩
abbrev s_telling : Stmt := (top 16)
abbrev N_telling : List Str := ["one", "other", "starts", "start", "step"]
abbrev P_telling : List Str := ["one", "other"]
theorem sc_telling : FnScope N_telling P_telling (defScope s_telling) := ⟨rfl, rfl, rfl, by decide +kernel, rfl, by decide +kernel, by decide +kernel⟩
abbrev s_least_apart : Stmt := (top 17)
abbrev N_least_apart : List Str := ["one", "other", "amount"]
abbrev P_least_apart : List Str := ["one", "other"]
theorem sc_least_apart : FnScope N_least_apart P_least_apart (defScope s_least_apart) := ⟨rfl, rfl, rfl, by decide +kernel, rfl, by decide +kernel, by decide +kernel⟩
abbrev s_Rule___eq__ : Stmt := (inClass (top 27) 7)
abbrev N_Rule___eq__ : List Str := ["self", "other"]
abbrev P_Rule___eq__ : List Str := ["self", "other"]
theorem sc_Rule___eq__ : FnScope N_Rule___eq__ P_Rule___eq__ (defScope s_Rule___eq__) := ⟨rfl, rfl, rfl, by decide +kernel, rfl, by decide +kernel, by decide +kernel⟩
abbrev s__law_give : Stmt := (top 35)
abbrev N__law_give : List Str := ["_law_tree", "_law_amount", "_law_word", "_law_one", "_law_other", "_law_pair"]
abbrev P__law_give : List Str := ["_law_tree", "_law_amount"]
theorem sc__law_give : FnScope N__law_give P__law_give (defScope s__law_give) := ⟨rfl, rfl, rfl, by decide +kernel, rfl, by decide +kernel, by decide +kernel⟩
abbrev s__law_least : Stmt := (top 42)
abbrev N__law_least : List Str := ["_law_amounts", "_law_more"]
abbrev P__law_least : List Str := ["_law_amounts", "_law_more"]
theorem sc__law_least : FnScope N__law_least P__law_least (defScope s__law_least) := ⟨rfl, rfl, rfl, by decide +kernel, rfl, by decide +kernel, by decide +kernel⟩
abbrev s__law_far_due : Stmt := (top 40)
abbrev N__law_far_due : List Str := ["_law_first", "_law_second", "_law_amounts", "_law_pairs", "_law_unlike", "_law_over", "_law_under", "_law_amount", "_law_one", "_law_other", "_law_some", "_law_top"]
abbrev P__law_far_due : List Str := ["_law_first", "_law_second"]
theorem sc__law_far_due : FnScope N__law_far_due P__law_far_due (defScope s__law_far_due) := ⟨rfl, rfl, rfl, by decide +kernel, rfl, by decide +kernel, by decide +kernel⟩
abbrev s_has_word : Stmt := (top 8)
abbrev N_has_word : List Str := ["thing", "words"]
abbrev P_has_word : List Str := ["thing", "words"]
theorem sc_has_word : FnScope N_has_word P_has_word (defScope s_has_word) := ⟨rfl, rfl, rfl, by decide +kernel, rfl, by decide +kernel, by decide +kernel⟩
abbrev s_is_integer : Stmt := (top 2)
abbrev N_is_integer : List Str := ["thing"]
abbrev P_is_integer : List Str := ["thing"]
theorem sc_is_integer : FnScope N_is_integer P_is_integer (defScope s_is_integer) := ⟨rfl, rfl, rfl, by decide +kernel, rfl, by decide +kernel, by decide +kernel⟩
abbrev s_is_number : Stmt := (top 3)
abbrev N_is_number : List Str := ["least", "thing"]
abbrev P_is_number : List Str := ["least", "thing"]
theorem sc_is_number : FnScope N_is_number P_is_number (defScope s_is_number) := ⟨rfl, rfl, rfl, by decide +kernel, rfl, by decide +kernel, by decide +kernel⟩
abbrev s_is_by : Stmt := (top 10)
abbrev N_is_by : List Str := ["thing"]
abbrev P_is_by : List Str := ["thing"]
theorem sc_is_by : FnScope N_is_by P_is_by (defScope s_is_by) := ⟨rfl, rfl, rfl, by decide +kernel, rfl, by decide +kernel, by decide +kernel⟩
abbrev s_is_leaf : Stmt := (top 9)
abbrev N_is_leaf : List Str := ["thing"]
abbrev P_is_leaf : List Str := ["thing"]
theorem sc_is_leaf : FnScope N_is_leaf P_is_leaf (defScope s_is_leaf) := ⟨rfl, rfl, rfl, by decide +kernel, rfl, by decide +kernel, by decide +kernel⟩
abbrev s_is_tree : Stmt := (top 11)
abbrev N_is_tree : List Str := ["thing", "waiting", "leaves", "part"]
abbrev P_is_tree : List Str := ["thing"]
theorem sc_is_tree : FnScope N_is_tree P_is_tree (defScope s_is_tree) := ⟨rfl, rfl, rfl, by decide +kernel, rfl, by decide +kernel, by decide +kernel⟩
abbrev s_Rule___init__ : Stmt := (inClass (top 27) 0)
abbrev N_Rule___init__ : List Str := ["self", "tree"]
abbrev P_Rule___init__ : List Str := ["self", "tree"]
theorem sc_Rule___init__ : FnScope N_Rule___init__ P_Rule___init__ (defScope s_Rule___init__) := ⟨rfl, rfl, rfl, by decide +kernel, rfl, by decide +kernel, by decide +kernel⟩
abbrev s_joined : Stmt := (top 28)
abbrev N_joined : List Str := ["word", "one", "other"]
abbrev P_joined : List Str := ["word", "one", "other"]
theorem sc_joined : FnScope N_joined P_joined (defScope s_joined) := ⟨rfl, rfl, rfl, by decide +kernel, rfl, by decide +kernel, by decide +kernel⟩
abbrev s_Rule___and__ : Stmt := (inClass (top 27) 6)
abbrev N_Rule___and__ : List Str := ["self", "other"]
abbrev P_Rule___and__ : List Str := ["self", "other"]
theorem sc_Rule___and__ : FnScope N_Rule___and__ P_Rule___and__ (defScope s_Rule___and__) := ⟨rfl, rfl, rfl, by decide +kernel, rfl, by decide +kernel, by decide +kernel⟩
abbrev s_Rule___or__ : Stmt := (inClass (top 27) 5)
abbrev N_Rule___or__ : List Str := ["self", "other"]
abbrev P_Rule___or__ : List Str := ["self", "other"]
theorem sc_Rule___or__ : FnScope N_Rule___or__ P_Rule___or__ (defScope s_Rule___or__) := ⟨rfl, rfl, rfl, by decide +kernel, rfl, by decide +kernel, by decide +kernel⟩
abbrev s_at_least : Stmt := (top 29)
abbrev N_at_least : List Str := ["least", "by"]
abbrev P_at_least : List Str := ["least", "by"]
theorem sc_at_least : FnScope N_at_least P_at_least (defScope s_at_least) := ⟨rfl, rfl, rfl, by decide +kernel, rfl, by decide +kernel, by decide +kernel⟩
abbrev s__law_made : Stmt := (top 37)
abbrev N__law_made : List Str := ["_law_bag_here", "_law_tree", "_law_word", "_law_one", "_law_other", "_law_first", "_law_second"]
abbrev P__law_made : List Str := ["_law_bag_here", "_law_tree"]
theorem sc__law_made : FnScope N__law_made P__law_made (defScope s__law_made) := ⟨rfl, rfl, rfl, by decide +kernel, rfl, by decide +kernel, by decide +kernel⟩
abbrev s_Rule_tree : Stmt := (inClass (top 27) 4)
abbrev N_Rule_tree : List Str := ["self"]
abbrev P_Rule_tree : List Str := ["self"]
theorem sc_Rule_tree : FnScope N_Rule_tree P_Rule_tree (defScope s_Rule_tree) := ⟨rfl, rfl, rfl, by decide +kernel, rfl, by decide +kernel, by decide +kernel⟩
abbrev s_least_above : Stmt := (top 18)
abbrev N_least_above : List Str := ["one", "other", "amount"]
abbrev P_least_above : List Str := ["one", "other"]
theorem sc_least_above : FnScope N_least_above P_least_above (defScope s_least_above) := ⟨rfl, rfl, rfl, by decide +kernel, rfl, by decide +kernel, by decide +kernel⟩
abbrev s_above : Stmt := (top 21)
abbrev N_above : List Str := ["one", "other"]
abbrev P_above : List Str := ["one", "other"]
theorem sc_above : FnScope N_above P_above (defScope s_above) := ⟨rfl, rfl, rfl, by decide +kernel, rfl, by decide +kernel, by decide +kernel⟩
abbrev s_apart : Stmt := (top 20)
abbrev N_apart : List Str := ["one", "other"]
abbrev P_apart : List Str := ["one", "other"]
theorem sc_apart : FnScope N_apart P_apart (defScope s_apart) := ⟨rfl, rfl, rfl, by decide +kernel, rfl, by decide +kernel, by decide +kernel⟩
abbrev s__law_far_right : Stmt := (top 41)
abbrev N__law_far_right : List Str := ["_law_bag_here", "_law_scale", "_law_first", "_law_second", "_law_one", "_law_other", "_law_due", "_law_again", "_law_found"]
abbrev P__law_far_right : List Str := ["_law_bag_here"]
theorem sc__law_far_right : FnScope N__law_far_right P__law_far_right (defScope s__law_far_right) := ⟨rfl, rfl, rfl, by decide +kernel, rfl, by decide +kernel, by decide +kernel⟩
abbrev s__law_lifted : Stmt := (top 39)
abbrev N__law_lifted : List Str := ["_law_tree", "_law_more", "_law_word", "_law_one", "_law_other"]
abbrev P__law_lifted : List Str := ["_law_tree", "_law_more"]
theorem sc__law_lifted : FnScope N__law_lifted P__law_lifted (defScope s__law_lifted) := ⟨rfl, rfl, rfl, by decide +kernel, rfl, by decide +kernel, by decide +kernel⟩
abbrev s_law : Stmt := (top 43)
abbrev N_law : List Str := ["_law_script", "_law_bag_here", "_law_turn", "_law_first", "_law_second", "_law_pairs", "_law_unlike", "_law_over", "_law_under", "_law_more", "_law_one", "_law_other", "_law_due", "_law_again", "_law_found", "_law_amount", "_law_k", "_law_some"]
abbrev P_law : List Str := ["_law_script"]
theorem sc_law : FnScope N_law P_law (defScope s_law) := ⟨rfl, rfl, rfl, by decide +kernel, rfl, by decide +kernel, by decide +kernel⟩
structure Bl (mg : Str → Option Value) : Prop where
  none_ : True
  b_abs : mg "abs" = none
  b_bool : mg "bool" = none
  b_int : mg "int" = none
  b_isinstance : mg "isinstance" = none
  b_len : mg "len" = none
  b_list : mg "list" = none
  b_max : mg "max" = none
  b_min : mg "min" = none
  b_range : mg "range" = none
  b_repr : mg "repr" = none
  b_set : mg "set" = none
  b_sorted : mg "sorted" = none
  b_str : mg "str" = none
  b_sum : mg "sum" = none
  b_tuple : mg "tuple" = none
  g_MOST_BY : ∃ t, mg "MOST_BY" = some (.int 6 t)
  g_MOST_LEAVES : ∃ t, mg "MOST_LEAVES" = some (.int 6 t)
  g_PERIOD : ∃ t, mg "PERIOD" = some (.int 60 t)
section
variable {P : Program} {w : World} {K : PySem.W.Frag} {mg : Str → Option Value} {base : Heap} {C : Cs}
theorem ok__law_alike {f : Addr} {fd : FuncData} (F : Fun K "_law_alike" "_law_alike" s__law_alike f fd) (T : Bl mg)   : FnG P w K mg base CX0 1 f fd P__law_alike (sp_law_alike K) := by
  obtain ⟨t_MOST_BY, g_MOST_BY⟩ := T.g_MOST_BY
  obtain ⟨t_MOST_LEAVES, g_MOST_LEAVES⟩ := T.g_MOST_LEAVES
  obtain ⟨t_PERIOD, g_PERIOD⟩ := T.g_PERIOD
  refine okG F sc__law_alike (fun vs H Q E h => ln_law_alike h) (fun cdv A outer s H vs Q E gd hr h => ⟨t_law_alike K, ?_, rd_law_alike  h⟩)
  exact (pss_one (ps_ret (pe_and (pe_cmpR (opEq hr.units) (pv 0) (pv 1) (nomark _)) (pe_one (pe_cmpR (opEq hr.units) (pe_callB (call_repr gd (room_repr hr)) rfl T.b_repr Pk.boot_repr (pa_cons (pv 0) pa_nil)) (pe_callB (call_repr gd (room_repr hr)) rfl T.b_repr Pk.boot_repr (pa_cons (pv 1) pa_nil)) (nomark _))))))
theorem ok__law_bag {f : Addr} {fd : FuncData} (F : Fun K "_law_bag" "_law_bag" s__law_bag f fd) (T : Bl mg)   : FnOk P w K mg base CX0 1 f fd P__law_bag (sp_law_bag K) := by
  obtain ⟨t_MOST_BY, g_MOST_BY⟩ := T.g_MOST_BY
  obtain ⟨t_MOST_LEAVES, g_MOST_LEAVES⟩ := T.g_MOST_LEAVES
  obtain ⟨t_PERIOD, g_PERIOD⟩ := T.g_PERIOD
  refine F.ok sc__law_bag (fun vs H Q E h => ln_law_bag h) (fun cdv A outer s H vs Q E hr h => ⟨t_law_bag K, ?_, rd_law_bag  h⟩)
  exact (pss_one (ps_ret (pe_lst (pa_cons pe_int (pa_cons pe_int (pa_cons pe_int (pa_cons (pe_lc (own := [("_law_cell", 1)]) (g := (gName 1)) (tt := tYes) rfl sc__law_bag.nd (pi_list (pe_slice slU (pv 0) po_none (po_some pe_int))) (blkOk_by (N := N__law_bag) (own := [("_law_cell", 1)]) (sc := defScope s__law_bag) (by decide +kernel)) (fun _ _ _ _ _ => (pg_name (i := 1) sc__law_bag.nd rfl (Or.inl rfl))) (fun _ _ _ _ _ => pts_nil) (fun _ _ _ _ _ => (pe_callB call_abs rfl T.b_abs Pk.boot_abs (pa_cons (pv 1) pa_nil)))) pa_nil)))))))
theorem ok__law_bounds {n : Nat} {f : Addr} {fd : FuncData} (F : Fun K "_law_bounds" "_law_bounds" s__law_bounds f fd) (T : Bl mg)  (f__law_bounds : Cal P w K mg base CX0 (0 + n) "_law_bounds" P__law_bounds [] (sp_law_bounds K n)) : FnOk P w K mg base CX0 (0 + n + 1) f fd P__law_bounds (sp_law_bounds K (n + 1)) := by
  obtain ⟨t_MOST_BY, g_MOST_BY⟩ := T.g_MOST_BY
  obtain ⟨t_MOST_LEAVES, g_MOST_LEAVES⟩ := T.g_MOST_LEAVES
  obtain ⟨t_PERIOD, g_PERIOD⟩ := T.g_PERIOD
  refine F.ok sc__law_bounds (fun vs H Q E h => ln_law_bounds h) (fun cdv A outer s H vs Q E hr h => ⟨t_law_bounds K n, ?_, rd_law_bounds  h⟩)
  exact (pss_cons (ps_asg (pv 0) (pg_tup rfl (pgs_cons (pg_name (i := 1) sc__law_bounds.nd rfl (Or.inl rfl)) (pgs_cons (pg_name (i := 2) sc__law_bounds.nd rfl (Or.inl rfl)) (pgs_cons (pg_name (i := 3) sc__law_bounds.nd rfl (Or.inl rfl)) pgs_nil)))))
    (pss_one (ps_ret (pe_ifExp (pt_cmpR (opEq hr.units) (pv 1) pe_str (nomark _)) (pe_lst (pa_cons (pe_callB (call_max2 rfl) rfl T.b_max Pk.boot_max (pa_cons (pv 2) (pa_cons (pv 3) pa_nil))) pa_nil)) (pe_op opAdd (pe_cal f__law_bounds hr pass0 (pa_cons (pv 2) pa_nil)) (pe_cal f__law_bounds hr pass0 (pa_cons (pv 3) pa_nil)))))))
theorem all__law_bounds {f : Addr} {fd : FuncData} (F : Fun K "_law_bounds" "_law_bounds" s__law_bounds f fd) (T : Bl mg)   (hm : mg "_law_bounds" = some (.ref f)) (hk : PySem.W.keepIn K (.ref f) = true) (hb : Binds K fd P__law_bounds []) : ∀ n : Nat, FnOk P w K mg base CX0 (0 + n) f fd P__law_bounds (sp_law_bounds K n)
  | 0 => ⟨fun vs H Q E h => (no_law_bounds h).elim, fun A outer s H args us vs Q E _ _ _ _ h => (no_law_bounds h).elim⟩
  | n + 1 => ok__law_bounds F T  ⟨_, _, all__law_bounds F T   hm hk hb n, hm, hk, hb⟩
theorem ok__law_take {f : Addr} {fd : FuncData} (F : Fun K "_law_take" "_law_take" s__law_take f fd) (T : Bl mg)   : FnOk P w K mg base CX0 1 f fd P__law_take (sp_law_take K) := by
  obtain ⟨t_MOST_BY, g_MOST_BY⟩ := T.g_MOST_BY
  obtain ⟨t_MOST_LEAVES, g_MOST_LEAVES⟩ := T.g_MOST_LEAVES
  obtain ⟨t_PERIOD, g_PERIOD⟩ := T.g_PERIOD
  refine F.ok sc__law_take (fun vs H Q E h => ln_law_take h) (fun cdv A outer s H vs Q E hr h => ⟨t_law_take K, ?_, rd_law_take  h⟩)
  exact (Evl.pss_cut (ps_if (pt_cmpR (opEq hr.units) (pe_ix ix_seq (pv 0) pe_int (fun _ _ => rfl)) pe_int (nomark _)) (pss_cons (ps_set (i := 2) sc__law_take.nd rfl (Or.inl rfl) pe_int)
    (Evl.pss_cut (ps_if (pt_cmpR opLt (pe_ix ix_seq (pv 0) pe_int (fun _ _ => rfl)) (pe_callB callLen rfl T.b_len Pk.boot_len (pa_cons (pe_ix ix_seq (pv 0) pe_int (fun _ _ => rfl)) pa_nil)) (nomark _)) (pss_one (ps_set (i := 2) sc__law_take.nd rfl (Or.inl rfl) (pe_ix ix_seq (pe_ix ix_seq (pv 0) pe_int (fun _ _ => rfl)) (pe_ix ix_seq (pv 0) pe_int (fun _ _ => rfl)) (fun _ _ => rfl)))) pss_nil)
    (pss_cons (ps_augS (pv 0) pe_int get_list pe_int ip_add set_list)
    (Evl.pss_cut (ps_if (pt_cmpR opGe (pv 2) pe_int (nomark _)) (pss_one (ps_asg (pv 2) (pg_sub (pv 0) pe_int set_list))) pss_nil)
    (pss_cons (ps_set (i := 3) sc__law_take.nd rfl (Or.inl rfl) (pe_op opAdd (pe_op opAdd (pe_op opMul (pe_ix ix_seq (pv 0) pe_int (fun _ _ => rfl)) pe_int) (pe_op opMod (pe_callTy callInt rfl T.b_int Pk.boot_t_int (pa_cons (pv 2) pa_nil)) pe_int)) (pe_op opMul pe_int (pe_ix ix_seq (pv 0) pe_int (fun _ _ => rfl)))))
    (pss_one (ps_asg (pe_op opMod (pe_callTy callInt rfl T.b_int Pk.boot_t_int (pa_cons (pv 3) pa_nil)) pe_int) (pg_sub (pv 0) pe_int set_list)))))))) pss_nil)
    (pss_cons (ps_if (pt_cmpR opGt (pe_ix ix_seq (pv 0) pe_int (fun _ _ => rfl)) pe_int (nomark _)) (pss_cons (ps_set (i := 4) sc__law_take.nd rfl (Or.inl rfl) (pe_op opMod (pe_callTy callInt rfl T.b_int Pk.boot_t_int (pa_cons (pe_ix ix_seq (pv 0) pe_int (fun _ _ => rfl)) pa_nil)) (pv 1)))
    (pss_cons (ps_asg (pe_op opDiv (pe_ix ix_seq (pv 0) pe_int (fun _ _ => rfl)) (pv 1)) (pg_sub (pv 0) pe_int set_list))
    (pss_one (ps_ret (pv 4))))) pss_nil)
    (pss_cons (ps_set (i := 5) sc__law_take.nd rfl (Or.inl rfl) (pe_op opMod (pe_callTy callInt rfl T.b_int Pk.boot_t_int (pa_cons (pe_op opMul (pe_op opAdd (pe_ix ix_seq (pv 0) pe_int (fun _ _ => rfl)) pe_int) pe_int) pa_nil)) pe_int))
    (pss_cons (ps_set (i := 6) sc__law_take.nd rfl (Or.inl rfl) (pe_op opMod (pe_callTy callInt rfl T.b_int Pk.boot_t_int (pa_cons (pe_op opMul (pe_op opMod (pe_callTy callInt rfl T.b_int Pk.boot_t_int (pa_cons (pe_op opMul (pv 5) (pv 5)) pa_nil)) pe_int) pe_int) pa_nil)) pe_int))
    (pss_cons (ps_if (pt_cmpR opGt (pv 1) pe_int (nomark _)) (pss_one (ps_ret (pe_op opMod (pe_callTy callInt rfl T.b_int Pk.boot_t_int (pa_cons (pe_op opAdd (pe_op opMul (pv 6) pe_int) (pv 5)) pa_nil)) (pv 1)))) pss_nil)
    (pss_one (ps_ret (pe_op opMod (pe_callTy callInt rfl T.b_int Pk.boot_t_int (pa_cons (pe_op opDiv (pv 6) pe_int) pa_nil)) (pv 1)))))))))
theorem ok__law_draw_size {f : Addr} {fd : FuncData} (F : Fun K "_law_draw_size" "_law_draw_size" s__law_draw_size f fd) (T : Bl mg)  (f__law_take : Cal P w K mg base CX0 1 "_law_take" P__law_take [] (sp_law_take K)) : FnOk P w K mg base CX0 2 f fd P__law_draw_size (sp_law_draw_size K) := by
  obtain ⟨t_MOST_BY, g_MOST_BY⟩ := T.g_MOST_BY
  obtain ⟨t_MOST_LEAVES, g_MOST_LEAVES⟩ := T.g_MOST_LEAVES
  obtain ⟨t_PERIOD, g_PERIOD⟩ := T.g_PERIOD
  refine F.ok sc__law_draw_size (fun vs H Q E h => ln_law_draw_size h) (fun cdv A outer s H vs Q E hr h => ⟨t_law_draw_size K, ?_, rd_law_draw_size  h⟩)
  exact (pss_one (ps_ret (pe_op opMul (pe_op opAdd pe_int (pe_cal f__law_take hr pass0 (pa_cons (pv 0) (pa_cons (pv 1) pa_nil)))) (pe_ix ix_seq (pe_lst (pa_cons pe_int (pa_cons (pv 2) pa_nil))) (pe_cal f__law_take hr pass0 (pa_cons (pv 0) (pa_cons pe_int pa_nil))) (fun _ _ => rfl)))))
theorem ok__law_draw_rule {f : Addr} {fd : FuncData} (F : Fun K "_law_draw_rule" "_law_draw_rule" s__law_draw_rule f fd) (T : Bl mg)  (f__law_take : Cal P w K mg base CX0 1 "_law_take" P__law_take [] (sp_law_take K)) (f__law_draw_size : Cal P w K mg base CX0 2 "_law_draw_size" P__law_draw_size [] (sp_law_draw_size K)) : FnOk P w K mg base CX0 3 f fd P__law_draw_rule (sp_law_draw_rule K) := by
  obtain ⟨t_MOST_BY, g_MOST_BY⟩ := T.g_MOST_BY
  obtain ⟨t_MOST_LEAVES, g_MOST_LEAVES⟩ := T.g_MOST_LEAVES
  obtain ⟨t_PERIOD, g_PERIOD⟩ := T.g_PERIOD
  refine F.ok sc__law_draw_rule (fun vs H Q E h => ln_law_draw_rule h) (fun cdv A outer s H vs Q E hr h => ⟨t_law_draw_rule K, ?_, rd_law_draw_rule  h⟩)
  exact (pss_cons (ps_setLc (i := 4) (own := [("_law_k", 6)]) (g := (gName 6)) (tt := tYes) rfl sc__law_draw_rule.nd rfl rfl (sw_true rfl rfl rfl (by decide +kernel)) (pi_range1 rfl T.b_range (pa_cons (pv 3) pa_nil)) (blkOk_by (N := N__law_draw_rule) (own := [("_law_k", 6)]) (sc := defScope s__law_draw_rule) (by decide +kernel)) (fun _ _ _ _ _ => (pg_name (i := 6) sc__law_draw_rule.nd rfl (Or.inl rfl))) (fun _ _ _ _ _ => pts_nil) (fun _ _ _ _ _ => (pe_tup (pa_cons pe_str (pa_cons (pe_cal f__law_draw_size hr pass0 (pa_cons (pv 0) (pa_cons (pv 1) (pa_cons (pv 2) pa_nil)))) (pa_cons (pe_op opAdd pe_int (pe_cal f__law_take hr pass0 (pa_cons (pv 0) (pa_cons pe_int pa_nil)))) pa_nil))))))
    (pss_cons (ps_while PassesOwn.never (pt_cmpR opGt (pe_callB callLen rfl T.b_len Pk.boot_len (pa_cons (pv 4) pa_nil)) pe_int (nomark _)) (pss_cons (ps_set (i := 5) sc__law_draw_rule.nd rfl (Or.inl rfl) (pe_cal f__law_take hr pass0 (pa_cons (pv 0) (pa_cons (pe_op opSub (pe_callB callLen rfl T.b_len Pk.boot_len (pa_cons (pv 4) pa_nil)) pe_int) pa_nil))))
    (pss_one (ps_set (i := 4) sc__law_draw_rule.nd rfl (Or.inl rfl) (pe_op opAdd (pe_op opAdd (pe_slice slU (pv 4) po_none (po_some (pv 5))) (pe_lst (pa_cons (pe_tup (pa_cons (pe_ix ix_seq (pe_lst (pa_cons pe_str (pa_cons pe_str pa_nil))) (pe_cal f__law_take hr pass0 (pa_cons (pv 0) (pa_cons pe_int pa_nil))) (fun _ _ => rfl)) (pa_cons (pe_ix ix_seq (pv 4) (pv 5) (fun _ _ => rfl)) (pa_cons (pe_ix ix_seq (pv 4) (pe_op opAdd (pv 5) pe_int) (fun _ _ => rfl)) pa_nil)))) pa_nil))) (pe_slice slU (pv 4) (po_some (pe_op opAdd (pv 5) pe_int)) po_none))))))
    (pss_one (ps_ret (pe_ix ix_seq (pv 4) pe_int (fun _ _ => rfl))))))
theorem ok_given {n : Nat} {f : Addr} {fd : FuncData} (F : Fun K "given" "given" s_given f fd) (T : Bl mg)  (f_given : Cal P w K mg base CX0 (0 + n) "given" P_given [] (sp_given K n)) : FnOk P w K mg base CX0 (0 + n + 1) f fd P_given (sp_given K (n + 1)) := by
  obtain ⟨t_MOST_BY, g_MOST_BY⟩ := T.g_MOST_BY
  obtain ⟨t_MOST_LEAVES, g_MOST_LEAVES⟩ := T.g_MOST_LEAVES
  obtain ⟨t_PERIOD, g_PERIOD⟩ := T.g_PERIOD
  refine F.ok sc_given (fun vs H Q E h => ln_given h) (fun cdv A outer s H vs Q E hr h => ⟨t_given K n, ?_, rd_given  h⟩)
  exact (pss_cons (ps_asg (pv 0) (pg_tup rfl (pgs_cons (pg_name (i := 2) sc_given.nd rfl (Or.inl rfl)) (pgs_cons (pg_name (i := 3) sc_given.nd rfl (Or.inl rfl)) (pgs_cons (pg_name (i := 4) sc_given.nd rfl (Or.inl rfl)) pgs_nil)))))
    (pss_cons (ps_if (pt_cmpR (opEq hr.units) (pv 2) pe_str (nomark _)) (pss_one (ps_ret (pe_ifExp (pt_cmpR opGe (pv 1) (pv 3) (nomark _)) (pe_op opSub (pv 1) (pe_op opMod (pv 1) (pv 4))) pe_int))) pss_nil)
    (pss_cons (ps_if (pt_cmpR (opEq hr.units) (pv 2) pe_str (nomark _)) (pss_one (ps_ret (pe_callB (call_max2 rfl) rfl T.b_max Pk.boot_max (pa_cons (pe_cal f_given hr pass0 (pa_cons (pv 3) (pa_cons (pv 1) pa_nil))) (pa_cons (pe_cal f_given hr pass0 (pa_cons (pv 4) (pa_cons (pv 1) pa_nil))) pa_nil))))) pss_nil)
    (pss_one (ps_ret (pe_callB (call_min2 rfl) rfl T.b_min Pk.boot_min (pa_cons (pe_cal f_given hr pass0 (pa_cons (pv 3) (pa_cons (pv 1) pa_nil))) (pa_cons (pe_cal f_given hr pass0 (pa_cons (pv 4) (pa_cons (pv 1) pa_nil))) pa_nil))))))))
theorem all_given {f : Addr} {fd : FuncData} (F : Fun K "given" "given" s_given f fd) (T : Bl mg)   (hm : mg "given" = some (.ref f)) (hk : PySem.W.keepIn K (.ref f) = true) (hb : Binds K fd P_given []) : ∀ n : Nat, FnOk P w K mg base CX0 (0 + n) f fd P_given (sp_given K n)
  | 0 => ⟨fun vs H Q E h => (no_given h).elim, fun A outer s H args us vs Q E _ _ _ _ h => (no_given h).elim⟩
  | n + 1 => ok_given F T  ⟨_, _, all_given F T   hm hk hb n, hm, hk, hb⟩
theorem ok_leaves_of {n : Nat} {f : Addr} {fd : FuncData} (F : Fun K "leaves_of" "leaves_of" s_leaves_of f fd) (T : Bl mg)  (f_leaves_of : Cal P w K mg base CX0 (0 + n) "leaves_of" P_leaves_of [] (sp_leaves_of K n)) : FnOk P w K mg base CX0 (0 + n + 1) f fd P_leaves_of (sp_leaves_of K (n + 1)) := by
  obtain ⟨t_MOST_BY, g_MOST_BY⟩ := T.g_MOST_BY
  obtain ⟨t_MOST_LEAVES, g_MOST_LEAVES⟩ := T.g_MOST_LEAVES
  obtain ⟨t_PERIOD, g_PERIOD⟩ := T.g_PERIOD
  refine F.ok sc_leaves_of (fun vs H Q E h => ln_leaves_of h) (fun cdv A outer s H vs Q E hr h => ⟨t_leaves_of K n, ?_, rd_leaves_of  h⟩)
  exact (pss_cons (ps_asg (pv 0) (pg_tup rfl (pgs_cons (pg_name (i := 1) sc_leaves_of.nd rfl (Or.inl rfl)) (pgs_cons (pg_name (i := 2) sc_leaves_of.nd rfl (Or.inl rfl)) (pgs_cons (pg_name (i := 3) sc_leaves_of.nd rfl (Or.inl rfl)) pgs_nil)))))
    (pss_cons (ps_if (pt_cmpR (opEq hr.units) (pv 1) pe_str (nomark _)) (pss_one (ps_ret (pe_lst (pa_cons (pv 0) pa_nil)))) pss_nil)
    (pss_one (ps_ret (pe_op opAdd (pe_cal f_leaves_of hr pass0 (pa_cons (pv 2) pa_nil)) (pe_cal f_leaves_of hr pass0 (pa_cons (pv 3) pa_nil)))))))
theorem all_leaves_of {f : Addr} {fd : FuncData} (F : Fun K "leaves_of" "leaves_of" s_leaves_of f fd) (T : Bl mg)   (hm : mg "leaves_of" = some (.ref f)) (hk : PySem.W.keepIn K (.ref f) = true) (hb : Binds K fd P_leaves_of []) : ∀ n : Nat, FnOk P w K mg base CX0 (0 + n) f fd P_leaves_of (sp_leaves_of K n)
  | 0 => ⟨fun vs H Q E h => (no_leaves_of h).elim, fun A outer s H args us vs Q E _ _ _ _ h => (no_leaves_of h).elim⟩
  | n + 1 => ok_leaves_of F T  ⟨_, _, all_leaves_of F T   hm hk hb n, hm, hk, hb⟩
theorem ok_starts_of {f : Addr} {fd : FuncData} (F : Fun K "starts_of" "starts_of" s_starts_of f fd) (T : Bl mg)  (f_leaves_of : Cal P w K mg base CX0 7 "leaves_of" P_leaves_of [] (sp_leaves_of K 7)) : FnOk P w K mg base CX0 8 f fd P_starts_of (sp_starts_of K) := by
  obtain ⟨t_MOST_BY, g_MOST_BY⟩ := T.g_MOST_BY
  obtain ⟨t_MOST_LEAVES, g_MOST_LEAVES⟩ := T.g_MOST_LEAVES
  obtain ⟨t_PERIOD, g_PERIOD⟩ := T.g_PERIOD
  refine F.ok sc_starts_of (fun vs H Q E h => ln_starts_of h) (fun cdv A outer s H vs Q E hr h => ⟨t_starts_of K, ?_, rd_starts_of  h⟩)
  exact (pss_one (ps_ret (pe_lc (own := [("_", 1), ("least", 2)]) (g := (gTup K 3 (gCons (gName 1) (gCons (gName 2) (gCons (gName 1) gNil))))) (tt := tYes) rfl sc_starts_of.nd (pi_list (pe_cal f_leaves_of hr pass0 (pa_cons (pv 0) pa_nil))) (blkOk_by (N := N_starts_of) (own := [("_", 1), ("least", 2)]) (sc := defScope s_starts_of) (by decide +kernel)) (fun _ _ _ _ _ => (pg_tup rfl (pgs_cons (pg_name (i := 1) sc_starts_of.nd rfl (Or.inl rfl)) (pgs_cons (pg_name (i := 2) sc_starts_of.nd rfl (Or.inl rfl)) (pgs_cons (pg_name (i := 1) sc_starts_of.nd rfl (Or.inl rfl)) pgs_nil))))) (fun _ _ _ _ _ => pts_nil) (fun _ _ _ _ _ => (pv 2)))))
theorem ok_telling {f : Addr} {fd : FuncData} (F : Fun K "telling" "telling" s_telling f fd) (T : Bl mg)  (f_starts_of : Cal P w K mg base CX0 8 "starts_of" P_starts_of [] (sp_starts_of K)) : FnOk P w K mg base CX0 9 f fd P_telling (sp_telling K) := by
  obtain ⟨t_MOST_BY, g_MOST_BY⟩ := T.g_MOST_BY
  obtain ⟨t_MOST_LEAVES, g_MOST_LEAVES⟩ := T.g_MOST_LEAVES
  obtain ⟨t_PERIOD, g_PERIOD⟩ := T.g_PERIOD
  refine F.ok sc_telling (fun vs H Q E h => ln_telling h) (fun cdv A outer s H vs Q E hr h => ⟨t_telling K w, ?_, rd_telling  h⟩)
  exact (pss_cons (ps_set (i := 2) sc_telling.nd rfl (Or.inl rfl) (pe_op opAdd (pe_op opAdd (pe_lst (pa_cons pe_int pa_nil)) (pe_cal f_starts_of hr pass0 (pa_cons (pv 0) pa_nil))) (pe_cal f_starts_of hr pass0 (pa_cons (pv 1) pa_nil))))
    (pss_one (ps_ret (pe_callB (cr_sortedSetI rfl) rfl T.b_sorted Pk.boot_sorted (pa_cons (pe_set2 (own := [("start", 3), ("step", 4)]) (vb := [4]) (ga := (gName 3)) (gb := (gName 4)) rfl sc_telling.nd (pi_list (pv 2)) (blkOk_by (N := N_telling) (own := [("start", 3), ("step", 4)]) (sc := defScope s_telling) (by decide +kernel)) (by decide) (fun _ _ _ _ _ => (pg_name (i := 3) sc_telling.nd rfl (Or.inl rfl))) (fun _ _ _ _ _ => (pi_range1 rfl T.b_range (pa_cons (pe_glob rfl g_PERIOD ⟨_, rfl⟩) pa_nil))) (fun _ _ _ _ _ => (pg_name (i := 4) sc_telling.nd rfl (Or.inl rfl))) (fun _ _ _ _ _ => (pe_op opAdd (pv 3) (pv 4)))) pa_nil)))))
theorem ok_least_apart {f : Addr} {fd : FuncData} (F : Fun K "least_apart" "least_apart" s_least_apart f fd) (T : Bl mg)  (f_telling : Cal P w K mg base CX0 9 "telling" P_telling [] (sp_telling K)) (f_given : Cal P w K mg base CX0 7 "given" P_given [] (sp_given K 7)) : FnOk P w K mg base CX0 10 f fd P_least_apart (sp_least_apart K) := by
  obtain ⟨t_MOST_BY, g_MOST_BY⟩ := T.g_MOST_BY
  obtain ⟨t_MOST_LEAVES, g_MOST_LEAVES⟩ := T.g_MOST_LEAVES
  obtain ⟨t_PERIOD, g_PERIOD⟩ := T.g_PERIOD
  refine F.ok sc_least_apart (fun vs H Q E h => ln_least_apart h) (fun cdv A outer s H vs Q E hr h => ⟨t_least_apart K, ?_, rd_least_apart  h⟩)
  exact (pss_cons (ps_for PassesOwn.never rfl (pi_list (pe_cal f_telling hr pass0 (pa_cons (pv 0) (pa_cons (pv 1) pa_nil)))) (pg_name (i := 2) sc_least_apart.nd rfl (Or.inl rfl)) (pss_one (ps_if (pt_cmpR (opNe hr.units) (pe_cal f_given hr pass0 (pa_cons (pv 0) (pa_cons (pv 2) pa_nil))) (pe_cal f_given hr pass0 (pa_cons (pv 1) (pa_cons (pv 2) pa_nil))) (nomark _)) (pss_one (ps_ret (pv 2))) pss_nil)))
    (pss_one (ps_ret pe_non)))
theorem ok_Rule___eq__ {f : Addr} {fd : FuncData} (F : Fun K "__eq__" "Rule.__eq__" s_Rule___eq__ f fd) (T : Bl mg)  (f_least_apart : Cal P w K mg base CX0 10 "least_apart" P_least_apart [] (sp_least_apart K)) (K_Rule : Kls K mg "Rule" C.Rule) : FnOk P w K mg base CX0 11 f fd P_Rule___eq__ (sp_RuleEq K C) := by
  obtain ⟨t_MOST_BY, g_MOST_BY⟩ := T.g_MOST_BY
  obtain ⟨t_MOST_LEAVES, g_MOST_LEAVES⟩ := T.g_MOST_LEAVES
  obtain ⟨t_PERIOD, g_PERIOD⟩ := T.g_PERIOD
  refine F.ok sc_Rule___eq__ (fun vs H Q E h => ln_RuleEq h) (fun cdv A outer s H vs Q E hr h => ⟨t_RuleEq K C, ?_, rd_RuleEq  h⟩)
  exact (pss_cons (ps_if (pt_not (pt_val (pe_callB call_isi rfl T.b_isinstance Pk.boot_isinstance (pa_cons (pv 1) (pa_cons (pe_glob rfl K_Rule.at_ rfl) pa_nil))))) (pss_one (ps_ret pe_bl)) pss_nil)
    (pss_one (ps_ret (pe_or (pe_cmpR (opEq hr.units) (pe_fld (pv 0) rfl) (pe_fld (pv 1) rfl) (nomark _)) (pe_one (pe_cmpR opIsN (pe_cal f_least_apart hr pass0 (pa_cons (pe_fld (pv 0) rfl) (pa_cons (pe_fld (pv 1) rfl) pa_nil))) pe_non (nomark _)))))))
theorem ok__law_give {n : Nat} {f : Addr} {fd : FuncData} (F : Fun K "_law_give" "_law_give" s__law_give f fd) (T : Bl mg)  (f__law_give : Cal P w K mg base CX0 (0 + n) "_law_give" P__law_give [] (sp_law_give K n)) : FnOk P w K mg base CX0 (0 + n + 1) f fd P__law_give (sp_law_give K (n + 1)) := by
  obtain ⟨t_MOST_BY, g_MOST_BY⟩ := T.g_MOST_BY
  obtain ⟨t_MOST_LEAVES, g_MOST_LEAVES⟩ := T.g_MOST_LEAVES
  obtain ⟨t_PERIOD, g_PERIOD⟩ := T.g_PERIOD
  refine F.ok sc__law_give (fun vs H Q E h => ln_law_give h) (fun cdv A outer s H vs Q E hr h => ⟨t_law_give K n, ?_, rd_law_give  h⟩)
  exact (pss_cons (ps_asg (pv 0) (pg_tup rfl (pgs_cons (pg_name (i := 2) sc__law_give.nd rfl (Or.inl rfl)) (pgs_cons (pg_name (i := 3) sc__law_give.nd rfl (Or.inl rfl)) (pgs_cons (pg_name (i := 4) sc__law_give.nd rfl (Or.inl rfl)) pgs_nil)))))
    (pss_cons (ps_if (pt_cmpR (opEq hr.units) (pv 2) pe_str (nomark _)) (pss_one (ps_ret (pe_ifExp (pt_cmpR opGe (pv 1) (pv 3) (nomark _)) (pe_op opSub (pv 1) (pe_op opMod (pe_callTy callInt rfl T.b_int Pk.boot_t_int (pa_cons (pv 1) pa_nil)) (pv 4))) pe_int))) pss_nil)
    (pss_cons (ps_set (i := 5) sc__law_give.nd rfl (Or.inl rfl) (pe_lst (pa_cons (pe_cal f__law_give hr pass0 (pa_cons (pv 3) (pa_cons (pv 1) pa_nil))) (pa_cons (pe_cal f__law_give hr pass0 (pa_cons (pv 4) (pa_cons (pv 1) pa_nil))) pa_nil))))
    (pss_one (ps_ret (pe_ifExp (pt_cmpR (opEq hr.units) (pv 2) pe_str (nomark _)) (pe_callB (cr_max rfl) rfl T.b_max Pk.boot_max (pa_cons (pv 5) pa_nil)) (pe_callB (cr_min rfl) rfl T.b_min Pk.boot_min (pa_cons (pv 5) pa_nil))))))))
theorem all__law_give {f : Addr} {fd : FuncData} (F : Fun K "_law_give" "_law_give" s__law_give f fd) (T : Bl mg)   (hm : mg "_law_give" = some (.ref f)) (hk : PySem.W.keepIn K (.ref f) = true) (hb : Binds K fd P__law_give []) : ∀ n : Nat, FnOk P w K mg base CX0 (0 + n) f fd P__law_give (sp_law_give K n)
  | 0 => ⟨fun vs H Q E h => (no_law_give h).elim, fun A outer s H args us vs Q E _ _ _ _ h => (no_law_give h).elim⟩
  | n + 1 => ok__law_give F T  ⟨_, _, all__law_give F T   hm hk hb n, hm, hk, hb⟩
theorem ok__law_least {f : Addr} {fd : FuncData} (F : Fun K "_law_least" "_law_least" s__law_least f fd) (T : Bl mg)   : FnOk P w K mg base CX0 1 f fd P__law_least (sp_law_least K) := by
  obtain ⟨t_MOST_BY, g_MOST_BY⟩ := T.g_MOST_BY
  obtain ⟨t_MOST_LEAVES, g_MOST_LEAVES⟩ := T.g_MOST_LEAVES
  obtain ⟨t_PERIOD, g_PERIOD⟩ := T.g_PERIOD
  refine F.ok sc__law_least (fun vs H Q E h => ln_law_least h) (fun cdv A outer s H vs Q E hr h => ⟨t_law_least K, ?_, rd_law_least  h⟩)
  exact (pss_one (ps_ret (pe_ifExp (pt_cmpR (opNe hr.units) (pv 0) (pe_lst pa_nil) (nomark _)) (pe_op opAdd (pe_ix ix_seq (pv 0) pe_int (fun _ _ => rfl)) (pv 1)) pe_non)))
theorem ok__law_far_due {f : Addr} {fd : FuncData} (F : Fun K "_law_far_due" "_law_far_due" s__law_far_due f fd) (T : Bl mg)  (f__law_least : Cal P w K mg base CX0 1 "_law_least" P__law_least [] (sp_law_least K)) (f__law_give : Cal P w K mg base CX0 7 "_law_give" P__law_give [] (sp_law_give K 7)) (f__law_bounds : Cal P w K mg base CX0 7 "_law_bounds" P__law_bounds [] (sp_law_bounds K 7)) : FnOk P w K mg base CX0 8 f fd P__law_far_due (sp_law_far_due K) := by
  obtain ⟨t_MOST_BY, g_MOST_BY⟩ := T.g_MOST_BY
  obtain ⟨t_MOST_LEAVES, g_MOST_LEAVES⟩ := T.g_MOST_LEAVES
  obtain ⟨t_PERIOD, g_PERIOD⟩ := T.g_PERIOD
  refine F.ok sc__law_far_due (fun vs H Q E h => ln_law_far_due h) (fun cdv A outer s H vs Q E hr h => ⟨t_law_far_due K w, ?_, rd_law_far_due  h⟩)
  exact (pss_cons (ps_set (i := 2) sc__law_far_due.nd rfl (Or.inl rfl) (pe_callB (cr_sortedSetI rfl) rfl T.b_sorted Pk.boot_sorted (pa_cons (pe_callTy (PkB.cr_setL rfl) rfl T.b_set PkB.boot_t_set (pa_cons (pe_callB (PkB.cr_sumL rfl) rfl T.b_sum Pk.boot_sum (pa_cons (pe_lc (own := [("_law_top", 11)]) (g := (gName 11)) (tt := tYes) rfl sc__law_far_due.nd (pi_list (pe_op opAdd (pe_cal f__law_bounds hr pass0 (pa_cons (pv 0) pa_nil)) (pe_cal f__law_bounds hr pass0 (pa_cons (pv 1) pa_nil)))) (blkOk_by (N := N__law_far_due) (own := [("_law_top", 11)]) (sc := defScope s__law_far_due) (by decide +kernel)) (fun _ _ _ _ _ => (pg_name (i := 11) sc__law_far_due.nd rfl (Or.inl rfl))) (fun _ _ _ _ _ => pts_nil) (fun _ _ _ _ _ => (pe_callTy (PkB.cr_listRng rfl) rfl T.b_list Pk.boot_t_list (pa_cons (pe_callTy cr_range2 rfl T.b_range PkB.boot_t_range (pa_cons (pv 11) (pa_cons (pe_op opAdd (pv 11) pe_int) pa_nil))) pa_nil)))) (pa_cons (pe_lst pa_nil) pa_nil))) pa_nil)) pa_nil)))
    (pss_cons (ps_setLc (i := 3) (own := [("_law_amount", 7)]) (g := (gName 7)) (tt := tYes) rfl sc__law_far_due.nd rfl rfl (sw_true rfl rfl rfl (by decide +kernel)) (pi_list (pv 2)) (blkOk_by (N := N__law_far_due) (own := [("_law_amount", 7)]) (sc := defScope s__law_far_due) (by decide +kernel)) (fun _ _ _ _ _ => (pg_name (i := 7) sc__law_far_due.nd rfl (Or.inl rfl))) (fun _ _ _ _ _ => pts_nil) (fun _ _ _ _ _ => (pe_tup (pa_cons (pv 7) (pa_cons (pe_cal f__law_give hr pass0 (pa_cons (pv 0) (pa_cons (pv 7) pa_nil))) (pa_cons (pe_cal f__law_give hr pass0 (pa_cons (pv 1) (pa_cons (pv 7) pa_nil))) pa_nil))))))
    (pss_cons (ps_setLc (i := 4) (own := [("_law_amount", 7), ("_law_one", 8), ("_law_other", 9)]) (g := (gTup K 3 (gCons (gName 7) (gCons (gName 8) (gCons (gName 9) gNil))))) (tt := (tTest (tOp (rNeU K) (tVar 8) (tVar 9)))) rfl sc__law_far_due.nd rfl rfl (sw_true rfl rfl rfl (by decide +kernel)) (pi_list (pv 3)) (blkOk_by (N := N__law_far_due) (own := [("_law_amount", 7), ("_law_one", 8), ("_law_other", 9)]) (sc := defScope s__law_far_due) (by decide +kernel)) (fun _ _ _ _ _ => (pg_tup rfl (pgs_cons (pg_name (i := 7) sc__law_far_due.nd rfl (Or.inl rfl)) (pgs_cons (pg_name (i := 8) sc__law_far_due.nd rfl (Or.inl rfl)) (pgs_cons (pg_name (i := 9) sc__law_far_due.nd rfl (Or.inl rfl)) pgs_nil))))) (fun _ _ _ _ _ => (pts_one (pt_cmpR (opNe hr.units) (pv 8) (pv 9) (nomark _)))) (fun _ _ _ _ _ => (pv 7)))
    (pss_cons (ps_setLc (i := 5) (own := [("_law_amount", 7), ("_law_one", 8), ("_law_other", 9)]) (g := (gTup K 3 (gCons (gName 7) (gCons (gName 8) (gCons (gName 9) gNil))))) (tt := (tTest (tOp (rGtI) (tVar 8) (tVar 9)))) rfl sc__law_far_due.nd rfl rfl (sw_true rfl rfl rfl (by decide +kernel)) (pi_list (pv 3)) (blkOk_by (N := N__law_far_due) (own := [("_law_amount", 7), ("_law_one", 8), ("_law_other", 9)]) (sc := defScope s__law_far_due) (by decide +kernel)) (fun _ _ _ _ _ => (pg_tup rfl (pgs_cons (pg_name (i := 7) sc__law_far_due.nd rfl (Or.inl rfl)) (pgs_cons (pg_name (i := 8) sc__law_far_due.nd rfl (Or.inl rfl)) (pgs_cons (pg_name (i := 9) sc__law_far_due.nd rfl (Or.inl rfl)) pgs_nil))))) (fun _ _ _ _ _ => (pts_one (pt_cmpR opGt (pv 8) (pv 9) (nomark _)))) (fun _ _ _ _ _ => (pv 7)))
    (pss_cons (ps_setLc (i := 6) (own := [("_law_amount", 7), ("_law_one", 8), ("_law_other", 9)]) (g := (gTup K 3 (gCons (gName 7) (gCons (gName 8) (gCons (gName 9) gNil))))) (tt := (tTest (tOp (rLtI) (tVar 8) (tVar 9)))) rfl sc__law_far_due.nd rfl rfl (sw_true rfl rfl rfl (by decide +kernel)) (pi_list (pv 3)) (blkOk_by (N := N__law_far_due) (own := [("_law_amount", 7), ("_law_one", 8), ("_law_other", 9)]) (sc := defScope s__law_far_due) (by decide +kernel)) (fun _ _ _ _ _ => (pg_tup rfl (pgs_cons (pg_name (i := 7) sc__law_far_due.nd rfl (Or.inl rfl)) (pgs_cons (pg_name (i := 8) sc__law_far_due.nd rfl (Or.inl rfl)) (pgs_cons (pg_name (i := 9) sc__law_far_due.nd rfl (Or.inl rfl)) pgs_nil))))) (fun _ _ _ _ _ => (pts_one (pt_cmpR opLt (pv 8) (pv 9) (nomark _)))) (fun _ _ _ _ _ => (pv 7)))
    (pss_one (ps_ret (pe_lc (own := [("_law_some", 10)]) (g := (gName 10)) (tt := tYes) rfl sc__law_far_due.nd (pi_tup (pe_tup (pa_cons (pv 4) (pa_cons (pv 4) (pa_cons (pv 5) (pa_cons (pv 6) pa_nil)))))) (blkOk_by (N := N__law_far_due) (own := [("_law_some", 10)]) (sc := defScope s__law_far_due) (by decide +kernel)) (fun _ _ _ _ _ => (pg_name (i := 10) sc__law_far_due.nd rfl (Or.inl rfl))) (fun _ _ _ _ _ => pts_nil) (fun _ _ _ _ _ => (pe_cal f__law_least hr pass0 (pa_cons (pv 10) (pa_cons pe_int pa_nil))))))))))))
theorem ok_has_word {f : Addr} {fd : FuncData} (F : Fun K "has_word" "has_word" s_has_word f fd) (T : Bl mg)   : FnOk P w K mg base CX0 1 f fd P_has_word (sp_has_word K) := by
  obtain ⟨t_MOST_BY, g_MOST_BY⟩ := T.g_MOST_BY
  obtain ⟨t_MOST_LEAVES, g_MOST_LEAVES⟩ := T.g_MOST_LEAVES
  obtain ⟨t_PERIOD, g_PERIOD⟩ := T.g_PERIOD
  refine F.ok sc_has_word (fun vs H Q E h => ln_has_word h) (fun cdv A outer s H vs Q E hr h => ⟨t_has_word K, ?_, rd_has_word  h⟩)
  exact (pss_cons (ps_if (PW.pt (pw_or (pt_not (pt_val (pe_callB call_isi rfl T.b_isinstance Pk.boot_isinstance (pa_cons (pv 0) (pa_cons (pe_bltn (v := .ty "tuple") rfl T.b_tuple Pk.boot_t_tuple rfl) pa_nil))))) (pw_or1 (pt_cmpR (opNe hr.units) (pe_callB callLen rfl T.b_len Pk.boot_len (pa_cons (pv 0) pa_nil)) pe_int (nomark _))))) (pss_one (ps_ret pe_bl)) pss_nil)
    (pss_one (ps_ret (pe_and (pe_callB call_isi rfl T.b_isinstance Pk.boot_isinstance (pa_cons (pe_ix ix_seq (pv 0) pe_int (fun _ _ => rfl)) (pa_cons (pe_bltn (v := .ty "str") rfl T.b_str Pk.boot_t_str rfl) pa_nil))) (pe_one (pe_cmpR opIn (pe_ix ix_seq (pv 0) pe_int (fun _ _ => rfl)) (pv 1) rfl))))))
theorem ok_is_integer {f : Addr} {fd : FuncData} (F : Fun K "is_integer" "is_integer" s_is_integer f fd) (T : Bl mg)   : FnOk P w K mg base CX0 1 f fd P_is_integer (sp_is_integer K) := by
  obtain ⟨t_MOST_BY, g_MOST_BY⟩ := T.g_MOST_BY
  obtain ⟨t_MOST_LEAVES, g_MOST_LEAVES⟩ := T.g_MOST_LEAVES
  obtain ⟨t_PERIOD, g_PERIOD⟩ := T.g_PERIOD
  refine F.ok sc_is_integer (fun vs H Q E h => ln_is_integer h) (fun cdv A outer s H vs Q E hr h => ⟨t_is_integer K, ?_, rd_is_integer  h⟩)
  exact (pss_one (ps_ret (pe_and (pe_callB call_isi rfl T.b_isinstance Pk.boot_isinstance (pa_cons (pv 0) (pa_cons (pe_bltn (v := .ty "int") rfl T.b_int Pk.boot_t_int rfl) pa_nil))) (pe_one (pe_not (pe_callB call_isi rfl T.b_isinstance Pk.boot_isinstance (pa_cons (pv 0) (pa_cons (pe_bltn (v := .ty "bool") rfl T.b_bool Pk.boot_t_bool rfl) pa_nil))))))))
theorem ok_is_number {f : Addr} {fd : FuncData} (F : Fun K "is_number" "is_number" s_is_number f fd) (T : Bl mg)  (f_is_integer : Cal P w K mg base CX0 1 "is_integer" P_is_integer [] (sp_is_integer K)) : FnOk P w K mg base CX0 2 f fd P_is_number (sp_is_number K) := by
  obtain ⟨t_MOST_BY, g_MOST_BY⟩ := T.g_MOST_BY
  obtain ⟨t_MOST_LEAVES, g_MOST_LEAVES⟩ := T.g_MOST_LEAVES
  obtain ⟨t_PERIOD, g_PERIOD⟩ := T.g_PERIOD
  refine F.ok sc_is_number (fun vs H Q E h => ln_is_number h) (fun cdv A outer s H vs Q E hr h => ⟨t_is_number K, ?_, rd_is_number  h⟩)
  exact (pss_one (ps_ret (pe_and (pe_cal f_is_integer hr pass0 (pa_cons (pv 1) pa_nil)) (pe_one (pe_cmpR opGe (pv 1) (pv 0) (nomark _))))))
theorem ok_is_by {f : Addr} {fd : FuncData} (F : Fun K "is_by" "is_by" s_is_by f fd) (T : Bl mg)  (f_is_number : Cal P w K mg base CX0 2 "is_number" P_is_number [] (sp_is_number K)) : FnOk P w K mg base CX0 3 f fd P_is_by (sp_is_by K) := by
  obtain ⟨t_MOST_BY, g_MOST_BY⟩ := T.g_MOST_BY
  obtain ⟨t_MOST_LEAVES, g_MOST_LEAVES⟩ := T.g_MOST_LEAVES
  obtain ⟨t_PERIOD, g_PERIOD⟩ := T.g_PERIOD
  refine F.ok sc_is_by (fun vs H Q E h => ln_is_by h) (fun cdv A outer s H vs Q E hr h => ⟨t_is_by K, ?_, rd_is_by  h⟩)
  exact (pss_one (ps_ret (pe_and (pe_cal f_is_number hr pass0 (pa_cons pe_int (pa_cons (pv 0) pa_nil))) (pe_one (pe_cmpR opLe (pv 0) (pe_glob rfl g_MOST_BY ⟨_, rfl⟩) (nomark _))))))
theorem ok_is_leaf {f : Addr} {fd : FuncData} (F : Fun K "is_leaf" "is_leaf" s_is_leaf f fd) (T : Bl mg)  (f_has_word : Cal P w K mg base CX0 1 "has_word" P_has_word [] (sp_has_word K)) (f_is_number : Cal P w K mg base CX0 2 "is_number" P_is_number [] (sp_is_number K)) (f_is_by : Cal P w K mg base CX0 3 "is_by" P_is_by [] (sp_is_by K)) : FnOk P w K mg base CX0 4 f fd P_is_leaf (sp_is_leaf K) := by
  obtain ⟨t_MOST_BY, g_MOST_BY⟩ := T.g_MOST_BY
  obtain ⟨t_MOST_LEAVES, g_MOST_LEAVES⟩ := T.g_MOST_LEAVES
  obtain ⟨t_PERIOD, g_PERIOD⟩ := T.g_PERIOD
  refine F.ok sc_is_leaf (fun vs H Q E h => ln_is_leaf h) (fun cdv A outer s H vs Q E hr h => ⟨t_is_leaf K, ?_, rd_is_leaf  h⟩)
  exact (pss_one (ps_ret (pe_and (pe_cal f_has_word hr pass0 (pa_cons (pv 0) (pa_cons (pe_tup (pa_cons pe_str pa_nil)) pa_nil))) (pe_and (pe_cal f_is_number hr pass0 (pa_cons pe_int (pa_cons (pe_ix ix_seq (pv 0) pe_int (fun _ _ => rfl)) pa_nil))) (pe_one (pe_cal f_is_by hr pass0 (pa_cons (pe_ix ix_seq (pv 0) pe_int (fun _ _ => rfl)) pa_nil)))))))
theorem ok_is_tree {f : Addr} {fd : FuncData} (F : Fun K "is_tree" "is_tree" s_is_tree f fd) (T : Bl mg)  (f_is_leaf : Cal P w K mg base CX0 4 "is_leaf" P_is_leaf [] (sp_is_leaf K)) (f_has_word : Cal P w K mg base CX0 1 "has_word" P_has_word [] (sp_has_word K)) : FnOk P w K mg base CX0 5 f fd P_is_tree (sp_is_tree K) := by
  obtain ⟨t_MOST_BY, g_MOST_BY⟩ := T.g_MOST_BY
  obtain ⟨t_MOST_LEAVES, g_MOST_LEAVES⟩ := T.g_MOST_LEAVES
  obtain ⟨t_PERIOD, g_PERIOD⟩ := T.g_PERIOD
  refine F.ok sc_is_tree (fun vs H Q E h => ln_is_tree h) (fun cdv A outer s H vs Q E hr h => ⟨t_is_tree K, ?_, rd_is_tree  h⟩)
  exact (pss_cons (ps_set (i := 1) sc_is_tree.nd rfl (Or.inl rfl) (pe_lst (pa_cons (pv 0) pa_nil)))
    (pss_cons (ps_set (i := 2) sc_is_tree.nd rfl (Or.inl rfl) pe_int)
    (pss_cons (ps_while PassesOwn.never (pt_cmpR opGt (pe_callB callLen rfl T.b_len Pk.boot_len (pa_cons (pv 1) pa_nil)) pe_int (nomark _)) (pss_cons (ps_set (i := 3) sc_is_tree.nd rfl (Or.inl rfl) (pe_bm0 PySem.F.plainAttrs_list PySem.F.slot_list_pop PySem.F.type_list_pop mt_pop (pv 1)))
    (Evl.pss_cut (ps_if (pt_val (pe_cal f_is_leaf hr pass0 (pa_cons (pv 3) pa_nil))) (pss_one (ps_set (i := 2) sc_is_tree.nd rfl (Or.inl rfl) (pe_op opAdd (pv 2) pe_int))) (pss_one (ps_if (pt_val (pe_cal f_has_word hr pass0 (pa_cons (pv 3) (pa_cons (pe_tup (pa_cons pe_str (pa_cons pe_str pa_nil))) pa_nil)))) (pss_cons (ps_expr (pe_bm PySem.F.plainAttrs_list PySem.F.slot_list_append PySem.F.type_list_append mt_append (pv 1) (pa_cons (pe_ix ix_seq (pv 3) pe_int (fun _ _ => rfl)) pa_nil)))
    (pss_one (ps_expr (pe_bm PySem.F.plainAttrs_list PySem.F.slot_list_append PySem.F.type_list_append mt_append (pv 1) (pa_cons (pe_ix ix_seq (pv 3) pe_int (fun _ _ => rfl)) pa_nil))))) (pss_one (ps_ret pe_bl)))))
    (pss_one (ps_if (pt_cmpR opGt (pe_op opAdd (pv 2) (pe_callB callLen rfl T.b_len Pk.boot_len (pa_cons (pv 1) pa_nil))) (pe_glob rfl g_MOST_LEAVES ⟨_, rfl⟩) (nomark _)) (pss_one (ps_ret pe_bl)) pss_nil)))))
    (pss_one (ps_ret pe_bl)))))
theorem ok_Rule___init__ {f : Addr} {fd : FuncData} (F : Fun K "__init__" "Rule.__init__" s_Rule___init__ f fd) (T : Bl mg)  (f_is_tree : Cal P w K mg base CX0 5 "is_tree" P_is_tree [] (sp_is_tree K)) : FnOk P w K mg base CX0 6 f fd P_Rule___init__ (sp_Rule___init__ K C) := by
  obtain ⟨t_MOST_BY, g_MOST_BY⟩ := T.g_MOST_BY
  obtain ⟨t_MOST_LEAVES, g_MOST_LEAVES⟩ := T.g_MOST_LEAVES
  obtain ⟨t_PERIOD, g_PERIOD⟩ := T.g_PERIOD
  refine F.ok sc_Rule___init__ (fun vs H Q E h => ln_Rule___init__ h) (fun cdv A outer s H vs Q E hr h => ⟨t_Rule___init__ K, ?_, rd_Rule___init__  h⟩)
  exact (pss_cons (ps_if (pt_not (pt_val (pe_cal f_is_tree hr pass0 (pa_cons (pv 1) pa_nil)))) (pss_one ps_never) pss_nil)
    (pss_one (ps_fld (pv 0) (pv 1) rfl)))
theorem ok_joined {f : Addr} {fd : FuncData} (F : Fun K "joined" "joined" s_joined f fd) (T : Bl mg)  (o_Rule___init__ : Own P w K mg base CX0 6 C.Rule "__init__" P_Rule___init__ (sp_Rule___init__ K C)) (K_Rule : Kls K mg "Rule" C.Rule) (f_starts_of : Cal P w K mg base CX0 8 "starts_of" P_starts_of [] (sp_starts_of K)) : FnOk P w K mg base CX0 9 f fd P_joined (sp_joined K C) := by
  obtain ⟨t_MOST_BY, g_MOST_BY⟩ := T.g_MOST_BY
  obtain ⟨t_MOST_LEAVES, g_MOST_LEAVES⟩ := T.g_MOST_LEAVES
  obtain ⟨t_PERIOD, g_PERIOD⟩ := T.g_PERIOD
  refine F.ok sc_joined (fun vs H Q E h => ln_joined h) (fun cdv A outer s H vs Q E hr h => ⟨t_joined K C, ?_, rd_joined  h⟩)
  exact (pss_cons (ps_if (pt_cmpR opGt (pe_op opAdd (pe_callB callLen rfl T.b_len Pk.boot_len (pa_cons (pe_cal f_starts_of hr pass0 (pa_cons (pv 1) pa_nil)) pa_nil)) (pe_callB callLen rfl T.b_len Pk.boot_len (pa_cons (pe_cal f_starts_of hr pass0 (pa_cons (pv 2) pa_nil)) pa_nil))) (pe_glob rfl g_MOST_LEAVES ⟨_, rfl⟩) (nomark _)) (pss_one ps_never) pss_nil)
    (pss_one (ps_ret (pe_mk K_Rule o_Rule___init__ hr pass0 (pa_cons (pe_tup (pa_cons (pv 0) (pa_cons (pv 1) (pa_cons (pv 2) pa_nil)))) pa_nil)))))
theorem ok_Rule___and__ {f : Addr} {fd : FuncData} (F : Fun K "__and__" "Rule.__and__" s_Rule___and__ f fd) (T : Bl mg)  (f_joined : Cal P w K mg base CX0 9 "joined" P_joined [] (sp_joined K C)) : FnOk P w K mg base CX0 10 f fd P_Rule___and__ (sp_Rule___and__ K C) := by
  obtain ⟨t_MOST_BY, g_MOST_BY⟩ := T.g_MOST_BY
  obtain ⟨t_MOST_LEAVES, g_MOST_LEAVES⟩ := T.g_MOST_LEAVES
  obtain ⟨t_PERIOD, g_PERIOD⟩ := T.g_PERIOD
  refine F.ok sc_Rule___and__ (fun vs H Q E h => ln_Rule___and__ h) (fun cdv A outer s H vs Q E hr h => ⟨t_Rule___and__ K C, ?_, rd_Rule___and__  h⟩)
  exact (pss_one (ps_ret (pe_cal f_joined hr pass0 (pa_cons pe_str (pa_cons (pe_fld (pv 0) rfl) (pa_cons (pe_fld (pv 1) rfl) pa_nil))))))
theorem ok_Rule___or__ {f : Addr} {fd : FuncData} (F : Fun K "__or__" "Rule.__or__" s_Rule___or__ f fd) (T : Bl mg)  (f_joined : Cal P w K mg base CX0 9 "joined" P_joined [] (sp_joined K C)) : FnOk P w K mg base CX0 10 f fd P_Rule___or__ (sp_Rule___or__ K C) := by
  obtain ⟨t_MOST_BY, g_MOST_BY⟩ := T.g_MOST_BY
  obtain ⟨t_MOST_LEAVES, g_MOST_LEAVES⟩ := T.g_MOST_LEAVES
  obtain ⟨t_PERIOD, g_PERIOD⟩ := T.g_PERIOD
  refine F.ok sc_Rule___or__ (fun vs H Q E h => ln_Rule___or__ h) (fun cdv A outer s H vs Q E hr h => ⟨t_Rule___or__ K C, ?_, rd_Rule___or__  h⟩)
  exact (pss_one (ps_ret (pe_cal f_joined hr pass0 (pa_cons pe_str (pa_cons (pe_fld (pv 0) rfl) (pa_cons (pe_fld (pv 1) rfl) pa_nil))))))
theorem ok_at_least {f : Addr} {fd : FuncData} (F : FunD K "at_least" "at_least" (defArgs s_at_least) (defBody s_at_least) (defScope s_at_least) [V.int 1] [] f fd) (T : Bl mg)  (o_Rule___init__ : Own P w K mg base CX0 6 C.Rule "__init__" P_Rule___init__ (sp_Rule___init__ K C)) (K_Rule : Kls K mg "Rule" C.Rule) (f_is_by : Cal P w K mg base CX0 3 "is_by" P_is_by [] (sp_is_by K)) (f_is_number : Cal P w K mg base CX0 2 "is_number" P_is_number [] (sp_is_number K)) : FnOk P w K mg base CX0 8 f fd P_at_least (sp_at_least K C) := by
  obtain ⟨t_MOST_BY, g_MOST_BY⟩ := T.g_MOST_BY
  obtain ⟨t_MOST_LEAVES, g_MOST_LEAVES⟩ := T.g_MOST_LEAVES
  obtain ⟨t_PERIOD, g_PERIOD⟩ := T.g_PERIOD
  refine FunD.ok F sc_at_least (fun vs H Q E h => ln_at_least h) (fun cdv A outer s H vs Q E hr h => ⟨t_at_least K C, PSs.nox ?_, rd_at_least  h⟩)
  exact (pss_cons (ps_if (pt_not (pt_val (pe_cal f_is_number hr pass0 (pa_cons pe_int (pa_cons (pv 0) pa_nil))))) (pss_one ps_never) pss_nil)
    (pss_cons (ps_if (pt_not (pt_val (pe_cal f_is_by hr pass0 (pa_cons (pv 1) pa_nil)))) (pss_one ps_never) pss_nil)
    (pss_one (ps_ret (pe_mk K_Rule o_Rule___init__ hr pass0 (pa_cons (pe_tup (pa_cons pe_str (pa_cons (pv 0) (pa_cons (pv 1) pa_nil)))) pa_nil))))))
theorem ok__law_made {n : Nat} {f : Addr} {fd : FuncData} (F : Fun K "_law_made" "_law_made" s__law_made f fd) (T : Bl mg)  (o_Rule___or__ : Own P w K mg base CX0 10 C.Rule "__or__" P_Rule___or__ (sp_Rule___or__ K C)) (K_Rule : Kls K mg "Rule" C.Rule) (o_Rule___and__ : Own P w K mg base CX0 10 C.Rule "__and__" P_Rule___and__ (sp_Rule___and__ K C)) (f__law_made : Cal P w K mg base CX0 (10 + n) "_law_made" P__law_made [] (sp_law_made K C n)) (fd1_at_least : ∃ ds, Vals [V.int 1] ds ∧ Cal P w K mg base CX0 8 "at_least" P_at_least ds (sp_at_least K C)) (f_at_least : Cal P w K mg base CX0 8 "at_least" P_at_least [] (sp_at_least K C)) (f__law_take : Cal P w K mg base CX0 1 "_law_take" P__law_take [] (sp_law_take K)) (o_Rule___init__ : Own P w K mg base CX0 6 C.Rule "__init__" P_Rule___init__ (sp_Rule___init__ K C)) : FnOk P w K mg base CX0 (10 + n + 1) f fd P__law_made (sp_law_made K C (n + 1)) := by
  obtain ⟨t_MOST_BY, g_MOST_BY⟩ := T.g_MOST_BY
  obtain ⟨t_MOST_LEAVES, g_MOST_LEAVES⟩ := T.g_MOST_LEAVES
  obtain ⟨t_PERIOD, g_PERIOD⟩ := T.g_PERIOD
  obtain ⟨ds1_at_least, vd1_at_least, fd1_at_least⟩ := fd1_at_least
  refine F.ok sc__law_made (fun vs H Q E h => ln_law_made h) (fun cdv A outer s H vs Q E hr h => ⟨t_law_made K C n, ?_, rd_law_made  h⟩)
  exact (pss_cons (ps_asg (pv 1) (pg_tup rfl (pgs_cons (pg_name (i := 2) sc__law_made.nd rfl (Or.inl rfl)) (pgs_cons (pg_name (i := 3) sc__law_made.nd rfl (Or.inl rfl)) (pgs_cons (pg_name (i := 4) sc__law_made.nd rfl (Or.inl rfl)) pgs_nil)))))
    (pss_cons (ps_if (pt_cmpR (opEq hr.units) (pe_cal f__law_take hr pass0 (pa_cons (pv 0) (pa_cons pe_int pa_nil))) pe_int (nomark _)) (pss_one (ps_ret (pe_mk K_Rule o_Rule___init__ hr pass0 (pa_cons (pv 1) pa_nil)))) pss_nil)
    (pss_cons (ps_if (pt_cmpR (opEq hr.units) (pv 2) pe_str (nomark _)) (pss_one (ps_ret (pe_ifExp (pt_cmpR (opEq hr.units) (pv 4) pe_int (nomark _)) (pe_calD fd1_at_least vd1_at_least hr pass0 (pa_cons (pv 3) pa_nil)) (pe_cal f_at_least hr pass0 (pa_cons (pv 3) (pa_cons (pv 4) pa_nil)))))) pss_nil)
    (pss_cons (ps_par (i := 5) (j := 6) (by rfl) sc__law_made.nd rfl rfl (by decide) rfl rfl (pa_cons (pe_cal f__law_made hr pass0 (pa_cons (pv 0) (pa_cons (pv 3) pa_nil))) (pa_cons (pe_cal f__law_made hr pass0 (pa_cons (pv 0) (pa_cons (pv 4) pa_nil))) pa_nil)) (by rfl))
    (pss_one (ps_ret (pe_ifExp (pt_cmpR (opEq hr.units) (pv 2) pe_str (nomark _)) (pe_op (op_ownB K_Rule o_Rule___or__ hr pass0) (pv 5) (pv 6)) (pe_op (op_ownB K_Rule o_Rule___and__ hr pass0) (pv 5) (pv 6)))))))))
theorem all__law_made {f : Addr} {fd : FuncData} (F : Fun K "_law_made" "_law_made" s__law_made f fd) (T : Bl mg)  (o_Rule___or__ : Own P w K mg base CX0 10 C.Rule "__or__" P_Rule___or__ (sp_Rule___or__ K C)) (K_Rule : Kls K mg "Rule" C.Rule) (o_Rule___and__ : Own P w K mg base CX0 10 C.Rule "__and__" P_Rule___and__ (sp_Rule___and__ K C)) (fd1_at_least : ∃ ds, Vals [V.int 1] ds ∧ Cal P w K mg base CX0 8 "at_least" P_at_least ds (sp_at_least K C)) (f_at_least : Cal P w K mg base CX0 8 "at_least" P_at_least [] (sp_at_least K C)) (f__law_take : Cal P w K mg base CX0 1 "_law_take" P__law_take [] (sp_law_take K)) (o_Rule___init__ : Own P w K mg base CX0 6 C.Rule "__init__" P_Rule___init__ (sp_Rule___init__ K C)) (hm : mg "_law_made" = some (.ref f)) (hk : PySem.W.keepIn K (.ref f) = true) (hb : Binds K fd P__law_made []) : ∀ n : Nat, FnOk P w K mg base CX0 (10 + n) f fd P__law_made (sp_law_made K C n)
  | 0 => ⟨fun vs H Q E h => (no_law_made h).elim, fun A outer s H args us vs Q E _ _ _ _ h => (no_law_made h).elim⟩
  | n + 1 => ok__law_made F T  o_Rule___or__ K_Rule o_Rule___and__ ⟨_, _, all__law_made F T  o_Rule___or__ K_Rule o_Rule___and__ fd1_at_least f_at_least f__law_take o_Rule___init__ hm hk hb n, hm, hk, hb⟩ fd1_at_least f_at_least f__law_take o_Rule___init__
theorem ok_Rule_tree {f : Addr} {fd : FuncData} (F : Fun K "tree" "Rule.tree" s_Rule_tree f fd) (T : Bl mg)   : FnOk P w K mg base CX0 1 f fd P_Rule_tree (sp_Rule_tree K C) := by
  obtain ⟨t_MOST_BY, g_MOST_BY⟩ := T.g_MOST_BY
  obtain ⟨t_MOST_LEAVES, g_MOST_LEAVES⟩ := T.g_MOST_LEAVES
  obtain ⟨t_PERIOD, g_PERIOD⟩ := T.g_PERIOD
  refine F.ok sc_Rule_tree (fun vs H Q E h => ln_Rule_tree h) (fun cdv A outer s H vs Q E hr h => ⟨t_Rule_tree K, ?_, rd_Rule_tree  h⟩)
  exact (pss_one (ps_ret (pe_fld (pv 0) rfl)))
theorem ok_least_above {f : Addr} {fd : FuncData} (F : Fun K "least_above" "least_above" s_least_above f fd) (T : Bl mg)  (f_telling : Cal P w K mg base CX0 9 "telling" P_telling [] (sp_telling K)) (f_given : Cal P w K mg base CX0 7 "given" P_given [] (sp_given K 7)) : FnOk P w K mg base CX0 10 f fd P_least_above (sp_least_above K) := by
  obtain ⟨t_MOST_BY, g_MOST_BY⟩ := T.g_MOST_BY
  obtain ⟨t_MOST_LEAVES, g_MOST_LEAVES⟩ := T.g_MOST_LEAVES
  obtain ⟨t_PERIOD, g_PERIOD⟩ := T.g_PERIOD
  refine F.ok sc_least_above (fun vs H Q E h => ln_least_above h) (fun cdv A outer s H vs Q E hr h => ⟨t_least_above K, ?_, rd_least_above  h⟩)
  exact (pss_cons (ps_for PassesOwn.never rfl (pi_list (pe_cal f_telling hr pass0 (pa_cons (pv 0) (pa_cons (pv 1) pa_nil)))) (pg_name (i := 2) sc_least_above.nd rfl (Or.inl rfl)) (pss_one (ps_if (pt_cmpR opGt (pe_cal f_given hr pass0 (pa_cons (pv 0) (pa_cons (pv 2) pa_nil))) (pe_cal f_given hr pass0 (pa_cons (pv 1) (pa_cons (pv 2) pa_nil))) (nomark _)) (pss_one (ps_ret (pv 2))) pss_nil)))
    (pss_one (ps_ret pe_non)))
theorem ok_above {f : Addr} {fd : FuncData} (F : Fun K "above" "above" s_above f fd) (T : Bl mg)  (o_Rule_tree : Own P w K mg base CX0 1 C.Rule "tree" P_Rule_tree (sp_Rule_tree K C)) (K_Rule : Kls K mg "Rule" C.Rule) (f_least_above : Cal P w K mg base CX0 10 "least_above" P_least_above [] (sp_least_above K)) : FnOk P w K mg base CX0 11 f fd P_above (sp_above K C) := by
  obtain ⟨t_MOST_BY, g_MOST_BY⟩ := T.g_MOST_BY
  obtain ⟨t_MOST_LEAVES, g_MOST_LEAVES⟩ := T.g_MOST_LEAVES
  obtain ⟨t_PERIOD, g_PERIOD⟩ := T.g_PERIOD
  refine F.ok sc_above (fun vs H Q E h => ln_above h) (fun cdv A outer s H vs Q E hr h => ⟨t_above K C, ?_, rd_above  h⟩)
  exact (pss_one (ps_ret (pe_cal f_least_above hr pass0 (pa_cons (pe_mt0 K_Rule o_Rule_tree (pv 0) hr pass0) (pa_cons (pe_mt0 K_Rule o_Rule_tree (pv 1) hr pass0) pa_nil)))))
theorem ok_apart {f : Addr} {fd : FuncData} (F : Fun K "apart" "apart" s_apart f fd) (T : Bl mg)  (o_Rule_tree : Own P w K mg base CX0 1 C.Rule "tree" P_Rule_tree (sp_Rule_tree K C)) (K_Rule : Kls K mg "Rule" C.Rule) (f_least_apart : Cal P w K mg base CX0 10 "least_apart" P_least_apart [] (sp_least_apart K)) : FnOk P w K mg base CX0 11 f fd P_apart (sp_apart K C) := by
  obtain ⟨t_MOST_BY, g_MOST_BY⟩ := T.g_MOST_BY
  obtain ⟨t_MOST_LEAVES, g_MOST_LEAVES⟩ := T.g_MOST_LEAVES
  obtain ⟨t_PERIOD, g_PERIOD⟩ := T.g_PERIOD
  refine F.ok sc_apart (fun vs H Q E h => ln_apart h) (fun cdv A outer s H vs Q E hr h => ⟨t_apart K C, ?_, rd_apart  h⟩)
  exact (pss_one (ps_ret (pe_cal f_least_apart hr pass0 (pa_cons (pe_mt0 K_Rule o_Rule_tree (pv 0) hr pass0) (pa_cons (pe_mt0 K_Rule o_Rule_tree (pv 1) hr pass0) pa_nil)))))
theorem ok__law_far_right {f : Addr} {fd : FuncData} (F : Fun K "_law_far_right" "_law_far_right" s__law_far_right f fd) (T : Bl mg)  (f_above : Cal P w K mg base CX0 11 "above" P_above [] (sp_above K C)) (f_apart : Cal P w K mg base CX0 11 "apart" P_apart [] (sp_apart K C)) (f__law_alike : CalG P w K mg base CX0 1 "_law_alike" P__law_alike (sp_law_alike K)) (o_Rule___eq__ : Own P w K mg base CX0 11 C.Rule "__eq__" P_Rule___eq__ (sp_RuleEq K C)) (K_Rule : Kls K mg "Rule" C.Rule) (f__law_far_due : Cal P w K mg base CX0 8 "_law_far_due" P__law_far_due [] (sp_law_far_due K)) (f__law_made : Cal P w K mg base CX0 17 "_law_made" P__law_made [] (sp_law_made K C 7)) (f__law_take : Cal P w K mg base CX0 1 "_law_take" P__law_take [] (sp_law_take K)) (f__law_draw_rule : Cal P w K mg base CX0 3 "_law_draw_rule" P__law_draw_rule [] (sp_law_draw_rule K)) : FnG P w K mg base CX0 18 f fd P__law_far_right (sp_law_far_right K C) := by
  obtain ⟨t_MOST_BY, g_MOST_BY⟩ := T.g_MOST_BY
  obtain ⟨t_MOST_LEAVES, g_MOST_LEAVES⟩ := T.g_MOST_LEAVES
  obtain ⟨t_PERIOD, g_PERIOD⟩ := T.g_PERIOD
  refine okG F sc__law_far_right (fun vs H Q E h => ln_law_far_right h) (fun cdv A outer s H vs Q E gd hr h => ⟨t_law_far_right K C, ?_, rd_law_far_right  h⟩)
  exact (pss_cons (ps_set (i := 1) sc__law_far_right.nd rfl (Or.inl rfl) (pe_callTy callInt rfl T.b_int Pk.boot_t_int (pa_cons (pe_op opAdd pe_str (pe_op opMul pe_str (pe_cal f__law_take hr pass0 (pa_cons (pv 0) (pa_cons pe_int pa_nil))))) pa_nil)))
    (pss_cons (ps_set (i := 2) sc__law_far_right.nd rfl (Or.inl rfl) (pe_cal f__law_draw_rule hr pass0 (pa_cons (pv 0) (pa_cons pe_int (pa_cons (pv 1) (pa_cons (pe_op opAdd pe_int (pe_cal f__law_take hr pass0 (pa_cons (pv 0) (pa_cons pe_int pa_nil)))) pa_nil))))))
    (pss_cons (ps_set (i := 3) sc__law_far_right.nd rfl (Or.inl rfl) (pe_cal f__law_draw_rule hr pass0 (pa_cons (pv 0) (pa_cons pe_int (pa_cons (pv 1) (pa_cons (pe_op opAdd pe_int (pe_cal f__law_take hr pass0 (pa_cons (pv 0) (pa_cons pe_int pa_nil)))) pa_nil))))))
    (Evl.pss_cut (ps_if (pt_cmpR opGt (pe_cal f__law_take hr pass0 (pa_cons (pv 0) (pa_cons pe_int pa_nil))) pe_int (nomark _)) (pss_one (ps_set (i := 3) sc__law_far_right.nd rfl (Or.inl rfl) (pe_tup (pa_cons (pe_ix ix_seq (pe_lst (pa_cons pe_str (pa_cons pe_str pa_nil))) (pe_cal f__law_take hr pass0 (pa_cons (pv 0) (pa_cons pe_int pa_nil))) (fun _ _ => rfl)) (pa_cons (pv 2) (pa_cons (pv 3) pa_nil)))))) pss_nil)
    (pss_cons (ps_par3 (i := 4) (j := 5) (l := 6) (by rfl) sc__law_far_right.nd rfl rfl rfl (by decide) (by decide) (by decide) rfl rfl rfl (pa_cons (pe_cal f__law_made hr pass0 (pa_cons (pv 0) (pa_cons (pv 2) pa_nil))) (pa_cons (pe_cal f__law_made hr pass0 (pa_cons (pv 0) (pa_cons (pv 3) pa_nil))) (pa_cons (pe_cal f__law_far_due hr pass0 (pa_cons (pv 2) (pa_cons (pv 3) pa_nil))) pa_nil))) (by rfl))
    (pss_cons (ps_for PassesOwn.never rfl (pi_range1 rfl T.b_range (pa_cons pe_int pa_nil)) (pg_name (i := 7) sc__law_far_right.nd rfl (Or.inl rfl)) (pss_cons (ps_set (i := 8) sc__law_far_right.nd rfl (Or.inl rfl) (pe_lst (pa_cons (pe_cal f_apart hr pass0 (pa_cons (pv 4) (pa_cons (pv 5) pa_nil))) (pa_cons (pe_cal f_apart hr pass0 (pa_cons (pv 5) (pa_cons (pv 4) pa_nil))) (pa_cons (pe_cal f_above hr pass0 (pa_cons (pv 4) (pa_cons (pv 5) pa_nil))) (pa_cons (pe_cal f_above hr pass0 (pa_cons (pv 5) (pa_cons (pv 4) pa_nil))) pa_nil))))))
    (pss_one (ps_if (PW.pt (pw_or (pt_not (pt_val (pe_calg f__law_alike gd hr pass0 (pa_cons (pv 8) (pa_cons (pv 6) pa_nil))))) (pw_or1 (pt_not (pt_val (pe_calg f__law_alike gd hr pass0 (pa_cons (pe_cmpR (op_eqA K_Rule o_Rule___eq__ hr pass0) (pv 4) (pv 5) (nomark _)) (pa_cons (pe_cmpR opIsN (pe_ix ix_seq (pv 6) pe_int (fun _ _ => rfl)) pe_non (nomark _)) pa_nil)))))))) (pss_one (ps_ret pe_bl)) pss_nil))))
    (pss_one (ps_ret (pe_calg f__law_alike gd hr pass0 (pa_cons (pe_lst (pa_cons (pe_cal f_apart hr pass0 (pa_cons (pv 4) (pa_cons (pv 4) pa_nil))) (pa_cons (pe_cal f_above hr pass0 (pa_cons (pv 5) (pa_cons (pv 5) pa_nil))) pa_nil))) (pa_cons (pe_lst (pa_cons pe_non (pa_cons pe_non pa_nil))) pa_nil)))))))))))
theorem ok__law_lifted {n : Nat} {f : Addr} {fd : FuncData} (F : Fun K "_law_lifted" "_law_lifted" s__law_lifted f fd) (T : Bl mg)  (f__law_lifted : Cal P w K mg base CX0 (0 + n) "_law_lifted" P__law_lifted [] (sp_law_lifted K n)) : FnOk P w K mg base CX0 (0 + n + 1) f fd P__law_lifted (sp_law_lifted K (n + 1)) := by
  obtain ⟨t_MOST_BY, g_MOST_BY⟩ := T.g_MOST_BY
  obtain ⟨t_MOST_LEAVES, g_MOST_LEAVES⟩ := T.g_MOST_LEAVES
  obtain ⟨t_PERIOD, g_PERIOD⟩ := T.g_PERIOD
  refine F.ok sc__law_lifted (fun vs H Q E h => ln_law_lifted h) (fun cdv A outer s H vs Q E hr h => ⟨t_law_lifted K n, ?_, rd_law_lifted  h⟩)
  exact (pss_cons (ps_asg (pv 0) (pg_tup rfl (pgs_cons (pg_name (i := 2) sc__law_lifted.nd rfl (Or.inl rfl)) (pgs_cons (pg_name (i := 3) sc__law_lifted.nd rfl (Or.inl rfl)) (pgs_cons (pg_name (i := 4) sc__law_lifted.nd rfl (Or.inl rfl)) pgs_nil)))))
    (pss_cons (ps_if (pt_cmpR (opEq hr.units) (pv 2) pe_str (nomark _)) (pss_one (ps_ret (pe_tup (pa_cons pe_str (pa_cons (pe_op opAdd (pe_callB (call_max2 rfl) rfl T.b_max Pk.boot_max (pa_cons (pv 3) (pa_cons (pv 4) pa_nil))) (pv 1)) (pa_cons (pv 4) pa_nil)))))) pss_nil)
    (pss_one (ps_ret (pe_tup (pa_cons (pv 2) (pa_cons (pe_cal f__law_lifted hr pass0 (pa_cons (pv 3) (pa_cons (pv 1) pa_nil))) (pa_cons (pe_cal f__law_lifted hr pass0 (pa_cons (pv 4) (pa_cons (pv 1) pa_nil))) pa_nil))))))))
theorem all__law_lifted {f : Addr} {fd : FuncData} (F : Fun K "_law_lifted" "_law_lifted" s__law_lifted f fd) (T : Bl mg)   (hm : mg "_law_lifted" = some (.ref f)) (hk : PySem.W.keepIn K (.ref f) = true) (hb : Binds K fd P__law_lifted []) : ∀ n : Nat, FnOk P w K mg base CX0 (0 + n) f fd P__law_lifted (sp_law_lifted K n)
  | 0 => ⟨fun vs H Q E h => (no_law_lifted h).elim, fun A outer s H args us vs Q E _ _ _ _ h => (no_law_lifted h).elim⟩
  | n + 1 => ok__law_lifted F T  ⟨_, _, all__law_lifted F T   hm hk hb n, hm, hk, hb⟩
theorem ok_law {f : Addr} {fd : FuncData} (F : Fun K "law" "law" s_law f fd) (T : Bl mg) (fx_FxRule : FxRule K C) (f__law_bounds : Cal P w K mg base CX0 7 "_law_bounds" P__law_bounds [] (sp_law_bounds K 7)) (f__law_take : Cal P w K mg base CX0 1 "_law_take" P__law_take [] (sp_law_take K)) (f__law_alike : CalG P w K mg base CX0 1 "_law_alike" P__law_alike (sp_law_alike K)) (f_above : Cal P w K mg base CX0 11 "above" P_above [] (sp_above K C)) (f_apart : Cal P w K mg base CX0 11 "apart" P_apart [] (sp_apart K C)) (f__law_least : Cal P w K mg base CX0 1 "_law_least" P__law_least [] (sp_law_least K)) (f__law_lifted : Cal P w K mg base CX0 7 "_law_lifted" P__law_lifted [] (sp_law_lifted K 7)) (f__law_made : Cal P w K mg base CX0 17 "_law_made" P__law_made [] (sp_law_made K C 7)) (f__law_give : Cal P w K mg base CX0 7 "_law_give" P__law_give [] (sp_law_give K 7)) (f__law_draw_rule : Cal P w K mg base CX0 3 "_law_draw_rule" P__law_draw_rule [] (sp_law_draw_rule K)) (f__law_far_right : CalG P w K mg base CX0 18 "_law_far_right" P__law_far_right (sp_law_far_right K C)) (f__law_bag : Cal P w K mg base CX0 1 "_law_bag" P__law_bag [] (sp_law_bag K)) : FnG P w K mg base CX0 19 f fd P_law (sp_law K) := by
  obtain ⟨t_MOST_BY, g_MOST_BY⟩ := T.g_MOST_BY
  obtain ⟨t_MOST_LEAVES, g_MOST_LEAVES⟩ := T.g_MOST_LEAVES
  obtain ⟨t_PERIOD, g_PERIOD⟩ := T.g_PERIOD
  refine okG F sc_law (fun vs H Q E h => ln_law h) (fun cdv A outer s H vs Q E gd hr h => ⟨t_law K C, ?_, rd_law fx_FxRule h⟩)
  exact (pss_cons (ps_set (i := 1) sc_law.nd rfl (Or.inl rfl) (pe_cal f__law_bag hr pass0 (pa_cons (pv 0) pa_nil)))
    (pss_cons (ps_for PassesOwn.never rfl (pi_range1 rfl T.b_range (pa_cons pe_int pa_nil)) (pg_name (i := 2) sc_law.nd rfl (Or.inl rfl)) (pss_cons (ps_if (PW.pt (pw_or (pt_not (pt_val (pe_calg f__law_far_right gd hr pass0 (pa_cons (pv 1) pa_nil)))) (pw_or1 (pt_not (pt_val (pe_calg f__law_far_right gd hr pass0 (pa_cons (pv 1) pa_nil))))))) (pss_one (ps_ret pe_bl)) pss_nil)
    (pss_cons (ps_set (i := 3) sc_law.nd rfl (Or.inr rfl) (pe_cal f__law_draw_rule hr pass0 (pa_cons (pv 1) (pa_cons pe_int (pa_cons pe_int (pa_cons (pe_op opAdd pe_int (pe_cal f__law_take hr pass0 (pa_cons (pv 1) (pa_cons pe_int pa_nil)))) pa_nil))))))
    (pss_cons (ps_set (i := 4) sc_law.nd rfl (Or.inr rfl) (pe_cal f__law_draw_rule hr pass0 (pa_cons (pv 1) (pa_cons pe_int (pa_cons pe_int (pa_cons (pe_op opAdd pe_int (pe_cal f__law_take hr pass0 (pa_cons (pv 1) (pa_cons pe_int pa_nil)))) pa_nil))))))
    (Evl.pss_cut (ps_if (pt_cmpR (opEq hr.units) (pe_cal f__law_take hr pass0 (pa_cons (pv 1) (pa_cons pe_int pa_nil))) pe_int (nomark _)) (pss_one (ps_set (i := 4) sc_law.nd rfl (Or.inr rfl) (pe_tup (pa_cons (pe_ix ix_seq (pe_lst (pa_cons pe_str (pa_cons pe_str pa_nil))) (pe_cal f__law_take hr pass0 (pa_cons (pv 1) (pa_cons pe_int pa_nil))) (fun _ _ => rfl)) (pa_cons (pv 3) (pa_cons (pv 4) pa_nil)))))) pss_nil)
    (pss_one (ps_if (pt_cmpR opLt (pe_callB callLen rfl T.b_len Pk.boot_len (pa_cons (pe_cal f__law_bounds hr pass0 (pa_cons (pv 4) pa_nil)) pa_nil)) pe_int (nomark _)) (pss_cons (ps_set (i := 5) sc_law.nd rfl (Or.inr rfl) (pe_lc (own := [("_law_amount", 15)]) (g := (gName 15)) (tt := tYes) rfl sc_law.nd (pi_range1 rfl T.b_range (pa_cons pe_int pa_nil)) (blkOk_by (N := N_law) (own := [("_law_amount", 15)]) (sc := defScope s_law) (by decide +kernel)) (fun _ _ _ _ _ => (pg_name (i := 15) sc_law.nd rfl (Or.inl rfl))) (fun _ _ _ _ _ => pts_nil) (fun _ _ _ _ _ => (pe_tup (pa_cons (pe_cal f__law_give hr pass0 (pa_cons (pv 3) (pa_cons (pv 15) pa_nil))) (pa_cons (pe_cal f__law_give hr pass0 (pa_cons (pv 4) (pa_cons (pv 15) pa_nil))) pa_nil))))))
    (pss_cons (ps_setLc (i := 6) (own := [("_law_k", 16)]) (g := (gName 16)) (tt := (tTest (tOp (rNeU K) (tOp (rIx K) (tOp (rIx K) (tVar 5) (tVar 16)) (tC (.int 0))) (tOp (rIx K) (tOp (rIx K) (tVar 5) (tVar 16)) (tC (.int 1)))))) rfl sc_law.nd rfl rfl (sw_true rfl rfl rfl (by decide +kernel)) (pi_range1 rfl T.b_range (pa_cons pe_int pa_nil)) (blkOk_by (N := N_law) (own := [("_law_k", 16)]) (sc := defScope s_law) (by decide +kernel)) (fun _ _ _ _ _ => (pg_name (i := 16) sc_law.nd rfl (Or.inl rfl))) (fun _ _ _ _ _ => (pts_one (pt_cmpR (opNe hr.units) (pe_ix ix_seq (pe_ix ix_seq (pv 5) (pv 16) (fun _ _ => rfl)) pe_int (fun _ _ => rfl)) (pe_ix ix_seq (pe_ix ix_seq (pv 5) (pv 16) (fun _ _ => rfl)) pe_int (fun _ _ => rfl)) (nomark _)))) (fun _ _ _ _ _ => (pv 16)))
    (pss_cons (ps_setLc (i := 7) (own := [("_law_k", 16)]) (g := (gName 16)) (tt := (tTest (tOp (rGtI) (tOp (rIx K) (tOp (rIx K) (tVar 5) (tVar 16)) (tC (.int 0))) (tOp (rIx K) (tOp (rIx K) (tVar 5) (tVar 16)) (tC (.int 1)))))) rfl sc_law.nd rfl rfl (sw_true rfl rfl rfl (by decide +kernel)) (pi_range1 rfl T.b_range (pa_cons pe_int pa_nil)) (blkOk_by (N := N_law) (own := [("_law_k", 16)]) (sc := defScope s_law) (by decide +kernel)) (fun _ _ _ _ _ => (pg_name (i := 16) sc_law.nd rfl (Or.inl rfl))) (fun _ _ _ _ _ => (pts_one (pt_cmpR opGt (pe_ix ix_seq (pe_ix ix_seq (pv 5) (pv 16) (fun _ _ => rfl)) pe_int (fun _ _ => rfl)) (pe_ix ix_seq (pe_ix ix_seq (pv 5) (pv 16) (fun _ _ => rfl)) pe_int (fun _ _ => rfl)) (nomark _)))) (fun _ _ _ _ _ => (pv 16)))
    (pss_cons (ps_setLc (i := 8) (own := [("_law_k", 16)]) (g := (gName 16)) (tt := (tTest (tOp (rLtI) (tOp (rIx K) (tOp (rIx K) (tVar 5) (tVar 16)) (tC (.int 0))) (tOp (rIx K) (tOp (rIx K) (tVar 5) (tVar 16)) (tC (.int 1)))))) rfl sc_law.nd rfl rfl (sw_true rfl rfl rfl (by decide +kernel)) (pi_range1 rfl T.b_range (pa_cons pe_int pa_nil)) (blkOk_by (N := N_law) (own := [("_law_k", 16)]) (sc := defScope s_law) (by decide +kernel)) (fun _ _ _ _ _ => (pg_name (i := 16) sc_law.nd rfl (Or.inl rfl))) (fun _ _ _ _ _ => (pts_one (pt_cmpR opLt (pe_ix ix_seq (pe_ix ix_seq (pv 5) (pv 16) (fun _ _ => rfl)) pe_int (fun _ _ => rfl)) (pe_ix ix_seq (pe_ix ix_seq (pv 5) (pv 16) (fun _ _ => rfl)) pe_int (fun _ _ => rfl)) (nomark _)))) (fun _ _ _ _ _ => (pv 16)))
    (pss_one (ps_for PassesOwn.never rfl (pi_tup (pe_tup (pa_cons pe_int (pa_cons (pe_op opMul pe_int (pe_cal f__law_take hr pass0 (pa_cons (pv 1) (pa_cons (pe_op opPow pe_int pe_int) pa_nil)))) pa_nil)))) (pg_name (i := 9) sc_law.nd rfl (Or.inr rfl)) (pss_cons (ps_par (i := 10) (j := 11) (by rfl) sc_law.nd rfl rfl (by decide) rfl rfl (pa_cons (pe_cal f__law_made hr pass0 (pa_cons (pv 1) (pa_cons (pe_cal f__law_lifted hr pass0 (pa_cons (pv 3) (pa_cons (pv 9) pa_nil))) pa_nil))) (pa_cons (pe_cal f__law_made hr pass0 (pa_cons (pv 1) (pa_cons (pe_cal f__law_lifted hr pass0 (pa_cons (pv 4) (pa_cons (pv 9) pa_nil))) pa_nil))) pa_nil)) (by rfl))
    (pss_cons (ps_setLc (i := 12) (own := [("_law_some", 17)]) (g := (gName 17)) (tt := tYes) rfl sc_law.nd rfl rfl (sw_true rfl rfl rfl (by decide +kernel)) (pi_tup (pe_tup (pa_cons (pv 6) (pa_cons (pv 6) (pa_cons (pv 7) (pa_cons (pv 8) pa_nil)))))) (blkOk_by (N := N_law) (own := [("_law_some", 17)]) (sc := defScope s_law) (by decide +kernel)) (fun _ _ _ _ _ => (pg_name (i := 17) sc_law.nd rfl (Or.inl rfl))) (fun _ _ _ _ _ => pts_nil) (fun _ _ _ _ _ => (pe_cal f__law_least hr pass0 (pa_cons (pv 17) (pa_cons (pv 9) pa_nil)))))
    (pss_one (ps_for PassesOwn.never rfl (pi_range1 rfl T.b_range (pa_cons pe_int pa_nil)) (pg_name (i := 13) sc_law.nd rfl (Or.inl rfl)) (pss_cons (ps_set (i := 14) sc_law.nd rfl (Or.inl rfl) (pe_lst (pa_cons (pe_cal f_apart hr pass0 (pa_cons (pv 10) (pa_cons (pv 11) pa_nil))) (pa_cons (pe_cal f_apart hr pass0 (pa_cons (pv 11) (pa_cons (pv 10) pa_nil))) (pa_cons (pe_cal f_above hr pass0 (pa_cons (pv 10) (pa_cons (pv 11) pa_nil))) (pa_cons (pe_cal f_above hr pass0 (pa_cons (pv 11) (pa_cons (pv 10) pa_nil))) pa_nil))))))
    (pss_one (ps_if (pt_not (pt_val (pe_calg f__law_alike gd hr pass0 (pa_cons (pv 14) (pa_cons (pv 12) pa_nil))))) (pss_one (ps_ret pe_bl)) pss_nil))))))))))))) pss_nil)))))))
    (pss_one (ps_ret pe_bl))))
end
theorem all_mk {l : PySem.W.OpenLaw} {w : World} {K : PySem.W.Frag} {h : Heap} {mg : Str → Option Value} {fa : Addr} (X : K.In h) (G : h.Ns mainGlobals mg) (hfa : mg "law" = some (.ref fa))
    {c_Rule : Addr}
    {f0 : Addr} {od0 an0 : Option Addr} {oc0 kV0 dc0 pm0 cd0 ct0 : Value} {sl0 : Array (Option Value)}
    {f1 : Addr} {od1 an1 : Option Addr} {oc1 kV1 dc1 pm1 cd1 ct1 : Value} {sl1 : Array (Option Value)}
    {f2 : Addr} {od2 an2 : Option Addr} {oc2 kV2 dc2 pm2 cd2 ct2 : Value} {sl2 : Array (Option Value)}
    {f3 : Addr} {od3 an3 : Option Addr} {oc3 kV3 dc3 pm3 cd3 ct3 : Value} {sl3 : Array (Option Value)}
    {f4 : Addr} {od4 an4 : Option Addr} {oc4 kV4 dc4 pm4 cd4 ct4 : Value} {sl4 : Array (Option Value)}
    {f5 : Addr} {od5 an5 : Option Addr} {oc5 kV5 dc5 pm5 cd5 ct5 : Value} {sl5 : Array (Option Value)}
    {f6 : Addr} {od6 an6 : Option Addr} {oc6 kV6 dc6 pm6 cd6 ct6 : Value} {sl6 : Array (Option Value)}
    {f7 : Addr} {od7 an7 : Option Addr} {oc7 kV7 dc7 pm7 cd7 ct7 : Value} {sl7 : Array (Option Value)}
    {f8 : Addr} {od8 an8 : Option Addr} {oc8 kV8 dc8 pm8 cd8 ct8 : Value} {sl8 : Array (Option Value)}
    {f9 : Addr} {od9 an9 : Option Addr} {oc9 kV9 dc9 pm9 cd9 ct9 : Value} {sl9 : Array (Option Value)}
    {f10 : Addr} {od10 an10 : Option Addr} {oc10 kV10 dc10 pm10 cd10 ct10 : Value} {sl10 : Array (Option Value)}
    {f11 : Addr} {od11 an11 : Option Addr} {oc11 kV11 dc11 pm11 cd11 ct11 : Value} {sl11 : Array (Option Value)}
    {f12 : Addr} {od12 an12 : Option Addr} {oc12 kV12 dc12 pm12 cd12 ct12 : Value} {sl12 : Array (Option Value)}
    {f13 : Addr} {od13 an13 : Option Addr} {oc13 kV13 dc13 pm13 cd13 ct13 : Value} {sl13 : Array (Option Value)}
    {f14 : Addr} {od14 an14 : Option Addr} {oc14 kV14 dc14 pm14 cd14 ct14 : Value} {sl14 : Array (Option Value)}
    {f15 : Addr} {od15 an15 : Option Addr} {oc15 kV15 dc15 pm15 cd15 ct15 : Value} {sl15 : Array (Option Value)}
    {f16 : Addr} {od16 an16 : Option Addr} {oc16 kV16 dc16 pm16 cd16 ct16 : Value} {sl16 : Array (Option Value)}
    {f17 : Addr} {od17 an17 : Option Addr} {oc17 kV17 dc17 pm17 cd17 ct17 : Value} {sl17 : Array (Option Value)}
    {f18 : Addr} {od18 an18 : Option Addr} {oc18 kV18 dc18 pm18 cd18 ct18 : Value} {sl18 : Array (Option Value)}
    {f19 : Addr} {od19 an19 : Option Addr} {oc19 kV19 dc19 pm19 cd19 ct19 : Value} {sl19 : Array (Option Value)}
    {f20 : Addr} {od20 an20 : Option Addr} {oc20 kV20 dc20 pm20 cd20 ct20 : Value} {sl20 : Array (Option Value)}
    {f21 : Addr} {od21 an21 : Option Addr} {oc21 kV21 dc21 pm21 cd21 ct21 : Value} {sl21 : Array (Option Value)}
    {f22 : Addr} {od22 an22 : Option Addr} {oc22 kV22 dc22 pm22 cd22 ct22 : Value} {sl22 : Array (Option Value)}
    {f23 : Addr} {od23 an23 : Option Addr} {oc23 kV23 dc23 pm23 cd23 ct23 : Value} {sl23 : Array (Option Value)}
    {f24 : Addr} {od24 an24 : Option Addr} {oc24 kV24 dc24 pm24 cd24 ct24 : Value} {sl24 : Array (Option Value)}
    {f25 : Addr} {od25 an25 : Option Addr} {oc25 kV25 dc25 pm25 cd25 ct25 : Value} {sl25 : Array (Option Value)}
    {T25 : Addr} {tT25 : Tok} {nT25 : Nat}
    {cT25 : Value} {dT25 : Option Addr} {sT25 : Array (Option Value)}
    {f26 : Addr} {od26 an26 : Option Addr} {oc26 kV26 dc26 pm26 cd26 ct26 : Value} {sl26 : Array (Option Value)}
    {f27 : Addr} {od27 an27 : Option Addr} {oc27 kV27 dc27 pm27 cd27 ct27 : Value} {sl27 : Array (Option Value)}
    {f28 : Addr} {od28 an28 : Option Addr} {oc28 kV28 dc28 pm28 cd28 ct28 : Value} {sl28 : Array (Option Value)}
    {f29 : Addr} {od29 an29 : Option Addr} {oc29 kV29 dc29 pm29 cd29 ct29 : Value} {sl29 : Array (Option Value)}
    {f30 : Addr} {od30 an30 : Option Addr} {oc30 kV30 dc30 pm30 cd30 ct30 : Value} {sl30 : Array (Option Value)}
    {f31 : Addr} {od31 an31 : Option Addr} {oc31 kV31 dc31 pm31 cd31 ct31 : Value} {sl31 : Array (Option Value)}
    {f32 : Addr} {od32 an32 : Option Addr} {oc32 kV32 dc32 pm32 cd32 ct32 : Value} {sl32 : Array (Option Value)}
    {f33 : Addr} {od33 an33 : Option Addr} {oc33 kV33 dc33 pm33 cd33 ct33 : Value} {sl33 : Array (Option Value)}
    {tk_MOST_BY : Tok}
    {tk_MOST_LEAVES : Tok}
    {tk_PERIOD : Tok}
    (aC_Rule : PySem.W.nsIn K mainGlobals "Rule" = some (some (.ref c_Rule)))
    (pg_Rule : PySem.W.plainGet K c_Rule Str.empty = true)
    (hd_Rule : PySem.W.hasDictIn K c_Rule = true)
    (po_Rule : PySem.W.plainOver K c_Rule = true)
    (sa_Rule : PySem.W.findIn K (.ref c_Rule) "__setattr__" = some (some (.builtin "object.__setattr__")))
    (mk_Rule : PySem.W.makesIn K c_Rule = true)
    (kc_Rule : PySem.W.keepIn K (.ref c_Rule) = true)
    (sf_Rule : PySem.W.selfFirst K c_Rule = true)
    (ha_Rule : PySem.W.findIn K (.ref c_Rule) "__class__" = some (some (.builtin "object.__class__")))
    (hn_Rule : PySem.W.specialIn K (.builtin "object.__class__") "__get__" = some (some (.builtin "getset_descriptor.__get__")))
    (ht_Rule : PySem.W.takesIn K (.builtin "object.__class__") = some true)
    (hm_Rule : PySem.W.mroIn K c_Rule (.type "object") = some true)
    (ne_Rule : PySem.W.findIn K (.ref c_Rule) "__ne__" = some (some (.builtin "object.__ne__")))
    (na_Rule__tree : PySem.W.findIn K (.ref c_Rule) "_tree" = some none)
    (a0 : PySem.W.nsIn K mainGlobals "_law_alike" = some (some (.ref f0)))
    (l0 : K.lookup f0 = some ⟨oc0, od0, .func (PySem.W.fnOf "_law_alike" "_law_alike" (defArgs s__law_alike) (defBody s__law_alike) (defScope s__law_alike) .none kV0 dc0 pm0 an0 cd0 ct0), sl0⟩)
    (c0 : PySem.W.codeIn K cd0 "_law_alike" = true)
    (k0 : PySem.W.keepIn K (.ref f0) = true)
    (a1 : PySem.W.nsIn K mainGlobals "_law_bag" = some (some (.ref f1)))
    (l1 : K.lookup f1 = some ⟨oc1, od1, .func (PySem.W.fnOf "_law_bag" "_law_bag" (defArgs s__law_bag) (defBody s__law_bag) (defScope s__law_bag) .none kV1 dc1 pm1 an1 cd1 ct1), sl1⟩)
    (c1 : PySem.W.codeIn K cd1 "_law_bag" = true)
    (k1 : PySem.W.keepIn K (.ref f1) = true)
    (a2 : PySem.W.nsIn K mainGlobals "_law_bounds" = some (some (.ref f2)))
    (l2 : K.lookup f2 = some ⟨oc2, od2, .func (PySem.W.fnOf "_law_bounds" "_law_bounds" (defArgs s__law_bounds) (defBody s__law_bounds) (defScope s__law_bounds) .none kV2 dc2 pm2 an2 cd2 ct2), sl2⟩)
    (c2 : PySem.W.codeIn K cd2 "_law_bounds" = true)
    (k2 : PySem.W.keepIn K (.ref f2) = true)
    (a3 : PySem.W.nsIn K mainGlobals "_law_take" = some (some (.ref f3)))
    (l3 : K.lookup f3 = some ⟨oc3, od3, .func (PySem.W.fnOf "_law_take" "_law_take" (defArgs s__law_take) (defBody s__law_take) (defScope s__law_take) .none kV3 dc3 pm3 an3 cd3 ct3), sl3⟩)
    (c3 : PySem.W.codeIn K cd3 "_law_take" = true)
    (k3 : PySem.W.keepIn K (.ref f3) = true)
    (a4 : PySem.W.nsIn K mainGlobals "_law_draw_size" = some (some (.ref f4)))
    (l4 : K.lookup f4 = some ⟨oc4, od4, .func (PySem.W.fnOf "_law_draw_size" "_law_draw_size" (defArgs s__law_draw_size) (defBody s__law_draw_size) (defScope s__law_draw_size) .none kV4 dc4 pm4 an4 cd4 ct4), sl4⟩)
    (c4 : PySem.W.codeIn K cd4 "_law_draw_size" = true)
    (k4 : PySem.W.keepIn K (.ref f4) = true)
    (a5 : PySem.W.nsIn K mainGlobals "_law_draw_rule" = some (some (.ref f5)))
    (l5 : K.lookup f5 = some ⟨oc5, od5, .func (PySem.W.fnOf "_law_draw_rule" "_law_draw_rule" (defArgs s__law_draw_rule) (defBody s__law_draw_rule) (defScope s__law_draw_rule) .none kV5 dc5 pm5 an5 cd5 ct5), sl5⟩)
    (c5 : PySem.W.codeIn K cd5 "_law_draw_rule" = true)
    (k5 : PySem.W.keepIn K (.ref f5) = true)
    (a6 : PySem.W.nsIn K mainGlobals "given" = some (some (.ref f6)))
    (l6 : K.lookup f6 = some ⟨oc6, od6, .func (PySem.W.fnOf "given" "given" (defArgs s_given) (defBody s_given) (defScope s_given) .none kV6 dc6 pm6 an6 cd6 ct6), sl6⟩)
    (c6 : PySem.W.codeIn K cd6 "given" = true)
    (k6 : PySem.W.keepIn K (.ref f6) = true)
    (a7 : PySem.W.nsIn K mainGlobals "leaves_of" = some (some (.ref f7)))
    (l7 : K.lookup f7 = some ⟨oc7, od7, .func (PySem.W.fnOf "leaves_of" "leaves_of" (defArgs s_leaves_of) (defBody s_leaves_of) (defScope s_leaves_of) .none kV7 dc7 pm7 an7 cd7 ct7), sl7⟩)
    (c7 : PySem.W.codeIn K cd7 "leaves_of" = true)
    (k7 : PySem.W.keepIn K (.ref f7) = true)
    (a8 : PySem.W.nsIn K mainGlobals "starts_of" = some (some (.ref f8)))
    (l8 : K.lookup f8 = some ⟨oc8, od8, .func (PySem.W.fnOf "starts_of" "starts_of" (defArgs s_starts_of) (defBody s_starts_of) (defScope s_starts_of) .none kV8 dc8 pm8 an8 cd8 ct8), sl8⟩)
    (c8 : PySem.W.codeIn K cd8 "starts_of" = true)
    (k8 : PySem.W.keepIn K (.ref f8) = true)
    (a9 : PySem.W.nsIn K mainGlobals "telling" = some (some (.ref f9)))
    (l9 : K.lookup f9 = some ⟨oc9, od9, .func (PySem.W.fnOf "telling" "telling" (defArgs s_telling) (defBody s_telling) (defScope s_telling) .none kV9 dc9 pm9 an9 cd9 ct9), sl9⟩)
    (c9 : PySem.W.codeIn K cd9 "telling" = true)
    (k9 : PySem.W.keepIn K (.ref f9) = true)
    (a10 : PySem.W.nsIn K mainGlobals "least_apart" = some (some (.ref f10)))
    (l10 : K.lookup f10 = some ⟨oc10, od10, .func (PySem.W.fnOf "least_apart" "least_apart" (defArgs s_least_apart) (defBody s_least_apart) (defScope s_least_apart) .none kV10 dc10 pm10 an10 cd10 ct10), sl10⟩)
    (c10 : PySem.W.codeIn K cd10 "least_apart" = true)
    (k10 : PySem.W.keepIn K (.ref f10) = true)
    (a11 : PySem.W.findIn K (.ref c_Rule) "__eq__" = some (some (.ref f11)))
    (i11 : PySem.W.isFn K (.ref f11) = true)
    (h11 : PySem.W.fnIn K f11 = true)
    (l11 : K.lookup f11 = some ⟨oc11, od11, .func (PySem.W.fnOf "__eq__" "Rule.__eq__" (defArgs s_Rule___eq__) (defBody s_Rule___eq__) (defScope s_Rule___eq__) .none kV11 dc11 pm11 an11 cd11 ct11), sl11⟩)
    (c11 : PySem.W.codeIn K cd11 "Rule.__eq__" = true)
    (k11 : PySem.W.keepIn K (.ref f11) = true)
    (a12 : PySem.W.nsIn K mainGlobals "_law_give" = some (some (.ref f12)))
    (l12 : K.lookup f12 = some ⟨oc12, od12, .func (PySem.W.fnOf "_law_give" "_law_give" (defArgs s__law_give) (defBody s__law_give) (defScope s__law_give) .none kV12 dc12 pm12 an12 cd12 ct12), sl12⟩)
    (c12 : PySem.W.codeIn K cd12 "_law_give" = true)
    (k12 : PySem.W.keepIn K (.ref f12) = true)
    (a13 : PySem.W.nsIn K mainGlobals "_law_least" = some (some (.ref f13)))
    (l13 : K.lookup f13 = some ⟨oc13, od13, .func (PySem.W.fnOf "_law_least" "_law_least" (defArgs s__law_least) (defBody s__law_least) (defScope s__law_least) .none kV13 dc13 pm13 an13 cd13 ct13), sl13⟩)
    (c13 : PySem.W.codeIn K cd13 "_law_least" = true)
    (k13 : PySem.W.keepIn K (.ref f13) = true)
    (a14 : PySem.W.nsIn K mainGlobals "_law_far_due" = some (some (.ref f14)))
    (l14 : K.lookup f14 = some ⟨oc14, od14, .func (PySem.W.fnOf "_law_far_due" "_law_far_due" (defArgs s__law_far_due) (defBody s__law_far_due) (defScope s__law_far_due) .none kV14 dc14 pm14 an14 cd14 ct14), sl14⟩)
    (c14 : PySem.W.codeIn K cd14 "_law_far_due" = true)
    (k14 : PySem.W.keepIn K (.ref f14) = true)
    (a15 : PySem.W.nsIn K mainGlobals "has_word" = some (some (.ref f15)))
    (l15 : K.lookup f15 = some ⟨oc15, od15, .func (PySem.W.fnOf "has_word" "has_word" (defArgs s_has_word) (defBody s_has_word) (defScope s_has_word) .none kV15 dc15 pm15 an15 cd15 ct15), sl15⟩)
    (c15 : PySem.W.codeIn K cd15 "has_word" = true)
    (k15 : PySem.W.keepIn K (.ref f15) = true)
    (a16 : PySem.W.nsIn K mainGlobals "is_integer" = some (some (.ref f16)))
    (l16 : K.lookup f16 = some ⟨oc16, od16, .func (PySem.W.fnOf "is_integer" "is_integer" (defArgs s_is_integer) (defBody s_is_integer) (defScope s_is_integer) .none kV16 dc16 pm16 an16 cd16 ct16), sl16⟩)
    (c16 : PySem.W.codeIn K cd16 "is_integer" = true)
    (k16 : PySem.W.keepIn K (.ref f16) = true)
    (a17 : PySem.W.nsIn K mainGlobals "is_number" = some (some (.ref f17)))
    (l17 : K.lookup f17 = some ⟨oc17, od17, .func (PySem.W.fnOf "is_number" "is_number" (defArgs s_is_number) (defBody s_is_number) (defScope s_is_number) .none kV17 dc17 pm17 an17 cd17 ct17), sl17⟩)
    (c17 : PySem.W.codeIn K cd17 "is_number" = true)
    (k17 : PySem.W.keepIn K (.ref f17) = true)
    (a18 : PySem.W.nsIn K mainGlobals "is_by" = some (some (.ref f18)))
    (l18 : K.lookup f18 = some ⟨oc18, od18, .func (PySem.W.fnOf "is_by" "is_by" (defArgs s_is_by) (defBody s_is_by) (defScope s_is_by) .none kV18 dc18 pm18 an18 cd18 ct18), sl18⟩)
    (c18 : PySem.W.codeIn K cd18 "is_by" = true)
    (k18 : PySem.W.keepIn K (.ref f18) = true)
    (a19 : PySem.W.nsIn K mainGlobals "is_leaf" = some (some (.ref f19)))
    (l19 : K.lookup f19 = some ⟨oc19, od19, .func (PySem.W.fnOf "is_leaf" "is_leaf" (defArgs s_is_leaf) (defBody s_is_leaf) (defScope s_is_leaf) .none kV19 dc19 pm19 an19 cd19 ct19), sl19⟩)
    (c19 : PySem.W.codeIn K cd19 "is_leaf" = true)
    (k19 : PySem.W.keepIn K (.ref f19) = true)
    (a20 : PySem.W.nsIn K mainGlobals "is_tree" = some (some (.ref f20)))
    (l20 : K.lookup f20 = some ⟨oc20, od20, .func (PySem.W.fnOf "is_tree" "is_tree" (defArgs s_is_tree) (defBody s_is_tree) (defScope s_is_tree) .none kV20 dc20 pm20 an20 cd20 ct20), sl20⟩)
    (c20 : PySem.W.codeIn K cd20 "is_tree" = true)
    (k20 : PySem.W.keepIn K (.ref f20) = true)
    (a21 : PySem.W.findIn K (.ref c_Rule) "__init__" = some (some (.ref f21)))
    (i21 : PySem.W.isFn K (.ref f21) = true)
    (h21 : PySem.W.fnIn K f21 = true)
    (l21 : K.lookup f21 = some ⟨oc21, od21, .func (PySem.W.fnOf "__init__" "Rule.__init__" (defArgs s_Rule___init__) (defBody s_Rule___init__) (defScope s_Rule___init__) .none kV21 dc21 pm21 an21 cd21 ct21), sl21⟩)
    (c21 : PySem.W.codeIn K cd21 "Rule.__init__" = true)
    (k21 : PySem.W.keepIn K (.ref f21) = true)
    (a22 : PySem.W.nsIn K mainGlobals "joined" = some (some (.ref f22)))
    (l22 : K.lookup f22 = some ⟨oc22, od22, .func (PySem.W.fnOf "joined" "joined" (defArgs s_joined) (defBody s_joined) (defScope s_joined) .none kV22 dc22 pm22 an22 cd22 ct22), sl22⟩)
    (c22 : PySem.W.codeIn K cd22 "joined" = true)
    (k22 : PySem.W.keepIn K (.ref f22) = true)
    (a23 : PySem.W.findIn K (.ref c_Rule) "__and__" = some (some (.ref f23)))
    (i23 : PySem.W.isFn K (.ref f23) = true)
    (h23 : PySem.W.fnIn K f23 = true)
    (l23 : K.lookup f23 = some ⟨oc23, od23, .func (PySem.W.fnOf "__and__" "Rule.__and__" (defArgs s_Rule___and__) (defBody s_Rule___and__) (defScope s_Rule___and__) .none kV23 dc23 pm23 an23 cd23 ct23), sl23⟩)
    (c23 : PySem.W.codeIn K cd23 "Rule.__and__" = true)
    (k23 : PySem.W.keepIn K (.ref f23) = true)
    (a24 : PySem.W.findIn K (.ref c_Rule) "__or__" = some (some (.ref f24)))
    (i24 : PySem.W.isFn K (.ref f24) = true)
    (h24 : PySem.W.fnIn K f24 = true)
    (l24 : K.lookup f24 = some ⟨oc24, od24, .func (PySem.W.fnOf "__or__" "Rule.__or__" (defArgs s_Rule___or__) (defBody s_Rule___or__) (defScope s_Rule___or__) .none kV24 dc24 pm24 an24 cd24 ct24), sl24⟩)
    (c24 : PySem.W.codeIn K cd24 "Rule.__or__" = true)
    (k24 : PySem.W.keepIn K (.ref f24) = true)
    (a25 : PySem.W.nsIn K mainGlobals "at_least" = some (some (.ref f25)))
    (l25 : K.lookup f25 = some ⟨oc25, od25, .func (PySem.W.fnOf "at_least" "at_least" (defArgs s_at_least) (defBody s_at_least) (defScope s_at_least) (.ref T25) kV25 dc25 pm25 an25 cd25 ct25), sl25⟩)
    (c25 : PySem.W.codeIn K cd25 "at_least" = true)
    (k25 : PySem.W.keepIn K (.ref f25) = true)
    (d25 : K.lookup T25 = some ⟨cT25, dT25, .seq #[.int 1 tT25] nT25, sT25⟩)
    (a26 : PySem.W.nsIn K mainGlobals "_law_made" = some (some (.ref f26)))
    (l26 : K.lookup f26 = some ⟨oc26, od26, .func (PySem.W.fnOf "_law_made" "_law_made" (defArgs s__law_made) (defBody s__law_made) (defScope s__law_made) .none kV26 dc26 pm26 an26 cd26 ct26), sl26⟩)
    (c26 : PySem.W.codeIn K cd26 "_law_made" = true)
    (k26 : PySem.W.keepIn K (.ref f26) = true)
    (a27 : PySem.W.findIn K (.ref c_Rule) "tree" = some (some (.ref f27)))
    (i27 : PySem.W.isFn K (.ref f27) = true)
    (h27 : PySem.W.fnIn K f27 = true)
    (l27 : K.lookup f27 = some ⟨oc27, od27, .func (PySem.W.fnOf "tree" "Rule.tree" (defArgs s_Rule_tree) (defBody s_Rule_tree) (defScope s_Rule_tree) .none kV27 dc27 pm27 an27 cd27 ct27), sl27⟩)
    (c27 : PySem.W.codeIn K cd27 "Rule.tree" = true)
    (k27 : PySem.W.keepIn K (.ref f27) = true)
    (a28 : PySem.W.nsIn K mainGlobals "least_above" = some (some (.ref f28)))
    (l28 : K.lookup f28 = some ⟨oc28, od28, .func (PySem.W.fnOf "least_above" "least_above" (defArgs s_least_above) (defBody s_least_above) (defScope s_least_above) .none kV28 dc28 pm28 an28 cd28 ct28), sl28⟩)
    (c28 : PySem.W.codeIn K cd28 "least_above" = true)
    (k28 : PySem.W.keepIn K (.ref f28) = true)
    (a29 : PySem.W.nsIn K mainGlobals "above" = some (some (.ref f29)))
    (l29 : K.lookup f29 = some ⟨oc29, od29, .func (PySem.W.fnOf "above" "above" (defArgs s_above) (defBody s_above) (defScope s_above) .none kV29 dc29 pm29 an29 cd29 ct29), sl29⟩)
    (c29 : PySem.W.codeIn K cd29 "above" = true)
    (k29 : PySem.W.keepIn K (.ref f29) = true)
    (a30 : PySem.W.nsIn K mainGlobals "apart" = some (some (.ref f30)))
    (l30 : K.lookup f30 = some ⟨oc30, od30, .func (PySem.W.fnOf "apart" "apart" (defArgs s_apart) (defBody s_apart) (defScope s_apart) .none kV30 dc30 pm30 an30 cd30 ct30), sl30⟩)
    (c30 : PySem.W.codeIn K cd30 "apart" = true)
    (k30 : PySem.W.keepIn K (.ref f30) = true)
    (a31 : PySem.W.nsIn K mainGlobals "_law_far_right" = some (some (.ref f31)))
    (l31 : K.lookup f31 = some ⟨oc31, od31, .func (PySem.W.fnOf "_law_far_right" "_law_far_right" (defArgs s__law_far_right) (defBody s__law_far_right) (defScope s__law_far_right) .none kV31 dc31 pm31 an31 cd31 ct31), sl31⟩)
    (c31 : PySem.W.codeIn K cd31 "_law_far_right" = true)
    (k31 : PySem.W.keepIn K (.ref f31) = true)
    (a32 : PySem.W.nsIn K mainGlobals "_law_lifted" = some (some (.ref f32)))
    (l32 : K.lookup f32 = some ⟨oc32, od32, .func (PySem.W.fnOf "_law_lifted" "_law_lifted" (defArgs s__law_lifted) (defBody s__law_lifted) (defScope s__law_lifted) .none kV32 dc32 pm32 an32 cd32 ct32), sl32⟩)
    (c32 : PySem.W.codeIn K cd32 "_law_lifted" = true)
    (k32 : PySem.W.keepIn K (.ref f32) = true)
    (a33 : PySem.W.nsIn K mainGlobals "law" = some (some (.ref f33)))
    (l33 : K.lookup f33 = some ⟨oc33, od33, .func (PySem.W.fnOf "law" "law" (defArgs s_law) (defBody s_law) (defScope s_law) .none kV33 dc33 pm33 an33 cd33 ct33), sl33⟩)
    (c33 : PySem.W.codeIn K cd33 "law" = true)
    (k33 : PySem.W.keepIn K (.ref f33) = true)
    (zb_abs : PySem.W.nsIn K mainGlobals "abs" = some none)
    (zb_bool : PySem.W.nsIn K mainGlobals "bool" = some none)
    (zb_int : PySem.W.nsIn K mainGlobals "int" = some none)
    (zb_isinstance : PySem.W.nsIn K mainGlobals "isinstance" = some none)
    (zb_len : PySem.W.nsIn K mainGlobals "len" = some none)
    (zb_list : PySem.W.nsIn K mainGlobals "list" = some none)
    (zb_max : PySem.W.nsIn K mainGlobals "max" = some none)
    (zb_min : PySem.W.nsIn K mainGlobals "min" = some none)
    (zb_range : PySem.W.nsIn K mainGlobals "range" = some none)
    (zb_repr : PySem.W.nsIn K mainGlobals "repr" = some none)
    (zb_set : PySem.W.nsIn K mainGlobals "set" = some none)
    (zb_sorted : PySem.W.nsIn K mainGlobals "sorted" = some none)
    (zb_str : PySem.W.nsIn K mainGlobals "str" = some none)
    (zb_sum : PySem.W.nsIn K mainGlobals "sum" = some none)
    (zb_tuple : PySem.W.nsIn K mainGlobals "tuple" = some none)
    (zc_MOST_BY : PySem.W.nsIn K mainGlobals "MOST_BY" = some (some (.int 6 tk_MOST_BY)))
    (zc_MOST_LEAVES : PySem.W.nsIn K mainGlobals "MOST_LEAVES" = some (some (.int 6 tk_MOST_LEAVES)))
    (zc_PERIOD : PySem.W.nsIn K mainGlobals "PERIOD" = some (some (.int 60 tk_PERIOD))) :
    ∃ fd : FuncData, (∀ (s : Shared) (v : Value), BindsTo s fd ⟨[v], []⟩ [("_law_script", v)]) ∧ ∀ base : Heap, K.In base → base.Ns mainGlobals mg → FnG l.prog w K mg base CX0 19 fa fd P_law (sp_law K) := by
  have e := hfa.symm.trans (PySem.W.mg_of X G a33)
  cases e
  have T : Bl mg := ⟨trivial, PySem.W.mg_none_of X G zb_abs, PySem.W.mg_none_of X G zb_bool, PySem.W.mg_none_of X G zb_int, PySem.W.mg_none_of X G zb_isinstance, PySem.W.mg_none_of X G zb_len, PySem.W.mg_none_of X G zb_list, PySem.W.mg_none_of X G zb_max, PySem.W.mg_none_of X G zb_min, PySem.W.mg_none_of X G zb_range, PySem.W.mg_none_of X G zb_repr, PySem.W.mg_none_of X G zb_set, PySem.W.mg_none_of X G zb_sorted, PySem.W.mg_none_of X G zb_str, PySem.W.mg_none_of X G zb_sum, PySem.W.mg_none_of X G zb_tuple, ⟨_, PySem.W.mg_of X G zc_MOST_BY⟩, ⟨_, PySem.W.mg_of X G zc_MOST_LEAVES⟩, ⟨_, PySem.W.mg_of X G zc_PERIOD⟩⟩
  have F0 := fun_mk (st := s__law_alike) l0 c0 k0
  have b0 := F0.binds (ps := P__law_alike) fun _ _ _ _ _ _ us hl => match us, hl with | [_, _], _ => rfl
  have F1 := fun_mk (st := s__law_bag) l1 c1 k1
  have b1 := F1.binds (ps := P__law_bag) fun _ _ _ _ _ _ us hl => match us, hl with | [_], _ => rfl
  have F2 := fun_mk (st := s__law_bounds) l2 c2 k2
  have b2 := F2.binds (ps := P__law_bounds) fun _ _ _ _ _ _ us hl => match us, hl with | [_], _ => rfl
  have F3 := fun_mk (st := s__law_take) l3 c3 k3
  have b3 := F3.binds (ps := P__law_take) fun _ _ _ _ _ _ us hl => match us, hl with | [_, _], _ => rfl
  have F4 := fun_mk (st := s__law_draw_size) l4 c4 k4
  have b4 := F4.binds (ps := P__law_draw_size) fun _ _ _ _ _ _ us hl => match us, hl with | [_, _, _], _ => rfl
  have F5 := fun_mk (st := s__law_draw_rule) l5 c5 k5
  have b5 := F5.binds (ps := P__law_draw_rule) fun _ _ _ _ _ _ us hl => match us, hl with | [_, _, _, _], _ => rfl
  have F6 := fun_mk (st := s_given) l6 c6 k6
  have b6 := F6.binds (ps := P_given) fun _ _ _ _ _ _ us hl => match us, hl with | [_, _], _ => rfl
  have F7 := fun_mk (st := s_leaves_of) l7 c7 k7
  have b7 := F7.binds (ps := P_leaves_of) fun _ _ _ _ _ _ us hl => match us, hl with | [_], _ => rfl
  have F8 := fun_mk (st := s_starts_of) l8 c8 k8
  have b8 := F8.binds (ps := P_starts_of) fun _ _ _ _ _ _ us hl => match us, hl with | [_], _ => rfl
  have F9 := fun_mk (st := s_telling) l9 c9 k9
  have b9 := F9.binds (ps := P_telling) fun _ _ _ _ _ _ us hl => match us, hl with | [_, _], _ => rfl
  have F10 := fun_mk (st := s_least_apart) l10 c10 k10
  have b10 := F10.binds (ps := P_least_apart) fun _ _ _ _ _ _ us hl => match us, hl with | [_, _], _ => rfl
  have F11 := fun_mk (st := s_Rule___eq__) l11 c11 k11
  have b11 := F11.binds (ps := P_Rule___eq__) fun _ _ _ _ _ _ us hl => match us, hl with | [_, _], _ => rfl
  have F12 := fun_mk (st := s__law_give) l12 c12 k12
  have b12 := F12.binds (ps := P__law_give) fun _ _ _ _ _ _ us hl => match us, hl with | [_, _], _ => rfl
  have F13 := fun_mk (st := s__law_least) l13 c13 k13
  have b13 := F13.binds (ps := P__law_least) fun _ _ _ _ _ _ us hl => match us, hl with | [_, _], _ => rfl
  have F14 := fun_mk (st := s__law_far_due) l14 c14 k14
  have b14 := F14.binds (ps := P__law_far_due) fun _ _ _ _ _ _ us hl => match us, hl with | [_, _], _ => rfl
  have F15 := fun_mk (st := s_has_word) l15 c15 k15
  have b15 := F15.binds (ps := P_has_word) fun _ _ _ _ _ _ us hl => match us, hl with | [_, _], _ => rfl
  have F16 := fun_mk (st := s_is_integer) l16 c16 k16
  have b16 := F16.binds (ps := P_is_integer) fun _ _ _ _ _ _ us hl => match us, hl with | [_], _ => rfl
  have F17 := fun_mk (st := s_is_number) l17 c17 k17
  have b17 := F17.binds (ps := P_is_number) fun _ _ _ _ _ _ us hl => match us, hl with | [_, _], _ => rfl
  have F18 := fun_mk (st := s_is_by) l18 c18 k18
  have b18 := F18.binds (ps := P_is_by) fun _ _ _ _ _ _ us hl => match us, hl with | [_], _ => rfl
  have F19 := fun_mk (st := s_is_leaf) l19 c19 k19
  have b19 := F19.binds (ps := P_is_leaf) fun _ _ _ _ _ _ us hl => match us, hl with | [_], _ => rfl
  have F20 := fun_mk (st := s_is_tree) l20 c20 k20
  have b20 := F20.binds (ps := P_is_tree) fun _ _ _ _ _ _ us hl => match us, hl with | [_], _ => rfl
  have F21 := fun_mk (st := s_Rule___init__) l21 c21 k21
  have b21 := F21.binds (ps := P_Rule___init__) fun _ _ _ _ _ _ us hl => match us, hl with | [_, _], _ => rfl
  have F22 := fun_mk (st := s_joined) l22 c22 k22
  have b22 := F22.binds (ps := P_joined) fun _ _ _ _ _ _ us hl => match us, hl with | [_, _, _], _ => rfl
  have F23 := fun_mk (st := s_Rule___and__) l23 c23 k23
  have b23 := F23.binds (ps := P_Rule___and__) fun _ _ _ _ _ _ us hl => match us, hl with | [_, _], _ => rfl
  have F24 := fun_mk (st := s_Rule___or__) l24 c24 k24
  have b24 := F24.binds (ps := P_Rule___or__) fun _ _ _ _ _ _ us hl => match us, hl with | [_, _], _ => rfl
  have F25 : FunD K "at_least" "at_least" (defArgs s_at_least) (defBody s_at_least) (defScope s_at_least) [V.int 1] [] f25 _ := ⟨⟨_, _, _, _, _, _, _, _, _, _, rfl, l25, c25, .inr ⟨by simp, T25, _, [.int 1 tT25], _, rfl, d25, rfl, .cons ⟨_, rfl⟩ .nil⟩, .inl rfl⟩, k25⟩
  obtain ⟨dsA25, vA25, b25⟩ := F25.binds1 (ps := P_at_least) 2 1 (by simp) rfl (fun T kV doc pm an cdv ct us its hu hi => match us, its, hu, hi with | [_, _], [_], _, _ => ⟨_, rfl, rfl⟩)
  cases vA25
  obtain ⟨dsB25, vB25, bB25⟩ := F25.binds1 (ps := P_at_least) 1 0 (by simp) rfl (fun T kV doc pm an cdv ct us its hu hi => match us, its, hu, hi with | [_], [_], _, _ => ⟨_, rfl, rfl⟩)
  have F26 := fun_mk (st := s__law_made) l26 c26 k26
  have b26 := F26.binds (ps := P__law_made) fun _ _ _ _ _ _ us hl => match us, hl with | [_, _], _ => rfl
  have F27 := fun_mk (st := s_Rule_tree) l27 c27 k27
  have b27 := F27.binds (ps := P_Rule_tree) fun _ _ _ _ _ _ us hl => match us, hl with | [_], _ => rfl
  have F28 := fun_mk (st := s_least_above) l28 c28 k28
  have b28 := F28.binds (ps := P_least_above) fun _ _ _ _ _ _ us hl => match us, hl with | [_, _], _ => rfl
  have F29 := fun_mk (st := s_above) l29 c29 k29
  have b29 := F29.binds (ps := P_above) fun _ _ _ _ _ _ us hl => match us, hl with | [_, _], _ => rfl
  have F30 := fun_mk (st := s_apart) l30 c30 k30
  have b30 := F30.binds (ps := P_apart) fun _ _ _ _ _ _ us hl => match us, hl with | [_, _], _ => rfl
  have F31 := fun_mk (st := s__law_far_right) l31 c31 k31
  have b31 := F31.binds (ps := P__law_far_right) fun _ _ _ _ _ _ us hl => match us, hl with | [_], _ => rfl
  have F32 := fun_mk (st := s__law_lifted) l32 c32 k32
  have b32 := F32.binds (ps := P__law_lifted) fun _ _ _ _ _ _ us hl => match us, hl with | [_, _], _ => rfl
  have F33 := fun_mk (st := s_law) l33 c33 k33
  have b33 := F33.binds (ps := P_law) fun _ _ _ _ _ _ us hl => match us, hl with | [_], _ => rfl
  refine ⟨PySem.W.fnOf "law" "law" (defArgs s_law) (defBody s_law) (defScope s_law) .none kV33 dc33 pm33 an33 cd33 ct33, fun s v => .of_eq rfl, fun base _ _ => ?_⟩
  have cl_Rule : Cls K c_Rule := ⟨pg_Rule, hd_Rule, po_Rule, sa_Rule⟩
  have ic_Rule : C8.InsC K c_Rule := ⟨cl_Rule, ha_Rule, hn_Rule, ht_Rule, hm_Rule, kit_same⟩
  have K_Rule : Kls K mg "Rule" c_Rule := ⟨PySem.W.mg_of X G aC_Rule, cl_Rule, mk_Rule, kc_Rule, sf_Rule, ic_Rule, ne_Rule⟩
  have fx_FxRule : FxRule K ({ PipeError := 0, Wrong := 0, TooMany := 0, Overdrawn := 0, NotPassed := 0, Rule := c_Rule, Account := 0 } : Cs) := ⟨cl_Rule, na_Rule__tree, ic_Rule⟩
  have f__law_alike : CalG l.prog w K mg base CX0 1 "_law_alike" P__law_alike (sp_law_alike K) := ⟨_, _, ok__law_alike  (P := l.prog) (w := w) (base := base) F0 T  , PySem.W.mg_of X G a0, k0, b0⟩
  have f__law_bag : Cal l.prog w K mg base CX0 1 "_law_bag" P__law_bag [] (sp_law_bag K) := ⟨_, _, ok__law_bag  (P := l.prog) (w := w) (base := base) F1 T  , PySem.W.mg_of X G a1, k1, b1⟩
  have f__law_bounds : Cal l.prog w K mg base CX0 7 "_law_bounds" P__law_bounds [] (sp_law_bounds K 7) := ⟨_, _, all__law_bounds  (P := l.prog) (w := w) (base := base) F2 T   (PySem.W.mg_of X G a2) k2 b2 7, PySem.W.mg_of X G a2, k2, b2⟩
  have f__law_take : Cal l.prog w K mg base CX0 1 "_law_take" P__law_take [] (sp_law_take K) := ⟨_, _, ok__law_take  (P := l.prog) (w := w) (base := base) F3 T  , PySem.W.mg_of X G a3, k3, b3⟩
  have f__law_draw_size : Cal l.prog w K mg base CX0 2 "_law_draw_size" P__law_draw_size [] (sp_law_draw_size K) := ⟨_, _, ok__law_draw_size  (P := l.prog) (w := w) (base := base) F4 T  f__law_take, PySem.W.mg_of X G a4, k4, b4⟩
  have f__law_draw_rule : Cal l.prog w K mg base CX0 3 "_law_draw_rule" P__law_draw_rule [] (sp_law_draw_rule K) := ⟨_, _, ok__law_draw_rule  (P := l.prog) (w := w) (base := base) F5 T  f__law_take f__law_draw_size, PySem.W.mg_of X G a5, k5, b5⟩
  have f_given : Cal l.prog w K mg base CX0 7 "given" P_given [] (sp_given K 7) := ⟨_, _, all_given  (P := l.prog) (w := w) (base := base) F6 T   (PySem.W.mg_of X G a6) k6 b6 7, PySem.W.mg_of X G a6, k6, b6⟩
  have f_leaves_of : Cal l.prog w K mg base CX0 7 "leaves_of" P_leaves_of [] (sp_leaves_of K 7) := ⟨_, _, all_leaves_of  (P := l.prog) (w := w) (base := base) F7 T   (PySem.W.mg_of X G a7) k7 b7 7, PySem.W.mg_of X G a7, k7, b7⟩
  have f_starts_of : Cal l.prog w K mg base CX0 8 "starts_of" P_starts_of [] (sp_starts_of K) := ⟨_, _, ok_starts_of  (P := l.prog) (w := w) (base := base) F8 T  f_leaves_of, PySem.W.mg_of X G a8, k8, b8⟩
  have f_telling : Cal l.prog w K mg base CX0 9 "telling" P_telling [] (sp_telling K) := ⟨_, _, ok_telling  (P := l.prog) (w := w) (base := base) F9 T  f_starts_of, PySem.W.mg_of X G a9, k9, b9⟩
  have f_least_apart : Cal l.prog w K mg base CX0 10 "least_apart" P_least_apart [] (sp_least_apart K) := ⟨_, _, ok_least_apart  (P := l.prog) (w := w) (base := base) F10 T  f_telling f_given, PySem.W.mg_of X G a10, k10, b10⟩
  have o_Rule___eq__ : Own l.prog w K mg base CX0 11 c_Rule "__eq__" P_Rule___eq__ (sp_RuleEq K ({ PipeError := 0, Wrong := 0, TooMany := 0, Overdrawn := 0, NotPassed := 0, Rule := c_Rule, Account := 0 } : Cs)) := ⟨_, _, ok_Rule___eq__ (C := ({ PipeError := 0, Wrong := 0, TooMany := 0, Overdrawn := 0, NotPassed := 0, Rule := c_Rule, Account := 0 } : Cs)) (P := l.prog) (w := w) (base := base) F11 T  f_least_apart K_Rule, a11, i11, k11, h11, b11⟩
  have f__law_give : Cal l.prog w K mg base CX0 7 "_law_give" P__law_give [] (sp_law_give K 7) := ⟨_, _, all__law_give  (P := l.prog) (w := w) (base := base) F12 T   (PySem.W.mg_of X G a12) k12 b12 7, PySem.W.mg_of X G a12, k12, b12⟩
  have f__law_least : Cal l.prog w K mg base CX0 1 "_law_least" P__law_least [] (sp_law_least K) := ⟨_, _, ok__law_least  (P := l.prog) (w := w) (base := base) F13 T  , PySem.W.mg_of X G a13, k13, b13⟩
  have f__law_far_due : Cal l.prog w K mg base CX0 8 "_law_far_due" P__law_far_due [] (sp_law_far_due K) := ⟨_, _, ok__law_far_due  (P := l.prog) (w := w) (base := base) F14 T  f__law_least f__law_give f__law_bounds, PySem.W.mg_of X G a14, k14, b14⟩
  have f_has_word : Cal l.prog w K mg base CX0 1 "has_word" P_has_word [] (sp_has_word K) := ⟨_, _, ok_has_word  (P := l.prog) (w := w) (base := base) F15 T  , PySem.W.mg_of X G a15, k15, b15⟩
  have f_is_integer : Cal l.prog w K mg base CX0 1 "is_integer" P_is_integer [] (sp_is_integer K) := ⟨_, _, ok_is_integer  (P := l.prog) (w := w) (base := base) F16 T  , PySem.W.mg_of X G a16, k16, b16⟩
  have f_is_number : Cal l.prog w K mg base CX0 2 "is_number" P_is_number [] (sp_is_number K) := ⟨_, _, ok_is_number  (P := l.prog) (w := w) (base := base) F17 T  f_is_integer, PySem.W.mg_of X G a17, k17, b17⟩
  have f_is_by : Cal l.prog w K mg base CX0 3 "is_by" P_is_by [] (sp_is_by K) := ⟨_, _, ok_is_by  (P := l.prog) (w := w) (base := base) F18 T  f_is_number, PySem.W.mg_of X G a18, k18, b18⟩
  have f_is_leaf : Cal l.prog w K mg base CX0 4 "is_leaf" P_is_leaf [] (sp_is_leaf K) := ⟨_, _, ok_is_leaf  (P := l.prog) (w := w) (base := base) F19 T  f_has_word f_is_number f_is_by, PySem.W.mg_of X G a19, k19, b19⟩
  have f_is_tree : Cal l.prog w K mg base CX0 5 "is_tree" P_is_tree [] (sp_is_tree K) := ⟨_, _, ok_is_tree  (P := l.prog) (w := w) (base := base) F20 T  f_is_leaf f_has_word, PySem.W.mg_of X G a20, k20, b20⟩
  have o_Rule___init__ : Own l.prog w K mg base CX0 6 c_Rule "__init__" P_Rule___init__ (sp_Rule___init__ K ({ PipeError := 0, Wrong := 0, TooMany := 0, Overdrawn := 0, NotPassed := 0, Rule := c_Rule, Account := 0 } : Cs)) := ⟨_, _, ok_Rule___init__ (C := ({ PipeError := 0, Wrong := 0, TooMany := 0, Overdrawn := 0, NotPassed := 0, Rule := c_Rule, Account := 0 } : Cs)) (P := l.prog) (w := w) (base := base) F21 T  f_is_tree, a21, i21, k21, h21, b21⟩
  have f_joined : Cal l.prog w K mg base CX0 9 "joined" P_joined [] (sp_joined K ({ PipeError := 0, Wrong := 0, TooMany := 0, Overdrawn := 0, NotPassed := 0, Rule := c_Rule, Account := 0 } : Cs)) := ⟨_, _, ok_joined (C := ({ PipeError := 0, Wrong := 0, TooMany := 0, Overdrawn := 0, NotPassed := 0, Rule := c_Rule, Account := 0 } : Cs)) (P := l.prog) (w := w) (base := base) F22 T  o_Rule___init__ K_Rule f_starts_of, PySem.W.mg_of X G a22, k22, b22⟩
  have o_Rule___and__ : Own l.prog w K mg base CX0 10 c_Rule "__and__" P_Rule___and__ (sp_Rule___and__ K ({ PipeError := 0, Wrong := 0, TooMany := 0, Overdrawn := 0, NotPassed := 0, Rule := c_Rule, Account := 0 } : Cs)) := ⟨_, _, ok_Rule___and__ (C := ({ PipeError := 0, Wrong := 0, TooMany := 0, Overdrawn := 0, NotPassed := 0, Rule := c_Rule, Account := 0 } : Cs)) (P := l.prog) (w := w) (base := base) F23 T  f_joined, a23, i23, k23, h23, b23⟩
  have o_Rule___or__ : Own l.prog w K mg base CX0 10 c_Rule "__or__" P_Rule___or__ (sp_Rule___or__ K ({ PipeError := 0, Wrong := 0, TooMany := 0, Overdrawn := 0, NotPassed := 0, Rule := c_Rule, Account := 0 } : Cs)) := ⟨_, _, ok_Rule___or__ (C := ({ PipeError := 0, Wrong := 0, TooMany := 0, Overdrawn := 0, NotPassed := 0, Rule := c_Rule, Account := 0 } : Cs)) (P := l.prog) (w := w) (base := base) F24 T  f_joined, a24, i24, k24, h24, b24⟩
  have f_at_least : Cal l.prog w K mg base CX0 8 "at_least" P_at_least [] (sp_at_least K ({ PipeError := 0, Wrong := 0, TooMany := 0, Overdrawn := 0, NotPassed := 0, Rule := c_Rule, Account := 0 } : Cs)) := ⟨_, _, ok_at_least (C := ({ PipeError := 0, Wrong := 0, TooMany := 0, Overdrawn := 0, NotPassed := 0, Rule := c_Rule, Account := 0 } : Cs)) (P := l.prog) (w := w) (base := base) F25 T  o_Rule___init__ K_Rule f_is_by f_is_number, PySem.W.mg_of X G a25, k25, b25⟩
  have fd1_at_least : ∃ ds, Vals [V.int 1] ds ∧ Cal l.prog w K mg base CX0 8 "at_least" P_at_least ds (sp_at_least K ({ PipeError := 0, Wrong := 0, TooMany := 0, Overdrawn := 0, NotPassed := 0, Rule := c_Rule, Account := 0 } : Cs)) := ⟨dsB25, vB25, _, _, ok_at_least (C := ({ PipeError := 0, Wrong := 0, TooMany := 0, Overdrawn := 0, NotPassed := 0, Rule := c_Rule, Account := 0 } : Cs)) (P := l.prog) (w := w) (base := base) F25 T  o_Rule___init__ K_Rule f_is_by f_is_number, PySem.W.mg_of X G a25, k25, bB25⟩
  have f__law_made : Cal l.prog w K mg base CX0 17 "_law_made" P__law_made [] (sp_law_made K ({ PipeError := 0, Wrong := 0, TooMany := 0, Overdrawn := 0, NotPassed := 0, Rule := c_Rule, Account := 0 } : Cs) 7) := ⟨_, _, all__law_made (C := ({ PipeError := 0, Wrong := 0, TooMany := 0, Overdrawn := 0, NotPassed := 0, Rule := c_Rule, Account := 0 } : Cs)) (P := l.prog) (w := w) (base := base) F26 T  o_Rule___or__ K_Rule o_Rule___and__ fd1_at_least f_at_least f__law_take o_Rule___init__ (PySem.W.mg_of X G a26) k26 b26 7, PySem.W.mg_of X G a26, k26, b26⟩
  have o_Rule_tree : Own l.prog w K mg base CX0 1 c_Rule "tree" P_Rule_tree (sp_Rule_tree K ({ PipeError := 0, Wrong := 0, TooMany := 0, Overdrawn := 0, NotPassed := 0, Rule := c_Rule, Account := 0 } : Cs)) := ⟨_, _, ok_Rule_tree (C := ({ PipeError := 0, Wrong := 0, TooMany := 0, Overdrawn := 0, NotPassed := 0, Rule := c_Rule, Account := 0 } : Cs)) (P := l.prog) (w := w) (base := base) F27 T  , a27, i27, k27, h27, b27⟩
  have f_least_above : Cal l.prog w K mg base CX0 10 "least_above" P_least_above [] (sp_least_above K) := ⟨_, _, ok_least_above  (P := l.prog) (w := w) (base := base) F28 T  f_telling f_given, PySem.W.mg_of X G a28, k28, b28⟩
  have f_above : Cal l.prog w K mg base CX0 11 "above" P_above [] (sp_above K ({ PipeError := 0, Wrong := 0, TooMany := 0, Overdrawn := 0, NotPassed := 0, Rule := c_Rule, Account := 0 } : Cs)) := ⟨_, _, ok_above (C := ({ PipeError := 0, Wrong := 0, TooMany := 0, Overdrawn := 0, NotPassed := 0, Rule := c_Rule, Account := 0 } : Cs)) (P := l.prog) (w := w) (base := base) F29 T  o_Rule_tree K_Rule f_least_above, PySem.W.mg_of X G a29, k29, b29⟩
  have f_apart : Cal l.prog w K mg base CX0 11 "apart" P_apart [] (sp_apart K ({ PipeError := 0, Wrong := 0, TooMany := 0, Overdrawn := 0, NotPassed := 0, Rule := c_Rule, Account := 0 } : Cs)) := ⟨_, _, ok_apart (C := ({ PipeError := 0, Wrong := 0, TooMany := 0, Overdrawn := 0, NotPassed := 0, Rule := c_Rule, Account := 0 } : Cs)) (P := l.prog) (w := w) (base := base) F30 T  o_Rule_tree K_Rule f_least_apart, PySem.W.mg_of X G a30, k30, b30⟩
  have f__law_far_right : CalG l.prog w K mg base CX0 18 "_law_far_right" P__law_far_right (sp_law_far_right K ({ PipeError := 0, Wrong := 0, TooMany := 0, Overdrawn := 0, NotPassed := 0, Rule := c_Rule, Account := 0 } : Cs)) := ⟨_, _, ok__law_far_right (C := ({ PipeError := 0, Wrong := 0, TooMany := 0, Overdrawn := 0, NotPassed := 0, Rule := c_Rule, Account := 0 } : Cs)) (P := l.prog) (w := w) (base := base) F31 T  f_above f_apart f__law_alike o_Rule___eq__ K_Rule f__law_far_due f__law_made f__law_take f__law_draw_rule, PySem.W.mg_of X G a31, k31, b31⟩
  have f__law_lifted : Cal l.prog w K mg base CX0 7 "_law_lifted" P__law_lifted [] (sp_law_lifted K 7) := ⟨_, _, all__law_lifted  (P := l.prog) (w := w) (base := base) F32 T   (PySem.W.mg_of X G a32) k32 b32 7, PySem.W.mg_of X G a32, k32, b32⟩
  exact (ok_law (C := ({ PipeError := 0, Wrong := 0, TooMany := 0, Overdrawn := 0, NotPassed := 0, Rule := c_Rule, Account := 0 } : Cs)) (P := l.prog) (w := w) (base := base) F33 T fx_FxRule f__law_bounds f__law_take f__law_alike f_above f_apart f__law_least f__law_lifted f__law_made f__law_give f__law_draw_rule f__law_far_right f__law_bag)
end Lw
open PySem PySem.W PyProof.Rows
set_option maxRecDepth 100000 in
set_option maxHeartbeats 0 in
theorem PySem.Challenge.cw_sharedpipe_k16_first_parting_amounts_holds : PySem.Challenge.rw_sharedpipe_k16_first_parting_amounts.Holds := by
  w_on; o_law; k_head; (case hw => w_witness2)
  k_fill
  refine Pk.walkG (l := PySem.Challenge.rw_sharedpipe_k16_first_parting_amounts) (n := 63) (k := 19) (x := "_law_script") (sp := Pk.sp_law) rfl (by decide) rfl ⟨rfl, by decide, by decide⟩ (fun w h Y => PySem.W.kIn_of Y) ?F (fun K H a ns hl hS => ⟨a, ns, rfl, hS, hl, fun _ => rfl⟩)
  case F =>
    intro w mg fa h KX G hmg
    refine' Lw.all_mk KX G hmg ?aC_Rule ?pg_Rule ?hd_Rule ?po_Rule ?sa_Rule ?mk_Rule ?kc_Rule ?sf_Rule ?ha_Rule ?hn_Rule ?ht_Rule ?hm_Rule ?ne_Rule ?na_Rule__tree ?a0 ?l0 ?c0 ?k0 ?a1 ?l1 ?c1 ?k1 ?a2 ?l2 ?c2 ?k2 ?a3 ?l3 ?c3 ?k3 ?a4 ?l4 ?c4 ?k4 ?a5 ?l5 ?c5 ?k5 ?a6 ?l6 ?c6 ?k6 ?a7 ?l7 ?c7 ?k7 ?a8 ?l8 ?c8 ?k8 ?a9 ?l9 ?c9 ?k9 ?a10 ?l10 ?c10 ?k10 ?a11 ?i11 ?h11 ?l11 ?c11 ?k11 ?a12 ?l12 ?c12 ?k12 ?a13 ?l13 ?c13 ?k13 ?a14 ?l14 ?c14 ?k14 ?a15 ?l15 ?c15 ?k15 ?a16 ?l16 ?c16 ?k16 ?a17 ?l17 ?c17 ?k17 ?a18 ?l18 ?c18 ?k18 ?a19 ?l19 ?c19 ?k19 ?a20 ?l20 ?c20 ?k20 ?a21 ?i21 ?h21 ?l21 ?c21 ?k21 ?a22 ?l22 ?c22 ?k22 ?a23 ?i23 ?h23 ?l23 ?c23 ?k23 ?a24 ?i24 ?h24 ?l24 ?c24 ?k24 ?a25 ?l25 ?c25 ?k25 ?d25 ?a26 ?l26 ?c26 ?k26 ?a27 ?i27 ?h27 ?l27 ?c27 ?k27 ?a28 ?l28 ?c28 ?k28 ?a29 ?l29 ?c29 ?k29 ?a30 ?l30 ?c30 ?k30 ?a31 ?l31 ?c31 ?k31 ?a32 ?l32 ?c32 ?k32 ?a33 ?l33 ?c33 ?k33 ?zb_abs ?zb_bool ?zb_int ?zb_isinstance ?zb_len ?zb_list ?zb_max ?zb_min ?zb_range ?zb_repr ?zb_set ?zb_sorted ?zb_str ?zb_sum ?zb_tuple ?zc_MOST_BY ?zc_MOST_LEAVES ?zc_PERIOD
    (case aC_Rule => k_is)
    (case pg_Rule => k_is)
    (case hd_Rule => k_is)
    (case po_Rule => k_is)
    (case sa_Rule => k_is)
    (case mk_Rule => k_is)
    (case kc_Rule => k_is)
    (case sf_Rule => k_is)
    (case ha_Rule => k_is)
    (case hn_Rule => k_is)
    (case ht_Rule => k_is)
    (case hm_Rule => k_is)
    (case ne_Rule => k_is)
    (case na_Rule__tree => k_is)
    (case a0 => k_is)
    (case l0 => k_is)
    (case c0 => k_is)
    (case k0 => k_is)
    (case a1 => k_is)
    (case l1 => k_is)
    (case c1 => k_is)
    (case k1 => k_is)
    (case a2 => k_is)
    (case l2 => k_is)
    (case c2 => k_is)
    (case k2 => k_is)
    (case a3 => k_is)
    (case l3 => k_is)
    (case c3 => k_is)
    (case k3 => k_is)
    (case a4 => k_is)
    (case l4 => k_is)
    (case c4 => k_is)
    (case k4 => k_is)
    (case a5 => k_is)
    (case l5 => k_is)
    (case c5 => k_is)
    (case k5 => k_is)
    (case a6 => k_is)
    (case l6 => k_is)
    (case c6 => k_is)
    (case k6 => k_is)
    (case a7 => k_is)
    (case l7 => k_is)
    (case c7 => k_is)
    (case k7 => k_is)
    (case a8 => k_is)
    (case l8 => k_is)
    (case c8 => k_is)
    (case k8 => k_is)
    (case a9 => k_is)
    (case l9 => k_is)
    (case c9 => k_is)
    (case k9 => k_is)
    (case a10 => k_is)
    (case l10 => k_is)
    (case c10 => k_is)
    (case k10 => k_is)
    (case a11 => k_is)
    (case i11 => k_is)
    (case h11 => k_is)
    (case l11 => k_is)
    (case c11 => k_is)
    (case k11 => k_is)
    (case a12 => k_is)
    (case l12 => k_is)
    (case c12 => k_is)
    (case k12 => k_is)
    (case a13 => k_is)
    (case l13 => k_is)
    (case c13 => k_is)
    (case k13 => k_is)
    (case a14 => k_is)
    (case l14 => k_is)
    (case c14 => k_is)
    (case k14 => k_is)
    (case a15 => k_is)
    (case l15 => k_is)
    (case c15 => k_is)
    (case k15 => k_is)
    (case a16 => k_is)
    (case l16 => k_is)
    (case c16 => k_is)
    (case k16 => k_is)
    (case a17 => k_is)
    (case l17 => k_is)
    (case c17 => k_is)
    (case k17 => k_is)
    (case a18 => k_is)
    (case l18 => k_is)
    (case c18 => k_is)
    (case k18 => k_is)
    (case a19 => k_is)
    (case l19 => k_is)
    (case c19 => k_is)
    (case k19 => k_is)
    (case a20 => k_is)
    (case l20 => k_is)
    (case c20 => k_is)
    (case k20 => k_is)
    (case a21 => k_is)
    (case i21 => k_is)
    (case h21 => k_is)
    (case l21 => k_is)
    (case c21 => k_is)
    (case k21 => k_is)
    (case a22 => k_is)
    (case l22 => k_is)
    (case c22 => k_is)
    (case k22 => k_is)
    (case a23 => k_is)
    (case i23 => k_is)
    (case h23 => k_is)
    (case l23 => k_is)
    (case c23 => k_is)
    (case k23 => k_is)
    (case a24 => k_is)
    (case i24 => k_is)
    (case h24 => k_is)
    (case l24 => k_is)
    (case c24 => k_is)
    (case k24 => k_is)
    (case a25 => k_is)
    (case l25 => k_is)
    (case c25 => k_is)
    (case k25 => k_is)
    (case d25 => k_is)
    (case a26 => k_is)
    (case l26 => k_is)
    (case c26 => k_is)
    (case k26 => k_is)
    (case a27 => k_is)
    (case i27 => k_is)
    (case h27 => k_is)
    (case l27 => k_is)
    (case c27 => k_is)
    (case k27 => k_is)
    (case a28 => k_is)
    (case l28 => k_is)
    (case c28 => k_is)
    (case k28 => k_is)
    (case a29 => k_is)
    (case l29 => k_is)
    (case c29 => k_is)
    (case k29 => k_is)
    (case a30 => k_is)
    (case l30 => k_is)
    (case c30 => k_is)
    (case k30 => k_is)
    (case a31 => k_is)
    (case l31 => k_is)
    (case c31 => k_is)
    (case k31 => k_is)
    (case a32 => k_is)
    (case l32 => k_is)
    (case c32 => k_is)
    (case k32 => k_is)
    (case a33 => k_is)
    (case l33 => k_is)
    (case c33 => k_is)
    (case k33 => k_is)
    (case zb_abs => k_is)
    (case zb_bool => k_is)
    (case zb_int => k_is)
    (case zb_isinstance => k_is)
    (case zb_len => k_is)
    (case zb_list => k_is)
    (case zb_max => k_is)
    (case zb_min => k_is)
    (case zb_range => k_is)
    (case zb_repr => k_is)
    (case zb_set => k_is)
    (case zb_sorted => k_is)
    (case zb_str => k_is)
    (case zb_sum => k_is)
    (case zb_tuple => k_is)
    (case zc_MOST_BY => k_is)
    (case zc_MOST_LEAVES => k_is)
    (case zc_PERIOD => k_is)
