import PyProof.Rows.All
import Wide.All
import OpenK.AllK
import Wide.FinOn
import HandS.ForExc
import HandS.Wide
import HandS.Evl
import HandS.Deep
import HandS.TupAny
import HandS.TupMul
import HandS.Star
import HandS.Property
import HandS.Flow
import HandS.Style
import HandS.IsInst
import HandS.OwnEq
import HandS.ForMost
import HandS.SlotsOwn
import HandS.Codes
import HandS.Defaults
import KE.KOpsOwn
import HandS.Small
import PySem.Challenge.RW_sharedpipe_k22_whole_many_amounts_in_acc
set_option Elab.async false
set_option linter.all false
set_option maxRecDepth 100000
set_option maxHeartbeats 2000000
namespace Pk
open PySem PySem.Spec L2 PyProof.Rows

/-! ### texts of data: a bound of their length -/
mutual
def siz : PyData → Nat
  | .none => 8
  | .bool _ => 8
  | .int _ => 2000
  | .str x => 10 * x.length + 8
  | .list xs => 8 + sizL xs
  | .tuple xs => 8 + sizL xs
  | .dict _ => 0
def sizL : List PyData → Nat
  | [] => 0
  | x :: xs => siz x + 4 + sizL xs
end
theorem textFrom_size : ∀ (ts : List Str) (k : Nat) (acc : Str), (textFrom k acc ts).length ≤ acc.length + piled ts
  | [], k, acc => by show acc.length ≤ _; omega
  | t :: r, k, acc => by
    have ih := textFrom_size r (k + 1) (acc ++ (if k > 0 then ", " else "" : String) ++ t)
    have e : (acc ++ (if k > 0 then ", " else "" : String) ++ t).length = acc.length + (if k > 0 then 2 else 0) + t.length := by
      rw [strLen_append, strLen_append]
      split <;> rfl
    have d1 : (if k > 0 then 2 else 0 : Nat) ≤ 2 := by split <;> decide
    rw [piled_cons]
    show (textFrom (k + 1) _ r).length ≤ _
    omega
theorem listText_size (ts : List Str) : (listText ts).length ≤ piled ts + 2 := by
  have q := textFrom_size ts 0 "["
  unfold listText
  rw [strLen_append]
  have e1 : ((("[" : String) : Str)).length = 1 := rfl
  have e2 : ((("]" : String) : Str)).length = 1 := rfl
  rw [e1] at q
  rw [e2]
  omega
theorem tupleText_size (ts : List Str) : (tupleText ts).length ≤ piled ts + 3 := by
  unfold tupleText
  rw [strLen_append, strLen_append]
  have e1 : ((("(" : String) : Str)).length = 1 := rfl
  have e3 : (((if ts.length == 1 then ",)" else ")" : String) : Str)).length ≤ 2 := by split <;> decide
  rw [e1]
  cases ts with
  | nil =>
    have e4 : (Str.join ", " ([] : List Str)).length = 0 := rfl
    rw [e4]
    omega
  | cons t r =>
    have q := join_length_add (t :: r) (by simp)
    omega
mutual
theorem shown_le : ∀ d : PyData, d.showable = true → d.canLay0 = true → d.shown.length ≤ siz d
  | .none, _, _ => by decide
  | .bool b, _, _ => by cases b <;> decide
  | .int i, h, _ => by
    have h' : i.natAbs.log2 < 1920 := of_decide_eq_true h
    have e := int_text_length_le (k := 1920) (by decide) h'
    show (Str.ofString (toString i)).length ≤ 2000
    rw [PySem.ofString_length]
    omega
  | .str x, _, h => by
    have h' : x.cps.all (· < 0x110000) = true := h
    have q := StrLaws.reprText_len x fun c hc => by
      have := Array.all_eq_true_iff_forall_mem.mp h' c (by simpa using hc)
      have z : c < 0x110000 := of_decide_eq_true this
      have z2 : (0x110000 : Nat) < 16 ^ 8 := by decide
      omega
    show (reprText x).length ≤ 10 * x.length + 8
    omega
  | .list xs, h, h2 => by
    have q := shownAll_le xs h h2
    have q2 := listText_size (PyData.shownAll xs)
    show (listText (PyData.shownAll xs)).length ≤ 8 + sizL xs
    omega
  | .tuple xs, h, h2 => by
    have q := shownAll_le xs h h2
    have q2 := tupleText_size (PyData.shownAll xs)
    show (tupleText (PyData.shownAll xs)).length ≤ 8 + sizL xs
    omega
  | .dict _, _, h => by cases h
theorem shownAll_le : ∀ ds : List PyData, PyData.showableAll ds = true → PyData.canLayAll0 ds = true → piled (PyData.shownAll ds) ≤ sizL ds
  | [], _, _ => by show piled [] ≤ 0; simp [piled]
  | d :: ds, h, h2 => by
    have h' : d.showable = true ∧ PyData.showableAll ds = true := by simpa [PyData.showableAll] using h
    have h2' : d.canLay0 = true ∧ PyData.canLayAll0 ds = true := by simpa [PyData.canLayAll0] using h2
    have q1 := shown_le d h'.1 h2'.1
    have q2 := shownAll_le ds h'.2 h2'.2
    show piled (d.shown :: PyData.shownAll ds) ≤ siz d + 4 + sizL ds
    rw [piled_cons]
    omega
end
/-- data that may be compared and shown -/
structure Good (d : PyData) : Prop where
  sh : SeqAt.shaped d = true
  wr : d.showable = true
  sz : siz d ≤ 16000000
theorem Good.lay {d : PyData} (g : Good d) : d.canLay0 = true := SeqAt.canLay_of_shaped g.sh
theorem Good.fits {d : PyData} (g : Good d) : d.shown.length ≤ sizeLine := by
  have q := shown_le d g.wr g.lay
  have z := g.sz
  rw [sizeLine_eq]
  omega
theorem Good.same {d : PyData} (g : Good d) : PyData.eqv d d = true := SeqAt.eqv_refl d g.lay

/-! ### defs that are called where nothing is being shown -/
/-- as FnOk, where nothing is being shown around -/
structure FnG (P : Program) (w : World) (K : PySem.W.Frag) (mg : Str → Option Value) (base : Heap) (CX : CXT) (k : Nat) (f : Addr) (fd : FuncData) (ps : List Str) (sp : Sp) : Prop where
  few : ∀ vs H Q E, sp vs H Q E → vs.length = ps.length
  goes : ∀ (A : Around), A.guards = some [] → Room k A → ∀ (outer : List Env) (s : Shared) (H : Hp) (args : Args) (us : List Value) (vs : List V) (Q : VK) (E : XK),
    Env0 P w K mg base A outer s H → BindsTo s fd args (ps.zip us) → Vals vs us → sp vs H Q E → codeAny (model P w) A (.call (.ref f) args) (CR CX outer P w H s Q E) s
theorem FnG.of {P : Program} {w : World} {K : PySem.W.Frag} {mg : Str → Option Value} {base : Heap} {CX : CXT} {k : Nat} {f : Addr} {fd : FuncData} {ps : List Str} {sp : Sp}
    (F : FnOk P w K mg base CX k f fd ps sp) : FnG P w K mg base CX k f fd ps sp :=
  ⟨F.len, fun A _ hr outer s H args us vs Q E e0 hb r h => F.run A outer s H args us vs Q E hr e0 hb r h⟩
theorem FnG.mono {P : Program} {w : World} {K : PySem.W.Frag} {mg : Str → Option Value} {base : Heap} {CX : CXT} {j k : Nat} {f : Addr} {fd : FuncData} {ps : List Str} {sp : Sp}
    (F : FnG P w K mg base CX j f fd ps sp) (h : j ≤ k) : FnG P w K mg base CX k f fd ps sp :=
  ⟨F.few, fun A hg hr => F.goes A hg (hr.mono h)⟩
section
variable {X : Cx} {CX : CXT} {k : Nat} {f : Addr} {fd : FuncData} {ps : List Str} {sp : Sp} {E : XK} {x : Str} {p pos : Pos} {e : Expr} {es : List Expr} {t : TA}
theorem go_g {pins : List (Addr × Obj)} {σ : L2.St} {H : Hp} {s : Shared} {Q : VK} {us : List Value} {vs : List V} (F : FnG X.prog X.w X.K X.mg X.base CX k f fd ps sp) (hg : X.A.guards = some []) (hr : Room k X.A)
    (hb : Binds X.K fd ps []) (hx : Passes CX X E) (I : Inv X pins σ H s) (r : Vals vs us) (h : sp vs H Q E) : wpAny (model X.prog X.w) X.A (call (.ref f) us) (EP X pins σ Q) X.xe s := by
  have n : (us ++ ([] : List Value)).length = ps.length := by
    rw [List.append_nil, ← r.length]
    exact F.few _ _ _ _ h
  have b := hb s us I.kIn n
  rw [List.append_nil] at b
  apply wpAny_call
  apply codeAny_mono (F.goes X.A hg hr X.stack s H ⟨us, []⟩ us vs Q E I.env0 b r h)
  intro res s2 q
  match res, q with
  | .error er, q => exact hx pins σ H s er s2 I q
  | .ok (.ret u), q => exact I.after q
theorem pe_callG (F : FnG X.prog X.w X.K X.mg X.base CX k f fd ps sp) (gd : X.A.guards = some []) (hr : Room k X.A) (hg : Gl X x) (hm : X.mg x = some (.ref f)) (hk : PySem.W.keepIn X.K (.ref f) = true) (hb : Binds X.K fd ps []) (hx : Passes CX X E)
    (ha : PA X (e :: es) t) (h1 : (x == ("__debug__" : Str)) = false := by decide) (h2 : starEach (e :: es) X.env = (false, eval e X.env) :: starEach es X.env := by rfl) (h3 : (backTo pos (starEach es X.env)).any (·.1) = false := by rfl) :
    PE X (.Call (.Name x p) (e :: es) [] pos) (tCall sp [] E t) := by
  constructor
  intro pins s σ H Q I h
  apply wpAny_Call_Name_kw (ld_glob I hg hm ?_ h1)
  apply PySem.W.callWith_K (h₀ := X.base) I.ok.mod.kin hk _ h2 h3
  apply thn (ha.run pos pins s σ H _ I h)
  rintro us s1 ⟨vs, H1, I1, r, q⟩
  rw [List.append_nil] at q
  exact ⟨I1.kIn, go_g F gd hr hb hx I1 r q⟩
end
/-- a def by its body, where nothing is being shown around -/
theorem fnG_of {CX : CXT} {P : Program} {w : World} {K : PySem.W.Frag} {mg : Str → Option Value} {base : Heap} {k : Nat} {f : Addr} {name qual : Str} {params : Arguments} {body : List Stmt} {scope : Scope} {dV kV doc pm cdv ct oc : Value}
    {an od : Option Addr} {osl : Array (Option Value)} {N ps : List Str} {sp : Sp}
    (lk : K.lookup f = some ⟨oc, od, .func (PySem.W.fnOf name qual params body scope dV kV doc pm an cdv ct), osl⟩) (cd : PySem.W.codeIn K cdv qual = true) (S : FnScope N ps scope) (few : ∀ vs H Q E, sp vs H Q E → vs.length = ps.length)
    (goes : ∀ (A : Around) (outer : List Env) (s : Shared) (H : Hp) (vs : List V) (Q : VK) (E : XK), (A.deeper (envOfC qual scope s.heap.objs.size f cdv)).guards = some [] → Room k (A.deeper (envOfC qual scope s.heap.objs.size f cdv)) → sp vs H Q E →
      ∃ t, PSs (cxOf CX P w K mg base N qual scope f cdv A outer s H E) body t ∧ t { nx := fun _ H' => Q .non H', rt := Q } (start N vs) H) :
    FnG P w K mg base CX (k + 1) f (PySem.W.fnOf name qual params body scope dV kV doc pm an cdv ct) ps sp := by
  constructor
  · exact few
  intro A gd hr outer s H args us vs Q E e0 hb r hsp
  have n := few _ _ _ _ hsp
  have old : ∀ b o, base.get? b = some o → s.heap.get? b = some o := fun b o q => (e0.bs b o q).1
  have KX := e0.mod.kin.keeps old
  have kinds : ∀ y ∈ ps.zip us, scope.names.lookup y.1 = some .local ∨ (scope.names.lookup y.1 = some .cell ∧ ((cellsFrom (s.heap.objs.size + 1) scope.names []).lookup y.1).isSome = true) := by
    rintro ⟨a, v⟩ hy
    rcases S.par a (List.of_mem_zip hy).1 with q | q
    · left; exact q
    · right; exact ⟨q, PySem.W.cellsFrom_some _ _ _ (.inl q)⟩
  apply codeAny_call_function hr.depth (KX _ _ lk) rfl S.co S.gen rfl (PySem.W.codeRec_of KX cd)
  apply hb
  apply wpAny_newFunctionEnv_cells S.kind kinds
  rintro env rfl s1 x
  refine ⟨(e0.mod.nolimit.keeps old).keeps x.toInCall.keep, codeAny_func ?_⟩
  obtain ⟨t, ht, hq⟩ := goes A outer s H vs Q E gd (hr.deeper _) hsp
  have I : Inv (cxOf CX P w K mg base N qual scope f cdv A outer s H E) [] (start N vs) H s1 := inv_start S hr.hd e0 n r x
  apply wpAny_mono (ht.run [] s1 (start N vs) H _ I hq) _ (fun _ _ z => z)
  intro fl s2 z
  have done : ∀ {σ' : L2.St} {H' : Hp} {v : V} {u : Value}, Inv (cxOf CX P w K mg base N qual scope f cdv A outer s H E) [] σ' H' s2 → RelV v u → Q v H' → CE outer P w H s Q u s2 := by
    intro σ' H' v u J rv q
    exact ⟨v, H', J.os, J.bare, J.base, J.hok, rv, q⟩
  match fl, z with
  | .ret u, ⟨v, σ', H', J, rv, q⟩ => exact done J rv q
  | .next, ⟨σ', H', J, q⟩ => exact done (v := V.non) (u := Value.none) J rfl q
  | .brk, ⟨_, _, _, q⟩ => exact q.elim
  | .cont, ⟨_, _, _, q⟩ => exact q.elim
section
variable {P : Program} {w : World} {K : PySem.W.Frag} {mg : Str → Option Value} {base : Heap}
/-- a def of the text -/
theorem okG {x qual : Str} {st : Stmt} {f : Addr} {fd : FuncData} {N ps : List Str} {k : Nat} {sp : Sp} (F : Fun K x qual st f fd) (S : FnScope N ps (defScope st)) (few : ∀ vs H Q E, sp vs H Q E → vs.length = ps.length)
    (goes : ∀ (cdv : Value) (A : Around) (outer : List Env) (s : Shared) (H : Hp) (vs : List V) (Q : VK) (E : XK), (A.deeper (envOfC qual (defScope st) s.heap.objs.size f cdv)).guards = some [] →
      Room k (A.deeper (envOfC qual (defScope st) s.heap.objs.size f cdv)) → sp vs H Q E →
      ∃ t, PSs (cxOf CX0 P w K mg base N qual (defScope st) f cdv A outer s H E).nox (defBody st) t ∧ t { nx := fun _ H' => Q .non H', rt := Q } (start N vs) H) : FnG P w K mg base CX0 (k + 1) f fd ps sp := by
  obtain ⟨oc, od, kV, doc, pm, an, cdv, ct, osl, rfl, lk, cd⟩ := F.ex
  apply fnG_of lk cd S few
  intro A outer s H vs Q E gd hr h
  obtain ⟨t, q1, q2⟩ := goes cdv A outer s H vs Q E gd hr h
  exact ⟨t, q1.nox, q2⟩
end

/-! ### repr of data -/
theorem pyd_nodict : ∀ d : PyData, d.canLay0 = true → d.hasDict = false := PyData.hasDict_of_canLay
def rRepr (K : PySem.W.Frag) : List V → Hp → VK → Prop := fun xs H Q => ∃ x d, xs = [x] ∧ Dp K H x d ∧ Good d ∧ Q (.str d.shown) H
section
variable {X : Cx}
theorem call_repr (gd : X.A.guards = some []) (hu : X.A.units + 68 < cLine) : CallR X (.builtin "repr") (rRepr X.K) := by
  intro pins s σ H xs us Q I r h
  obtain ⟨x, d, rfl, hd, g, q⟩ := h
  obtain ⟨u, rfl, rx⟩ : ∃ u, us = [u] ∧ RelV x u := by
    cases r with
    | cons a b =>
      cases b
      exact ⟨_, rfl, a⟩
  obtain ⟨as, rd⟩ := Dp.reads I d x u hd rx
  have dep : d.depth ≤ 64 := SeqAt.depth_of_shaped g.sh
  have big := g.fits
  have last : ∀ (h' : Heap) (tk : Nat) (t : Tok), (∀ b o, s.heap.get? b = some o → h'.get? b = some o) → EP X pins σ Q (.str d.shown t) { s with heap := h', toks := tk } :=
    fun h' tk t k => ⟨.str d.shown, H, I.kept k, ⟨_, rfl⟩, q⟩
  have deep : ∀ a, u = .ref a → wpAny (model X.prog X.w) X.A (call (.builtin "repr") [u]) (EP X pins σ Q) X.xe s := by
    intro a e
    subst e
    exact repr_of_reads' rd g.wr (PyData.noDict_hsm (pyd_nodict d g.lay)) gd (by omega) (fun _ _ z => z) (fun h' t tk k => last h' tk t k) big
  match d, hd, rd with
  | .list _, _, .list _ _ _ _ => exact deep _ rfl
  | .tuple _, _, .tuple _ _ _ _ => exact deep _ rfl
  | .none, _, .none => exact P.repr_of_none (last s.heap _ _ fun _ _ z => z)
  | .bool b, _, .bool _ =>
    refine P.repr_of_bool ?_
    have z := last s.heap (s.toks + 1) s.toks fun _ _ z => z
    cases b <;> exact z
  | .int i, _, .int _ _ => exact P.repr_of_int (of_decide_eq_true g.wr) (last s.heap _ _ fun _ _ z => z)
  | .str z, _, .str _ _ => exact P.repr_of_str (last s.heap _ _ fun _ _ z => z) big
end

/-! ### the law's own call -/
/-- the script's abstract heap: the script alone, locked, where it is none of the module's own lists -/
def H0 (K : PySem.W.Frag) (a : Addr) (ob : Obj) (xs : List V) : Hp := fun b => if b = a ∧ K.lookup a = none then some (.frz ob (.lst xs)) else none
theorem H0_cases {K : PySem.W.Frag} {a b : Addr} {ob : Obj} {xs : List V} {u : HO} (h : H0 K a ob xs b = some u) : b = a ∧ K.lookup a = none ∧ u = .frz ob (.lst xs) := by
  unfold H0 at h
  split at h
  · rename_i c
    cases h
    exact ⟨c.1, c.2, rfl⟩
  · cases h
theorem law_callG {P : Program} {w : World} {K : PySem.W.Frag} {mg mb : Str → Option Value} {k : Nat} {fa a : Addr} {fd : FuncData} {x : Str} {sp : Sp} {s₁ : Shared} {vs : List Value} {ns : List Int}
    (F : ∀ base : Heap, K.In base → base.Ns mainGlobals mg → FnG P w K mg base CX0 k fa fd [x] sp) (kin : K.In s₁.heap) (gl : s₁.heap.Ns mainGlobals mg) (bl : s₁.heap.Ns builtinsNs mb)
    (blt : ∀ x : Str, x ≠ "__name__" → mb x = bootBuiltins x) (nol : s₁.heap.NoLimit) (gens : s₁.gens = #[]) (at_a : s₁.heap.get? a = some { cls := .type "list", data := .seq vs.toArray })
    (are : IntsAre vs ns) (few : ns.length ≤ sizeLine) (hr : Room k callerA) (bnd : ∀ (s : Shared) (u : Value), BindsTo s fd ⟨[u], []⟩ [(x, u)])
    (hsp : ∀ H : Hp, SqL K H a (ns.map V.int) → sp [.ref a] H (fun v _ => v = .bl true) E0) :
    codeAny (model P w) callerA (.call (.ref fa) ⟨[.ref a], []⟩) (fun r s' => r = .ok (.ret (.bool true)) ∧ OldK s₁.heap s'.heap ∧ s'.os = s₁.os ∧ AllBare s'.gens) s₁ := by
  have rv := vals_ints are
  have z : vs.length ≤ sizeLine := by rw [are.length]; exact few
  generalize eo : ({ cls := .type "list", data := .seq vs.toArray } : Obj) = ob at at_a
  let H := H0 K a ob (ns.map V.int)
  have one : ∀ b u, H b = some u → b = a ∧ K.lookup a = none ∧ u = .frz ob (.lst (ns.map V.int)) := fun b u h => H0_cases h
  have ok : HOk P w H s₁.heap := by
    intro b u h
    obtain ⟨rfl, _, rfl⟩ := one b u h
    refine ⟨at_a, by rw [List.length_map]; exact few, vs, 0, rv, ?_⟩
    rw [at_a, ← eo]
  have sq : SqL K H a (ns.map V.int) := by
    cases hk : K.lookup a with
    | none =>
      left
      right
      exact ⟨ob, if_pos ⟨rfl, hk⟩⟩
    | some o =>
      right
      have e := (kin a o hk).symm.trans at_a
      cases e
      subst eo
      exact ⟨_, vs.toArray, _, hk, rfl, rfl, rfl, by simpa using z, by simpa using rv⟩
  have dropped : ∀ {b : Addr} {o : Obj}, s₁.heap.get? b = some o → (b ≠ a ∨ K.lookup a ≠ none) → H b = none := by
    intro b o _ c
    cases h : H b with
    | none => rfl
    | some u =>
      obtain ⟨e1, e2, _⟩ := one b u h
      rcases c with c | c
      · exact absurd e1 c
      · exact absurd e2 c
  have nsA : ∀ {b : Addr} {m : Str → Option Value}, s₁.heap.Ns b m → (hidT s₁.heap H).Ns b m := by
    rintro b m ⟨o, es, ep, e, d, r⟩
    refine ⟨o, es, ep, hidT_get e (dropped e (.inl ?_)), d, r⟩
    rintro rfl
    rw [at_a] at e
    cases e
    rw [← eo] at d
    cases d
  have kinB : K.In (hidT s₁.heap H) := by
    intro b o e
    refine hidT_get (kin b o e) (dropped (kin b o e) ?_)
    by_cases h : b = a
    · right
      intro q
      rw [h, q] at e
      cases e
    · left; exact h
  have e0 : Env0 P w K mg (hidT s₁.heap H) callerA [] s₁ H := by
    constructor
    · rfl
    · obtain ⟨mc, q1, q2⟩ := nol
      exact ⟨kinB, nsA gl, ⟨mb, nsA bl, blt⟩, mc, nsA q1, q2⟩
    · exact fun b o e => of_hidT e
    · exact Nat.le_of_eq (hidT_size _ _)
    · trivial
    · intro b hb
      cases hb
    · exact ok
    · exact .of_eq gens
  apply codeAny_mono ((F _ kinB (nsA gl)).goes callerA rfl hr [] s₁ H ⟨[.ref a], []⟩ [.ref a] [.ref a] _ _ e0 (bnd s₁ (.ref a)) (.cons rfl .nil) (hsp H sq))
  intro res s2 h
  match res, h with
  | .error _, h => exact h.elim
  | .ok (.ret u), ⟨v, H', os, bare, un, ok2, rr, q⟩ =>
    have e : v = .bl true := q
    subst e
    obtain rfl : u = Value.bool true := rr
    refine ⟨rfl, OldK.of_keep ?_, os, bare⟩
    intro b o e
    cases hb : H b with
    | none => exact un.keep b o e hb (fun z => nomatch z) fun z => nomatch z
    | some u =>
      obtain ⟨_, _, rfl⟩ := one b u hb
      obtain ⟨e1, _⟩ := ok b _ hb
      obtain ⟨e2, _⟩ := ok2 b _ (un.frzs b ob _ hb)
      rw [e] at e1
      cases e1
      exact e2
/-- the walk, from the law's def -/
theorem walkG {l : PySem.W.OpenLaw} {n k : Nat} {q : Program} {loose : List Str} {XP : (Str → Option Value) → Heap → Prop} {YP : World → Heap → Prop} {d : DefRec} {K : Params → PySem.W.Frag} {sp : PySem.W.Frag → Sp} {x : Str}
    (most : l.most = some n) (small : n ≤ sizeLine) (nodef : d.params.defaults = []) (hr : Room k callerA) (hY : ∀ (w : World) (h : Heap), YP w h → (K w.params).In h)
    (F : ∀ (w : World) (mg : Str → Option Value) (fa : Addr) (h : Heap), (K w.params).In h → h.Ns mainGlobals mg → mg d.name = some (.ref fa) →
      ∃ fd : FuncData, (∀ (s : Shared) (u : Value), BindsTo s fd ⟨[u], []⟩ [(x, u)]) ∧ ∀ base : Heap, (K w.params).In base → base.Ns mainGlobals mg → FnG l.prog w (K w.params) mg base CX0 k fa fd [x] (sp (K w.params)))
    (hsp : ∀ (K : PySem.W.Frag) (H : Hp) (a : Addr) (ns : List Int), ns.length ≤ n → SqL K H a (ns.map V.int) → sp K [.ref a] H (fun v _ => v = .bl true) E0) :
    PySem.W.WalkO q loose XP YP l.row.toRowW d [] (fun f vs => PySem.call f vs) := by
  apply Att.attach_call most nodef
  intro w s₀ s₁ mg mb fa o pm cd doc a vs ns G Y _ _ _ hm at_a are few gens
  obtain ⟨fd, b, hF⟩ := F w mg fa _ (hY w _ Y) G.T.g hm
  exact law_callG hF (hY w _ Y) G.T.g G.T.b G.T.builtins G.T.nolimit gens at_a are (Nat.le_trans few small) hr b fun H h => hsp _ H a ns few h
end Pk
set_option Elab.async false
set_option linter.all false
set_option maxRecDepth 100000
set_option maxHeartbeats 2000000
namespace Pk
open PySem PySem.Spec L2 PyProof.Rows
/-! ### operators over several kinds of values -/
section
variable {X : Cx}
theorem or2 {f : Value → Value → Sem Value} {r r' : R2} (h : OpR X f r) (h' : OpR X f r') : OpR X f (fun x y H Q => r x y H Q ∨ r' x y H Q) := by
  intro pins s σ H x y v u Q I rx ry q
  rcases q with q | q
  · exact h pins s σ H x y v u Q I rx ry q
  · exact h' pins s σ H x y v u Q I rx ry q
theorem orC {f : Value} {r r' : List V → Hp → VK → Prop} (h : CallR X f r) (h' : CallR X f r') : CallR X f (fun x H Q => r x H Q ∨ r' x H Q) := by
  intro pins s σ H xs us Q I rx q
  rcases q with q | q
  · exact h pins s σ H xs us Q I rx q
  · exact h' pins s σ H xs us Q I rx q
def rAddI : R2 := rI0 fun i j => .int (i + j)
def rAddT : R2 := fun x y H Q => ∃ i j, x = .str i ∧ y = .str j ∧ i.length + j.length ≤ sizeLine ∧ Q (.str (i ++ j)) H
def rAddU (K : PySem.W.Frag) : R2 := fun x y H Q => rAddI x y H Q ∨ rAddT x y H Q ∨ rCat x y H Q ∨ rCatA K x y H Q
theorem opAdd : OpR X (binaryOp .Add) (rAddU X.K) := or2 op_add (or2 op_add_str (or2 op_cat op_catA))
def rSubI : R2 := rI0 fun i j => .int (i - j)
theorem opSub : OpR X (binaryOp .Sub) rSubI := op_sub
def rMulI : R2 := rI (fun i j => CMul i j ∨ CMulW i j) fun i j => .int (i * j)
theorem op_mulI : OpR X (binaryOp .Mult) rMulI := opI fun _ _ _ _ _ _ _ hc q => mul_int q (hc.elim CMul.ok CMulW.ok)
def rRepS : R2 := fun x y H Q => ∃ z n, x = .str z ∧ y = .int n ∧ z.length ≤ 1000 ∧ 0 ≤ n ∧ n ≤ 1000 ∧ Q (.str (Txt.mul z n)) H
theorem op_repS : OpR X (binaryOp .Mult) rRepS := by
  intro pins s σ H x y v u Q I rx ry h
  obtain ⟨z, n, rfl, rfl, hz, h0, h1, q⟩ := h
  obtain ⟨t, rfl⟩ := rx
  obtain ⟨t', rfl⟩ := ry
  refine SB.mul ⟨?_, fun a _ => ?_, fun a _ => ?_⟩ fun t2 k => ⟨.str _, H, I.tok k, ⟨_, rfl⟩, q⟩
  · rw [decide_eq_false (show ¬ n < -(2 ^ 63 : Int) by omega), decide_eq_false (show ¬ n ≥ 2 ^ 63 by omega)]
    rfl
  · have h2 : (1000 : Int) ≤ (2 ^ 63 - 1) / n := by
      apply Int.le_ediv_of_mul_le (by omega)
      omega
    omega
  · have h2 : z.length * n.toNat ≤ 1000 * 1000 := Nat.mul_le_mul hz (by omega)
    unfold Builtin.Str.tooLong
    rw [decide_eq_false]
    rw [sizeLine_eq]
    omega
def rMulU (K : PySem.W.Frag) : R2 := fun x y H Q => rMulI x y H Q ∨ rRepS x y H Q ∨ rRep x y H Q ∨ rRepT K x y H Q
theorem opMul : OpR X (binaryOp .Mult) (rMulU X.K) := or2 op_mulI (or2 op_repS (or2 op_rep op_repT))
def rDivI : R2 := rI CDivW fun i j => .int (i / j)
theorem opDiv : OpR X (binaryOp .FloorDiv) rDivI := op_fdivW
def rModI : R2 := rI (fun _ j => 0 < j) fun i j => .int (i % j)
theorem opMod : OpR X (binaryOp .Mod) rModI := op_mod
/-! comparisons; hu: room -/
def rEqU (K : PySem.W.Frag) : R2 := fun x y H Q => rEq x y H Q ∨ rEqD K x y H Q
def rNeU (K : PySem.W.Frag) : R2 := fun x y H Q => rNe x y H Q ∨ rNeD K x y H Q
theorem opEq (hu : X.A.units + 64 < cLine) : OpR X (compareOp .Eq) (rEqU X.K) := or2 op_eq (op_eqD hu)
theorem opNe (hu : X.A.units + 64 < cLine) : OpR X (compareOp .NotEq) (rNeU X.K) := or2 op_ne (op_neD hu)
def rLtI : R2 := rI0 fun i j => .bl (decide (i < j))
def rGtI : R2 := rI0 fun i j => .bl (decide (j < i))
def rLeI : R2 := rI0 fun i j => .bl (decide (i ≤ j))
def rGeI : R2 := rI0 fun i j => .bl (decide (j ≤ i))
def rLeT : R2 := fun x y H Q => ∃ i j, x = .str i ∧ y = .str j ∧ Q (.bl (!decide (j.cps.toList < i.cps.toList))) H
def rLeU : R2 := fun x y H Q => rLeI x y H Q ∨ rLeT x y H Q
theorem opLt : OpR X (compareOp .Lt) rLtI := op_lt
theorem opGt : OpR X (compareOp .Gt) rGtI := op_gt
theorem opLe : OpR X (compareOp .LtE) rLeU := or2 op_le op_le_str
theorem opGe : OpR X (compareOp .GtE) rGeI := op_ge
def rIsNn : R2 := fun x y H Q => y = .non ∧ Q (.bl (decide (x = .non))) H
def rNotNn : R2 := fun x y H Q => y = .non ∧ Q (.bl (!decide (x = .non))) H
theorem opIsN : OpR X (compareOp .Is) rIsNn := op_isN
theorem opNotN : OpR X (compareOp .IsNot) rNotNn := op_notN
/-- x in (a, b, ..), x in [..], a sign in a text -/
def rSignIn : R2 := fun x y H Q => ∃ (c : Nat) (z : Str), x = .str ⟨#[c]⟩ ∧ y = .str z ∧ Q (.bl (decide (c ∈ z.cps.toList))) H
def rSignNotIn : R2 := fun x y H Q => ∃ (c : Nat) (z : Str), x = .str ⟨#[c]⟩ ∧ y = .str z ∧ Q (.bl (!decide (c ∈ z.cps.toList))) H
def rInU (K : PySem.W.Frag) : R2 := fun x y H Q => rIn K false x y H Q ∨ rSignIn x y H Q
def rNotInU (K : PySem.W.Frag) : R2 := fun x y H Q => rIn K true x y H Q ∨ rSignNotIn x y H Q
theorem opIn : OpR X (compareOp .In) (rInU X.K) := or2 op_in_seq op_in_sign
theorem opNotIn : OpR X (compareOp .NotIn) (rNotInU X.K) := or2 op_notIn_seq op_notIn_sign
/-! slices, items stored by an operator -/
def rSlS : V → Option Int → Option Int → Hp → VK → Prop := fun x lo hi H Q => ∃ z, x = .str z ∧ z.length ≤ sizeLine ∧ Q (.str (cutS z lo hi)) H
def rSlU (K : PySem.W.Frag) : V → Option Int → Option Int → Hp → VK → Prop := fun x lo hi H Q => rSlL K x lo hi H Q ∨ rSlT K x lo hi H Q
theorem slU : SlR X (rSlU X.K) := SlR.or sl_list sl_tup
def rGetL (K : PySem.W.Frag) : R2 := fun x y H Q => ∃ p xs k v, x = .ref p ∧ y = .int k ∧ 0 ≤ k ∧ SqL K H p xs ∧ xs[k.toNat]? = some v ∧ Q v H
theorem get_list : PGet X (rGetL X.K) := by
  intro pins s σ H o i ov iv Q I ro ri h
  obtain ⟨p, xs, k, v, rfl, rfl, h0, hp, hat, q⟩ := h
  cases ro
  obtain ⟨t, rfl⟩ := ri
  obtain ⟨its, r, pl, hz⟩ := I.list hp
  obtain ⟨u, hu, ru⟩ := r.get hat
  have hl := r.length
  have hn := line63
  have hj := (List.getElem?_eq_some_iff.mp hat).1
  exact wpAny_getItem_list pl.isList h0 (by omega) (by simpa using hu) ⟨v, H, I, ru, q⟩
end
end Pk
set_option Elab.async false
set_option linter.all false
set_option maxRecDepth 100000
set_option maxHeartbeats 2000000
namespace Pk
open PySem PySem.Spec L2 PyProof.Rows
/-! ### built-ins by name -/
theorem boot_len : bootBuiltins "len" = some (.builtin "len") := PySem.boot_len
theorem boot_isinstance : bootBuiltins "isinstance" = some (.builtin "isinstance") := by decide +kernel
theorem boot_abs : bootBuiltins "abs" = some (.builtin "abs") := by decide +kernel
theorem boot_ord : bootBuiltins "ord" = some (.builtin "ord") := by decide +kernel
theorem boot_all : bootBuiltins "all" = some (.builtin "all") := by decide +kernel
theorem boot_any : bootBuiltins "any" = some (.builtin "any") := by decide +kernel
theorem boot_sum : bootBuiltins "sum" = some (.builtin "sum") := by decide +kernel
theorem boot_max : bootBuiltins "max" = some (.builtin "max") := by decide +kernel
theorem boot_min : bootBuiltins "min" = some (.builtin "min") := by decide +kernel
theorem boot_repr : bootBuiltins "repr" = some (.builtin "repr") := by decide +kernel
theorem boot_sorted : bootBuiltins "sorted" = some (.builtin "sorted") := by decide +kernel
theorem boot_t_int : bootBuiltins "int" = some (.type "int") := by decide +kernel
theorem boot_t_bool : bootBuiltins "bool" = some (.type "bool") := by decide +kernel
theorem boot_t_str : bootBuiltins "str" = some (.type "str") := by decide +kernel
theorem boot_t_list : bootBuiltins "list" = some (.type "list") := by decide +kernel
theorem boot_t_tuple : bootBuiltins "tuple" = some (.type "tuple") := by decide +kernel
theorem boot_t_dict : bootBuiltins "dict" = some (.type "dict") := by decide +kernel
section
variable {X : Cx}
def rLenU (K : PySem.W.Frag) : List V → Hp → VK → Prop := fun xs H Q => (∃ x n, xs = [x] ∧ LenV K x H n ∧ Q (.int n) H) ∨ ∃ a kvs, xs = [V.ref a] ∧ H a = some (.dK kvs) ∧ Q (.int kvs.length) H
theorem callLen : CallR X (.builtin "len") (rLenU X.K) := orC call_len call_lenD
def rAbs : List V → Hp → VK → Prop := fun xs H Q => ∃ i, xs = [.int i] ∧ Q (.int (if i < 0 then -i else i)) H
def rOrd : List V → Hp → VK → Prop := fun xs H Q => ∃ x, xs = [.str x] ∧ x.length = 1 ∧ Q (.int (x.cps.getD 0 0 : Nat)) H
def rMax2 : List V → Hp → VK → Prop := fun xs H Q => ∃ i j, xs = [.int i, .int j] ∧ Q (.int (if j > i then j else i)) H
def rMin2 : List V → Hp → VK → Prop := fun xs H Q => ∃ i j, xs = [.int i, .int j] ∧ Q (.int (if j < i then j else i)) H
def rInt1 : List V → Hp → VK → Prop := fun xs H Q => (∃ i, xs = [.int i] ∧ Q (.int i) H) ∨ ∃ k, xs = [.bl k] ∧ Q (.int (if k then 1 else 0)) H
def rIntS : List V → Hp → VK → Prop := fun xs H Q => ∃ a n, xs = [.str a] ∧ PySem.intText? a = some n ∧ a.length ≤ 640 ∧ Q (.int n) H
def rIntU : List V → Hp → VK → Prop := fun xs H Q => rInt1 xs H Q ∨ rIntS xs H Q
theorem callInt : CallR X (.type "int") rIntU := orC call_int1 call_int_str
def rBool1 : List V → Hp → VK → Prop := fun xs H Q => (∃ i, xs = [.int i] ∧ Q (.bl (i != 0)) H) ∨ ∃ k, xs = [.bl k] ∧ Q (.bl k) H
def rListOf (K : PySem.W.Frag) : List V → Hp → VK → Prop := fun xs H Q => ∃ p ys, xs = [.ref p] ∧ (SqL K H p ys ∨ SqT K H p ys) ∧ ∀ l, H l = none → Q (.ref l) (upd H l (.lst ys))
def rTupleOf (K : PySem.W.Frag) : List V → Hp → VK → Prop := fun xs H Q => ∃ p ys, xs = [.ref p] ∧ ((SqL K H p ys ∧ ∀ l, H l = none → Q (.ref l) (upd H l (.tup ys))) ∨ (SqT K H p ys ∧ Q (.ref p) H))
def rPowI : R2 := rI CPow fun i j => .int (i ^ j.toNat)
theorem opPow : OpR X (binaryOp .Pow) rPowI := op_pow
def tTru (K : PySem.W.Frag) (ta : TE) : TT := fun σ H Q => ta σ H fun x H' => ∃ k, TruV K x H' k ∧ Q k H'
def tJoin (K : PySem.W.Frag) (to ta : TE) : TE := tBM K "str" (fun x xs H Q => ∃ a p, ∃ ys : List Str, x = .str a ∧ xs = [.ref p] ∧ (SqL K H p (ys.map V.str) ∨ SqT K H p (ys.map V.str)) ∧ JoinOk a ys = true ∧ Q (.str (Txt.join a ys)) H) to (tCons ta tNil)
end
/-! ### a def that is called: where it stands, what it promises -/
structure Cal (P : Program) (w : World) (K : PySem.W.Frag) (mg : Str → Option Value) (base : Heap) (CX : CXT) (k : Nat) (x : Str) (ps : List Str) (ds : List Value) (sp : Sp) : Prop where
  ex : ∃ f fd, FnOk P w K mg base CX k f fd ps sp ∧ mg x = some (.ref f) ∧ PySem.W.keepIn K (.ref f) = true ∧ Binds K fd ps ds
structure CalG (P : Program) (w : World) (K : PySem.W.Frag) (mg : Str → Option Value) (base : Heap) (CX : CXT) (k : Nat) (x : Str) (ps : List Str) (sp : Sp) : Prop where
  ex : ∃ f fd, FnG P w K mg base CX k f fd ps sp ∧ mg x = some (.ref f) ∧ PySem.W.keepIn K (.ref f) = true ∧ Binds K fd ps []
section
variable {X : Cx} {CX : CXT} {k j : Nat} {ps : List Str} {ds : List Value} {dvs : List V} {sp : Sp} {E : XK} {x : Str} {p pos : Pos} {e : Expr} {es : List Expr} {t : TA}
theorem pe_cal (F : Cal X.prog X.w X.K X.mg X.base CX k x ps [] sp) (hr : Room j X.A) (hx : Passes CX X E) (ha : PA X (e :: es) t) (hj : k ≤ j := by first | decide | omega) (hg : Gl X x := by rfl)
    (h1 : (x == ("__debug__" : Str)) = false := by decide) (h2 : starEach (e :: es) X.env = (false, eval e X.env) :: starEach es X.env := by rfl) (h3 : (backTo pos (starEach es X.env)).any (·.1) = false := by rfl) :
    PE X (.Call (.Name x p) (e :: es) [] pos) (tCall sp [] E t) := by
  obtain ⟨f, fd, F, hm, hk, hb⟩ := F.ex
  exact pe_call F (hr.mono hj) hg hm hk hb .nil hx ha h1 h2 h3
theorem pe_calD (F : Cal X.prog X.w X.K X.mg X.base CX k x ps ds sp) (hd : Vals dvs ds) (hr : Room j X.A) (hx : Passes CX X E) (ha : PA X (e :: es) t) (hj : k ≤ j := by first | decide | omega) (hg : Gl X x := by rfl)
    (h1 : (x == ("__debug__" : Str)) = false := by decide) (h2 : starEach (e :: es) X.env = (false, eval e X.env) :: starEach es X.env := by rfl) (h3 : (backTo pos (starEach es X.env)).any (·.1) = false := by rfl) :
    PE X (.Call (.Name x p) (e :: es) [] pos) (tCall sp dvs E t) := by
  obtain ⟨f, fd, F, hm, hk, hb⟩ := F.ex
  exact pe_call F (hr.mono hj) hg hm hk hb hd hx ha h1 h2 h3
theorem pe_calg (F : CalG X.prog X.w X.K X.mg X.base CX k x ps sp) (gd : X.A.guards = some []) (hr : Room j X.A) (hx : Passes CX X E) (ha : PA X (e :: es) t) (hj : k ≤ j := by first | decide | omega) (hg : Gl X x := by rfl)
    (h1 : (x == ("__debug__" : Str)) = false := by decide) (h2 : starEach (e :: es) X.env = (false, eval e X.env) :: starEach es X.env := by rfl) (h3 : (backTo pos (starEach es X.env)).any (·.1) = false := by rfl) :
    PE X (.Call (.Name x p) (e :: es) [] pos) (tCall sp [] E t) := by
  obtain ⟨f, fd, F, hm, hk, hb⟩ := F.ex
  exact pe_callG F gd (hr.mono hj) hg hm hk hb hx ha h1 h2 h3
end
theorem room_repr {k : Nat} {A : Around} (hr : Room k A) : A.units + 68 < cLine := by have := hr.un; omega
/-! ### what is kept -/
/-- all that was tracked but b -/
def Kp (b : Addr) (H H' : Hp) : Prop := ∀ c o, H c = some o → c ≠ b → H' c = some o
theorem Kp.refl {b : Addr} {H : Hp} : Kp b H H := fun _ _ h _ => h
theorem Kp.trans {b : Addr} {H H1 H2 : Hp} (a : Kp b H H1) (c : Kp b H1 H2) : Kp b H H2 := fun d o h n => c d o (a d o h n) n
theorem Kp.of {b : Addr} {H H' : Hp} (s : Same H H') : Kp b H H' := fun c o h _ => s c o h
theorem same_new {H : Hp} {p : Addr} {o : HO} (h : H p = none) : Same H (upd H p o) := fun b u q => by
  rw [upd_ne (ne_of_none q h)]
  exact q
theorem kp_new {b : Addr} {H : Hp} {p : Addr} {o : HO} (h : H p = none) : Kp b H (upd H p o) := Kp.of (same_new h)
theorem Kp.laid {b : Addr} {H H1 : Hp} {p : Addr} {o : HO} (k : Kp b H H1) (h : H1 p = none) : Kp b H (upd H1 p o) := k.trans (kp_new h)
/-- the object b itself is written -/
theorem kp_put {b : Addr} {H : Hp} {o : HO} : Kp b H (upd H b o) := fun c u h n => by
  rw [upd_ne n]
  exact h
theorem Kp.put {b : Addr} {H H1 : Hp} {o : HO} (k : Kp b H H1) : Kp b H (upd H1 b o) := k.trans kp_put
/-- an object that was not tracked at the beginning is written -/
theorem Kp.other {b p : Addr} {H H1 : Hp} {o : HO} (k : Kp b H H1) (h : H p = none) : Kp b H (upd H1 p o) := fun c u q n => by
  rw [upd_ne (ne_of_none q h)]
  exact k c u q n
theorem Kp.tup {K : PySem.W.Frag} {b a : Addr} {H H' : Hp} {xs ys : List V} (k : Kp b H H') (hb : H b = some (.lst ys)) (h : SqT K H a xs) : SqT K H' a xs := by
  rcases h with (h | ⟨o, h⟩) | h
  · exact .inl (.inl (k _ _ h (ne_of h hb (by intro z; cases z))))
  · exact .inl (.inr ⟨o, k _ _ h (ne_of h hb (by intro z; cases z))⟩)
  · exact .inr h
/-! ### the bag of draws -/
structure Bag (H : Hp) (b l : Addr) : Prop where
  ex : ∃ (x m p : Int) (xs : List Int), H b = some (.lst [.int x, .int m, .int p, .ref l]) ∧ H l = some (.lst (xs.map V.int)) ∧ 0 ≤ x ∧ 0 ≤ m ∧ m < 2147483647 ∧ 0 ≤ p ∧ xs.length ≤ 63 ∧ ∀ c ∈ xs, 0 ≤ c
theorem Bag.ne {H : Hp} {b l : Addr} (B : Bag H b l) : l ≠ b := by
  obtain ⟨x, m, p, xs, h1, h2, _⟩ := B.ex
  intro e
  rw [e, h1] at h2
  cases xs with
  | nil => cases h2
  | cons _ r => cases r with
    | nil => cases h2
    | cons _ r => cases r with
      | nil => cases h2
      | cons _ r => cases r with
        | nil => cases h2
        | cons _ r => simp at h2
/-- what is new does not touch the bag -/
theorem Bag.same {H H' : Hp} {b l : Addr} (B : Bag H b l) (s : Same H H') : Bag H' b l := by
  obtain ⟨x, m, p, xs, h1, h2, r⟩ := B.ex
  exact ⟨x, m, p, xs, s _ _ h1, s _ _ h2, r⟩
theorem Bag.at {H : Hp} {b l : Addr} (B : Bag H b l) : ∃ xs, H b = some (.lst xs) := by
  obtain ⟨x, m, p, xs, h1, h2, r⟩ := B.ex
  exact ⟨_, h1⟩
theorem Bag.at2 {H : Hp} {b l : Addr} (B : Bag H b l) : ∃ xs, H l = some (.lst xs) := by
  obtain ⟨x, m, p, xs, h1, h2, r⟩ := B.ex
  exact ⟨_, h2⟩
theorem Bag.put {H : Hp} {b l c : Addr} {o : HO} (B : Bag H b l) (h1 : b ≠ c) (h2 : l ≠ c) : Bag (upd H c o) b l := by
  obtain ⟨x, m, p, xs, e1, e2, r⟩ := B.ex
  exact ⟨x, m, p, xs, by rw [upd_ne h1]; exact e1, by rw [upd_ne h2]; exact e2, r⟩
/-- a number drawn below n -/
def sp_law_take (K : PySem.W.Frag) : Sp := fun vs H Q _ => ∃ b l n, vs = [.ref b, .int n] ∧ Bag H b l ∧ 0 < n ∧ n ≤ 10 ^ 100 ∧ ∀ v H', 0 ≤ v → v < n → Bag H' b l → Kp b H H' → Q (.int v) H'
/-- a new bag of a script -/
def sp_law_bag (K : PySem.W.Frag) : Sp := fun vs H Q _ => ∃ (a : Addr) (ns : List Int), vs = [.ref a] ∧ SqL K H a (ns.map V.int) ∧ ∀ b l H', H b = none → H l = none → Bag H' b l → Same H H' → Q (.ref b) H'
end Pk
set_option Elab.async false
set_option linter.all false
set_option maxRecDepth 100000
set_option maxHeartbeats 2000000
namespace Pk
open PySem PySem.Spec L2 PyProof.Rows
def t_law_bag (K : PySem.W.Frag) : TS :=
  (tRet (tLst (tCons (tC (.int 0)) (tCons (tC (.int 1234567891)) (tCons (tC (.int 0)) (tCons (tLc (iList K (tSl (rSlU K) (tVar 0) tNoPart (tPart (tC (.int 63))))) (gName 1) tYes (tCB (rAbs) (tCons (tVar 1) tNil)) [1]) tNil))))))
def t_law_take (K : PySem.W.Frag) : TS :=
  (Evl.tCut (tIfS (tTest (tOp (rEqU K) (tOp (rIx K) (tVar 0) (tC (.int 0))) (tC (.int 0)))) (tSeq (tAsg (tC (.int 0)) (gName 2))
    (Evl.tCut (tIfS (tTest (tOp (rLtI) (tOp (rIx K) (tVar 0) (tC (.int 2))) (tCB (rLenU K) (tCons (tOp (rIx K) (tVar 0) (tC (.int 3))) tNil)))) (tAsg (tOp (rIx K) (tOp (rIx K) (tVar 0) (tC (.int 3))) (tOp (rIx K) (tVar 0) (tC (.int 2)))) (gName 2)) tNext)
    (tSeq (tAugS (tVar 0) (tC (.int 2)) (tC (.int 1)) (rGetL K) (ipI fun i j => i + j) rSetL)
    (Evl.tCut (tIfS (tTest (tOp (rGeI) (tVar 2) (tC (.int 1000000000000000000)))) (tAsg (tVar 2) (gSub (tVar 0) (tC (.int 0)) rSetL)) tNext)
    (tSeq (tAsg (tOp (rAddU K) (tOp (rAddU K) (tOp (rMulU K) (tOp (rIx K) (tVar 0) (tC (.int 1))) (tC (.int 48271))) (tOp (rModI) (tCB (rIntU) (tCons (tVar 2) tNil)) (tC (.int 2147483647)))) (tOp (rMulU K) (tC (.int 7919)) (tOp (rIx K) (tVar 0) (tC (.int 2))))) (gName 3))
    (tAsg (tOp (rModI) (tCB (rIntU) (tCons (tVar 3) tNil)) (tC (.int 2147483647))) (gSub (tVar 0) (tC (.int 1)) rSetL))))))) tNext)
    (tSeq (tIfS (tTest (tOp (rGtI) (tOp (rIx K) (tVar 0) (tC (.int 0))) (tC (.int 0)))) (tSeq (tAsg (tOp (rModI) (tCB (rIntU) (tCons (tOp (rIx K) (tVar 0) (tC (.int 0))) tNil)) (tVar 1)) (gName 4))
    (tSeq (tAsg (tOp (rDivI) (tOp (rIx K) (tVar 0) (tC (.int 0))) (tVar 1)) (gSub (tVar 0) (tC (.int 0)) rSetL))
    (tRet (tVar 4)))) tNext)
    (tSeq (tAsg (tOp (rModI) (tCB (rIntU) (tCons (tOp (rMulU K) (tOp (rAddU K) (tOp (rIx K) (tVar 0) (tC (.int 1))) (tC (.int 1))) (tC (.int 39373))) tNil)) (tC (.int 1000000007))) (gName 5))
    (tSeq (tAsg (tOp (rModI) (tCB (rIntU) (tCons (tOp (rMulU K) (tOp (rModI) (tCB (rIntU) (tCons (tOp (rMulU K) (tVar 5) (tVar 5)) tNil)) (tC (.int 998244353))) (tC (.int 30011))) tNil)) (tC (.int 998244353))) (gName 6))
    (tSeq (tIfS (tTest (tOp (rGtI) (tVar 1) (tC (.int 1000000)))) (tRet (tOp (rModI) (tCB (rIntU) (tCons (tOp (rAddU K) (tOp (rMulU K) (tVar 6) (tC (.int 1000000007))) (tVar 5)) tNil)) (tVar 1))) tNext)
    (tRet (tOp (rModI) (tCB (rIntU) (tCons (tOp (rDivI) (tVar 6) (tC (.int 7))) tNil)) (tVar 1))))))))
abbrev EndsOf (Q : VK) : Ends := { nx := fun _ H' => Q .non H', rt := Q }
theorem ln_law_take {K : PySem.W.Frag} {vs : List V} {H : Hp} {Q : VK} {E : XK} (h : sp_law_take K vs H Q E) : vs.length = 2 := by obtain ⟨_, _, _, rfl, _⟩ := h; rfl
theorem ln_law_bag {K : PySem.W.Frag} {vs : List V} {H : Hp} {Q : VK} {E : XK} (h : sp_law_bag K vs H Q E) : vs.length = 1 := by obtain ⟨_, _, rfl, _⟩ := h; rfl
/-! ### slices by natural numbers -/
theorem cutV_to (xs : List V) (k : Nat) : cutV xs none (some (k : Int)) = xs.take k := by
  unfold cutV
  rw [HT.sIx_none, HT.sIx_nat]
  show (xs.drop 0).take (min k xs.length - 0) = xs.take k
  rw [List.drop_zero, Nat.sub_zero]
  exact (List.take_eq_take_min).symm
theorem cutV_from (xs : List V) (k : Nat) : cutV xs (some (k : Int)) none = xs.drop k := by
  unfold cutV
  rw [HT.sIx_none, HT.sIx_nat]
  by_cases h : k ≤ xs.length
  · rw [Nat.min_eq_left h, List.take_of_length_le]
    rw [List.length_drop]
    exact Nat.le_refl _
  · rw [Nat.min_eq_right (by omega), List.drop_length, List.drop_eq_nil_of_le (by omega), List.take_nil]
theorem take_map_get {α β : Type} {f : α → β} {l : List α} {i : Nat} {x : α} (h : l[i]? = some x) : (l.take (i + 1)).map f = (l.take i).map f ++ [f x] := by
  rw [List.take_add_one, h]
  simp
def iabs (i : Int) : Int := if i < 0 then -i else i
theorem rd_law_bag {K : PySem.W.Frag} {vs : List V} {H : Hp} {Q : VK} {E : XK} (h : sp_law_bag K vs H Q E) : t_law_bag K (EndsOf Q) (start ["", ""] vs) H := by
  obtain ⟨a, ns, rfl, hS, k⟩ := h
  refine ⟨_, rfl, 63, rfl, .inl ⟨a, _, rfl, hS, fun p hp => ?_⟩⟩
  have e1 : cutV (ns.map V.int) none (some 63) = (ns.take 63).map V.int := by
    rw [show (63 : Int) = ((63 : Nat) : Int) from rfl, cutV_to, List.map_take]
  rw [e1]
  refine ⟨p, rfl, ⟨_, SqL.of upd_same⟩, fun D hD => ?_⟩
  refine lc_list (xs := (ns.take 63).map V.int) (fun i H' => Same (upd H p (.lst ((ns.take 63).map V.int))) H' ∧ H' D = some (.lst (((ns.take 63).take i).map fun z => V.int (iabs z)))) ⟨same_new hD, upd_same⟩ (fun i H' _ s => s.1.seq (SqL.of upd_same)) ?_ ?_
  · rintro i x H' hx ⟨s, e⟩
    rw [List.getElem?_map] at hx
    cases hz : (ns.take 63)[i]? with
    | none => rw [hz] at hx; cases hx
    | some z =>
      rw [hz] at hx
      cases hx
      have hi := (List.getElem?_eq_some_iff.mp hz).1
      have hl : (ns.take 63).length ≤ 63 := by rw [List.length_take]; omega
      refine ⟨rfl, ?_⟩
      refine ⟨_, rfl, z, rfl, _, e, ?_, fun b o q => ?_, ?_⟩
      · rw [List.length_map, List.length_take]
        exact small1000 (by omega)
      · rw [upd_ne (ne_of_none q hD)]
        exact s b o q
      · rw [upd_same, take_map_get hz]
        rfl
  · rintro H' ⟨s, e⟩
    refine ⟨by show 4 ≤ sizeLine; decide, fun b hb => ?_⟩
    rw [List.length_map, List.take_length] at e
    refine k b D _ ?_ ?_ ⟨0, 1234567891, 0, ((ns.take 63).map iabs), upd_same, ?_, by omega, by omega, by omega, by omega, ?_, ?_⟩ ?_
    · exact (same_new hp).free (s.free hb)
    · exact (same_new hp).free hD
    · rw [upd_ne (ne_of_none e hb), e, List.map_map]
      rfl
    · rw [List.length_map, List.length_take]
      omega
    · intro c hc
      obtain ⟨z, _, rfl⟩ := List.mem_map.mp hc
      unfold iabs
      split <;> omega
    · exact (same_new hp).trans (s.trans (same_new hb))

theorem ifI {x y : Int} {A B : Prop} (h1 : x = y → A) (h2 : x ≠ y → B) : if decide (V.int x = V.int y) = true then A else B := by
  by_cases h : x = y
  · rw [if_pos (decide_eq_true (congrArg V.int h))]
    exact h1 h
  · rw [if_neg]
    · exact h2 h
    · intro z
      exact h (V.int.inj (of_decide_eq_true z))
theorem ifD {p : Prop} [Decidable p] {A B : Prop} (h1 : p → A) (h2 : ¬ p → B) : if decide p = true then A else B := by
  by_cases h : p
  · rw [if_pos (decide_eq_true h)]
    exact h1 h
  · rw [if_neg (fun z => h (of_decide_eq_true z))]
    exact h2 h
theorem div_ok {n : Int} (h0 : 0 < n) (h1 : n ≤ 10 ^ 100) : CDivW 0 n := by
  refine ⟨h0, ?_⟩
  have h2 : n.natAbs < 2 ^ 9000 := by
    have z : n.natAbs ≤ 10 ^ 100 := by omega
    have z2 : (10 : Nat) ^ 100 < 2 ^ 9000 := by decide +kernel
    omega
  by_cases e : n.natAbs = 0
  · rw [e]; decide
  · exact (Nat.log2_lt e).mpr h2
theorem rd_law_take {K : PySem.W.Frag} {vs : List V} {H : Hp} {Q : VK} {E : XK} (h : sp_law_take K vs H Q E) : t_law_take K (EndsOf Q) (start ["", "", "", "", "", "", ""] vs) H := by
  obtain ⟨b, l, n, rfl, B, h0, h1, k⟩ := h
  have nlb := B.ne
  obtain ⟨x, m, p, xs, hb, hl, x0, m0, m1, p0, l63, c0⟩ := B.ex
  refine ⟨fun σ' H' => ∃ (s2 s3 : Option V) (x m p : Int), σ' = [some (.ref b), some (.int n), s2, s3, none, none, none] ∧ H' b = some (.lst [.int x, .int m, .int p, .ref l]) ∧ H' l = some (.lst (xs.map V.int)) ∧ 0 ≤ x ∧ 0 ≤ m ∧ m < 2147483647 ∧ 0 ≤ p ∧ Kp b H H', ?_, ?_⟩
  · refine ⟨_, rfl, .inl ⟨b, _, _, _, rfl, rfl, SqL.of hb, rfl, .inl ⟨rfl, _, rfl, ?_⟩⟩⟩
    refine ifI (fun e => ?_) (fun _ => ⟨_, _, x, m, p, rfl, hb, hl, x0, m0, m1, p0, Kp.refl⟩)
    subst e
    -- the next cell, 0 behind the script
    refine ⟨fun σ' H' => H' = H ∧ ∃ c, 0 ≤ c ∧ σ' = [some (.ref b), some (.int n), some (.int c), none, none, none, none], ?_, ?_⟩
    · refine ⟨_, rfl, .inl ⟨b, _, _, _, rfl, rfl, SqL.of hb, rfl, _, rfl, .inl ⟨b, _, _, _, rfl, rfl, SqL.of hb, rfl, .inl ⟨_, _, rfl, .inl ⟨_, SqL.of hl, rfl⟩, _, _, rfl, rfl, _, rfl, ?_⟩⟩⟩⟩
      refine ifD (fun q => ?_) (fun _ => ⟨rfl, 0, by decide, rfl⟩)
      rw [List.length_map] at q
      have hp : p.toNat < xs.length := by omega
      have ep : p = ((p.toNat : Nat) : Int) := by omega
      have g : (xs.map V.int)[p.toNat]? = some (.int (xs[p.toNat])) := by rw [List.getElem?_map, List.getElem?_eq_getElem hp]; rfl
      refine ⟨_, rfl, .inl ⟨b, _, _, _, rfl, rfl, SqL.of hb, rfl, _, rfl, .inl ⟨b, _, _, _, rfl, rfl, SqL.of hb, rfl, .inl ⟨l, _, p, _, rfl, rfl, SqL.of hl, by rw [ep]; exact atI_nat g, ?_⟩⟩⟩⟩
      exact ⟨rfl, _, c0 _ (List.getElem_mem hp), rfl⟩
    rintro σ' H' ⟨rfl, c, cc, rfl⟩
    -- the place
    refine ⟨_, rfl, b, _, 2, _, rfl, rfl, by decide, SqL.of hb, rfl, _, _, rfl, rfl, b, _, 2, 2, rfl, rfl, hb, rfl, ?_⟩
    have hb' : (upd H' b (.lst [.int 0, .int m, .int (p + 1), .ref l])) b = some (.lst [.int 0, .int m, .int (p + 1), .ref l]) := upd_same
    have hl' : (upd H' b (.lst [.int 0, .int m, .int (p + 1), .ref l])) l = some (.lst (xs.map V.int)) := by rw [upd_ne nlb]; exact hl
    have kp' : Kp b H' (upd H' b (.lst [.int 0, .int m, .int (p + 1), .ref l])) := kp_put
    show Evl.tCut _ _ _ _ (upd H' b (.lst [.int 0, .int m, .int (p + 1), .ref l]))
    generalize upd H' b (.lst [.int 0, .int m, .int (p + 1), .ref l]) = H2 at hb' hl' kp' ⊢
    -- a great cell fills the bag
    refine ⟨fun σ' H3 => σ' = [some (.ref b), some (.int n), some (.int c), none, none, none, none] ∧ ∃ x, 0 ≤ x ∧ H3 b = some (.lst [.int x, .int m, .int (p + 1), .ref l]) ∧ H3 l = some (.lst (xs.map V.int)) ∧ Kp b H' H3, ?_, ?_⟩
    · refine ⟨_, rfl, _, _, rfl, rfl, _, rfl, ?_⟩
      refine ifD (fun q => ?_) (fun _ => ⟨rfl, 0, by decide, hb', hl', kp'⟩)
      refine ⟨_, rfl, _, rfl, b, _, 0, 0, rfl, rfl, hb', rfl, rfl, c, cc, upd_same, by rw [upd_ne nlb]; exact hl', kp'.put⟩
    rintro σ' H3 ⟨rfl, x, x0', hb3, hl3, kp3⟩
    refine ⟨_, rfl, .inl ⟨b, _, _, _, rfl, rfl, SqL.of hb3, rfl, .inl ⟨_, _, rfl, rfl, .inl (.inl (by omega)), ?_⟩⟩⟩
    refine ⟨_, rfl, .inl (.inl ⟨_, rfl, _, _, rfl, rfl, (by show (0 : Int) < _; decide), .inl ⟨_, _, rfl, rfl, ?_⟩⟩)⟩
    refine ⟨_, rfl, .inl ⟨b, _, _, _, rfl, rfl, SqL.of hb3, rfl, .inl ⟨_, _, rfl, rfl, .inl (.inl (by omega)), .inl ⟨_, _, rfl, rfl, ?_⟩⟩⟩⟩
    refine ⟨_, rfl, .inl (.inl ⟨_, rfl, _, _, rfl, rfl, (by show (0 : Int) < _; decide), ?_⟩)⟩
    refine ⟨_, rfl, b, _, 1, 1, rfl, rfl, hb3, rfl, ?_⟩
    exact ⟨_, _, x, _, p + 1, rfl, upd_same, by rw [upd_ne nlb]; exact hl3, x0', Int.emod_nonneg _ (by decide), Int.emod_lt_of_pos _ (by decide), by omega, kp3.put⟩
  · rintro σ' H' ⟨s2, s3, x, m, p, rfl, hb, hl, x0, m0, m1, p0, kp⟩
    refine ⟨_, rfl, .inl ⟨b, _, _, _, rfl, rfl, SqL.of hb, rfl, _, _, rfl, rfl, _, rfl, ?_⟩⟩
    refine ifD (fun hx => ?_) (fun hx => ?_)
    · refine ⟨_, rfl, .inl ⟨b, _, _, _, rfl, rfl, SqL.of hb, rfl, .inl (.inl ⟨_, rfl, _, rfl, _, _, rfl, rfl, h0, ?_⟩)⟩⟩
      refine ⟨_, rfl, .inl ⟨b, _, _, _, rfl, rfl, SqL.of hb, rfl, _, rfl, _, _, rfl, rfl, div_ok h0 h1, ?_⟩⟩
      refine ⟨_, rfl, b, _, _, 0, rfl, rfl, hb, rfl, ?_⟩
      refine ⟨_, rfl, k _ _ (Int.emod_nonneg _ (by omega)) (Int.emod_lt_of_pos _ h0) ⟨x / n, m, p, xs, upd_same, by rw [upd_ne nlb]; exact hl, Int.ediv_nonneg x0 (by omega), m0, m1, p0, l63, c0⟩ kp.put⟩
    · refine ⟨_, rfl, .inl ⟨b, _, _, _, rfl, rfl, SqL.of hb, rfl, .inl ⟨_, _, rfl, rfl, .inl ⟨_, _, rfl, rfl, .inl (.inl (by omega)), ?_⟩⟩⟩⟩
      refine .inl (.inl ⟨_, rfl, _, _, rfl, rfl, (by show (0 : Int) < _; decide), ?_⟩)
      generalize hw : (m + 1) * 39373 % 1000000007 = w
      have w0 : 0 ≤ w := by rw [← hw]; exact Int.emod_nonneg _ (by decide)
      have w1 : w < 1000000007 := by rw [← hw]; exact Int.emod_lt_of_pos _ (by decide)
      refine ⟨_, rfl, _, rfl, .inl ⟨_, _, rfl, rfl, .inl (.inl (by omega)), ?_⟩⟩
      refine .inl (.inl ⟨_, rfl, _, _, rfl, rfl, (by show (0 : Int) < _; decide), .inl ⟨_, _, rfl, rfl, .inl (.inr (by decide)), .inl (.inl ⟨_, rfl, _, _, rfl, rfl, (by show (0 : Int) < _; decide), ?_⟩)⟩⟩)
      generalize hz : w * w % 998244353 * 30011 % 998244353 = z
      have z0 : 0 ≤ z := by rw [← hz]; exact Int.emod_nonneg _ (by decide)
      have z1 : z < 998244353 := by rw [← hz]; exact Int.emod_lt_of_pos _ (by decide)
      refine ⟨_, rfl, _, _, rfl, rfl, _, rfl, ?_⟩
      have B' : Bag H' b l := ⟨x, m, p, xs, hb, hl, x0, m0, m1, p0, l63, c0⟩
      refine ifD (fun _ => ?_) (fun _ => ?_)
      · refine ⟨_, rfl, .inl ⟨_, _, rfl, rfl, .inl (.inl (by omega)), _, rfl, .inl ⟨_, _, rfl, rfl, .inl (.inl ⟨_, rfl, _, rfl, _, _, rfl, rfl, h0, ?_⟩)⟩⟩⟩
        exact k _ _ (Int.emod_nonneg _ (by omega)) (Int.emod_lt_of_pos _ h0) B' kp
      · refine ⟨_, rfl, _, _, rfl, rfl, ⟨by decide, by decide⟩, .inl (.inl ⟨_, rfl, _, rfl, _, _, rfl, rfl, h0, ?_⟩)⟩
        exact k _ _ (Int.emod_nonneg _ (by omega)) (Int.emod_lt_of_pos _ h0) B' kp
end Pk
set_option Elab.async false
set_option linter.all false
set_option maxRecDepth 100000
set_option maxHeartbeats 2000000
namespace Pk
open PySem PySem.Spec L2 PyProof.Rows
theorem kit_same {K : PySem.W.Frag} {v : Value} : PySem.W.kitOne K v v = some true := by
  unfold PySem.W.kitOne
  simp
/-! ### own classes: bundles of what the top says of them -/
/-- a def that is a class's own: where it stands, what it promises -/
structure Own (P : Program) (w : World) (K : PySem.W.Frag) (mg : Str → Option Value) (base : Heap) (CX : CXT) (k : Nat) (C : Addr) (m : Str) (ps : List Str) (sp : Sp) : Prop where
  ex : ∃ f fd, FnOk P w K mg base CX k f fd ps sp ∧ PySem.W.findIn K (.ref C) m = some (some (.ref f)) ∧ PySem.W.isFn K (.ref f) = true ∧ PySem.W.keepIn K (.ref f) = true ∧ PySem.W.fnIn K f = true ∧ Binds K fd ps []
/-- a property of a class -/
structure Pro (P : Program) (w : World) (K : PySem.W.Frag) (mg : Str → Option Value) (base : Heap) (CX : CXT) (k : Nat) (C : Addr) (m : Str) (ps : List Str) (sp : Sp) : Prop where
  ex : ∃ p f fd, FnOk P w K mg base CX k f fd ps sp ∧ PropOf K C m p f ∧ Binds K fd ps []
/-- a class of the text -/
structure Kls (K : PySem.W.Frag) (mg : Str → Option Value) (x : Str) (C : Addr) : Prop where
  at_ : mg x = some (.ref C)
  cl : Cls K C
  ma : PySem.W.makesIn K C = true
  kp : PySem.W.keepIn K (.ref C) = true
  sf : PySem.W.selfFirst K C = true
  ic : C8.InsC K C
  ne : PySem.W.findIn K (.ref C) "__ne__" = some (some (.builtin "object.__ne__"))
section
variable {X : Cx} {CX : CXT} {k j : Nat} {C : Addr} {ps : List Str} {sp : Sp} {E : XK} {x m : Str} {p pos apos : Pos} {e o fe : Expr} {es : List Expr} {ta tf te : TE} {t : TA}
theorem run_code {pins : List (Addr × Obj)} {σ : L2.St} {H : Hp} {s : Shared} {f : Addr} {fd : FuncData} {Q : VK} {us : List Value} {vs : List V} (F : FnOk X.prog X.w X.K X.mg X.base CX k f fd ps sp) (hr : Room k X.A) (hb : Binds X.K fd ps [])
    (hx : Passes CX X E) (I : Inv X pins σ H s) (r : Vals vs us) (h : sp vs H Q E) :
    codeAny (model X.prog X.w) X.A (.call (.ref f) ⟨us, []⟩) (fun r s' => match r with | .ok (.ret v) => EP X pins σ Q v s' | .ok _ => False | .error e => X.xe e s') s := by
  have n : (us ++ ([] : List Value)).length = ps.length := by
    rw [List.append_nil, ← r.length]
    exact F.len _ _ _ _ h
  have b := hb s us I.kIn n
  rw [List.append_nil] at b
  apply codeAny_mono (F.run X.A X.stack s H ⟨us, []⟩ us vs Q E hr I.env0 b r h)
  intro res s2 q
  match res, q with
  | .error er, q => exact hx pins σ H s er s2 I q
  | .ok (.ret u), q => exact I.after q
/-- C(e, ..) -/
theorem pe_mk (c : Kls X.K X.mg x C) (F : Own X.prog X.w X.K X.mg X.base CX k C "__init__" ps sp) (hr : Room j X.A) (hx : Passes CX X E) (ha : PA X (e :: es) t) (hj : k + 1 ≤ j := by first | decide | omega) (hg : Gl X x := by rfl)
    (h1 : (x == ("__debug__" : Str)) = false := by decide) (h2 : starEach (e :: es) X.env = (false, eval e X.env) :: starEach es X.env := by rfl) (h3 : (backTo pos (starEach es X.env)).any (·.1) = false := by rfl) :
    PE X (.Call (.Name x p) (e :: es) [] pos) (tMake C sp [] E t) := by
  obtain ⟨f, fd, G, a1, a2, a3, _, b⟩ := F.ex
  exact pe_make ⟨c.ma, a1, a2, c.kp⟩ G (hr.mono hj) hg c.at_ b .nil hx ha h1 h2 h3
/-- o.m(e, ..), o.m() -/
theorem pe_mt (c : Kls X.K X.mg x C) (F : Own X.prog X.w X.K X.mg X.base CX k C m ps sp) (he : PE X o ta) (hr : Room j X.A) (hx : Passes CX X E) (ha : PA X (e :: es) t) (hj : k ≤ j := by first | decide | omega)
    {pl : Sem Bool} (hst : starEach (e :: es) X.env = (false, eval e X.env) :: starEach es X.env := by rfl) (hpl : (backTo pos (starEach es X.env)).any (·.1) = false := by rfl)
    (ht : eval (.Call (.Attribute o m apos) (e :: es) [] pos) X.env = (do
      let ov ← eval o X.env
      standAt apos.atName
      let (f, first) ← holding [ov] (getMethod ov m pl)
      callWith pos f first (backTo pos (starEach (e :: es) X.env)) (backToKw pos (keywordEach [] X.env))) := by rfl) :
    PE X (.Call (.Attribute o m apos) (e :: es) [] pos) (tMeth C m sp [] E ta t) := by
  obtain ⟨f, fd, G, a1, a2, a3, _, b⟩ := F.ex
  exact pe_meth he c.cl ⟨a1, a2, a3⟩ G (hr.mono hj) b .nil hx ha hst hpl ht
theorem pe_mt0 (c : Kls X.K X.mg x C) (F : Own X.prog X.w X.K X.mg X.base CX k C m ps sp) (he : PE X o ta) (hr : Room j X.A) (hx : Passes CX X E) (hj : k ≤ j := by first | decide | omega)
    {pl : Sem Bool} (ht : eval (.Call (.Attribute o m apos) [] [] pos) X.env = (do
      let ov ← eval o X.env
      standAt apos.atName
      let (f, first) ← holding [ov] (getMethod ov m pl)
      callWith pos f first (backTo pos (starEach [] X.env)) (backToKw pos (keywordEach [] X.env))) := by rfl) :
    PE X (.Call (.Attribute o m apos) [] [] pos) (tMeth C m sp [] E ta tNil) := by
  obtain ⟨f, fd, G, a1, a2, a3, _, b⟩ := F.ex
  exact pe_meth0 he c.cl ⟨a1, a2, a3⟩ G (hr.mono hj) b .nil hx ht
/-- o.f, a property -/
theorem pe_pr (c : Kls X.K X.mg x C) (F : Pro X.prog X.w X.K X.mg X.base CX k C m ps sp) (he : PE X o ta) (hr : Room j X.A) (hx : Passes CX X.nox E) (hj : k + 1 ≤ j := by first | decide | omega)
    (hab : attributeBase o m X.env (eval o X.env) = eval o X.env := by rfl) : PE X (.Attribute o m pos) (tProp C sp [] E ta) := by
  obtain ⟨q, f, fd, G, a1, b⟩ := F.ex
  exact pe_prop he c.cl a1 G (hr.mono hj) b .nil hx hab
/-- f(e, ..), f an instance of the class at C -/
def tCallI (C : Addr) (sp : Sp) (E : XK) (tf : TE) (t : TA) : TE := fun σ H Q => tf σ H fun y H1 => ∃ a, y = V.ref a ∧ t σ H1 fun vs H2 => (∃ dx fs, H2 a = some (.ins C dx fs)) ∧ sp (V.ref a :: vs) H2 Q E
theorem pe_in (F : Own X.prog X.w X.K X.mg X.base CX k C "__call__" ps sp) (hf : PE X fe tf) (hr : Room j X.A) (hx : Passes CX X E) (ha : PA X (e :: es) t) (hj : k ≤ j := by first | decide | omega)
    (ht : eval (.Call fe (e :: es) [] pos) X.env = (do callWith pos (← eval fe X.env) [] (backTo pos (starEach (e :: es) X.env)) (backToKw pos (keywordEach [] X.env))) := by rfl)
    (h2 : starEach (e :: es) X.env = (false, eval e X.env) :: starEach es X.env := by rfl) (h3 : (backTo pos (starEach es X.env)).any (·.1) = false := by rfl) : PE X (.Call fe (e :: es) [] pos) (tCallI C sp E tf t) := by
  obtain ⟨f, fd, G, a1, a2, a3, a4, b⟩ := F.ex
  constructor
  intro pins s σ H Q I h
  refine Call_ (thn (hf.run pins s σ H _ I h) ?_) ht
  rintro u s1 ⟨y, H1, I1, ry, a, rfl, q⟩
  obtain rfl : u = Value.ref a := ry
  refine StX.callO_with (thn (ha.run pos pins s1 σ H1 _ I1 q) ?_) h2 h3
  rintro us s2 ⟨vs, H2, I2, r, hi, q2⟩
  obtain ⟨ox, od, J, hd⟩ := StX.insC_at I2 (.inr hi)
  exact ⟨⟨C, ox, od, J, hd⟩, wpAny_call (PySem.W.kco_code I2.kIn J hd a1 a2 a4 (run_code (us := .ref a :: us) (vs := .ref a :: vs) G (hr.mono hj) b hx I2 (.cons rfl r) q2))⟩
/-- x op y, both instances of the class at C -/
def rOwnB (C : Addr) (sp : Sp) (E : XK) : R2 := fun x y H Q => ∃ a b dx fs dy gs, x = .ref a ∧ y = .ref b ∧ H a = some (.ins C dx fs) ∧ H b = some (.ins C dy gs) ∧ sp [x, y] H Q E
theorem op_ownB {op : Operator} (c : Kls X.K X.mg x C) (F : Own X.prog X.w X.K X.mg X.base CX k C (PySem.dunder op.info.2) ps sp) (hr : Room j X.A) (hx : Passes CX X E) (hj : k ≤ j := by first | decide | omega) : OpR X (binaryOp op) (rOwnB C sp E) := by
  obtain ⟨f, fd, G, a1, a2, a3, a4, bb⟩ := F.ex
  intro pins s σ H u v ov iv Q I ru rv h
  obtain ⟨a, b, dx, fs, dy, gs, rfl, rfl, ha, hb, q⟩ := h
  cases (show ov = Value.ref a from ru)
  cases (show iv = Value.ref b from rv)
  obtain ⟨_, O, _⟩ := ins_get I.hok ha
  obtain ⟨od, J, _⟩ := O.look
  obtain ⟨_, O', _⟩ := ins_get I.hok hb
  obtain ⟨od', J', _⟩ := O'.look
  obtain ⟨_, hF⟩ := I.fr
  refine PySem.W.binop_K (op := op) hF I.ok.mod.kin J J'.type c.sf a1 a2 ?_
  refine wpAny_mono (run_fn (us := [.ref a, .ref b]) (vs := [.ref a, .ref b]) G (hr.mono hj) bb .nil hx I (.cons rfl (.cons rfl .nil)) q) ?_ fun _ _ z => z
  rintro w s' ⟨z, H', I', rz, qz⟩
  exact SlX.cmpback rz ⟨z, H', I', rz, qz⟩
/-- o op= y, o an instance of the class at C -/
def ipOwn (C : Addr) (sp : Sp) (E : XK) : TIp := fun x y H Q => ∃ a dx fs, x = .ref a ∧ H a = some (.ins C dx fs) ∧ sp [x, y] H Q E
theorem ip_own {op : Operator} (c : Kls X.K X.mg x C) (F : Own X.prog X.w X.K X.mg X.base CX k C (dunderI op.info.2) ps sp) (hr : Room j X.A) (hx : Passes CX X E) (hj : k ≤ j := by first | decide | omega) : PIp X op (ipOwn C sp E) := by
  obtain ⟨f, fd, G, a1, a2, a3, a4, bb⟩ := F.ex
  intro pins s σ H u v ov iv Q I ru rv h
  obtain ⟨a, dx, fs, rfl, ha, q⟩ := h
  cases (show ov = Value.ref a from ru)
  obtain ⟨_, O, _⟩ := ins_get I.hok ha
  obtain ⟨od, J, _⟩ := O.look
  obtain ⟨_, hF⟩ := I.fr
  refine PySem.W.ksp_inplace (op := op) hF I.ok.mod.kin J c.sf a1 a2 ?_
  refine wpAny_mono (run_fn (us := [.ref a, iv]) (vs := [.ref a, v]) G (hr.mono hj) bb .nil hx I (.cons rfl (.cons rv .nil)) q) ?_ fun _ _ z => z
  rintro w s' ⟨z, H', I', rz, qz⟩
  exact SlX.cmpback rz ⟨z, H', I', rz, qz⟩
end
end Pk
set_option Elab.async false
set_option linter.all false
set_option maxRecDepth 100000
set_option maxHeartbeats 2000000
namespace Pk
open PySem PySem.Spec L2 PyProof.Rows
/-- where the package's classes stand -/
structure Cs where
  PipeError : Addr
  Wrong : Addr
  TooMany : Addr
  Overdrawn : Addr
  NotPassed : Addr
  Rule : Addr
  Account : Addr
  at_least : Addr := 0
theorem iteT' {c : Bool} {A B : Prop} (e : c = true) (h : A) : if c = true then A else B := by
  rw [if_pos e]
  exact h
theorem iteF' {c : Bool} {A B : Prop} (e : c = false) (h : B) : if c = true then A else B := by
  rw [if_neg (by rw [e]; decide)]
  exact h
theorem vals_ints1 {i : Int} (t : Tok) : Vals [.int i] [.int i t] := .cons ⟨t, rfl⟩ .nil
/-! ### trees of rules -/
inductive Tr where
  | at (t q : Int)
  | or (a b : Tr)
  | and (a b : Tr)
namespace Tr
def lv : Tr → Nat
  | .at _ _ => 1
  | .or a b => lv a + lv b
  | .and a b => lv a + lv b
def dp : Tr → Nat
  | .at _ _ => 1
  | .or a b => max (dp a) (dp b) + 1
  | .and a b => max (dp a) (dp b) + 1
/-- nodes -/
def nd : Tr → Nat
  | .at _ _ => 1
  | .or a b => nd a + nd b + 1
  | .and a b => nd a + nd b + 1
def ok : Tr → Prop
  | .at t q => 1 ≤ t ∧ t ≤ 10 ^ 50 ∧ 1 ≤ q ∧ q ≤ 6
  | .or a b => ok a ∧ ok b
  | .and a b => ok a ∧ ok b
def give : Tr → Int → Int
  | .at t q, i => if t ≤ i then i - i % q else 0
  | .or a b, i => if give b i > give a i then give b i else give a i
  | .and a b, i => if give b i < give a i then give b i else give a i
def starts : Tr → List Int
  | .at t _ => [t]
  | .or a b => starts a ++ starts b
  | .and a b => starts a ++ starts b
def pd : Tr → PyData
  | .at t q => .tuple [.str "at", .int t, .int q]
  | .or a b => .tuple [.str "or", pd a, pd b]
  | .and a b => .tuple [.str "and", pd a, pd b]
theorem lv_pos : ∀ T : Tr, 1 ≤ lv T
  | .at _ _ => Nat.le_refl _
  | .or a b => Nat.le_trans (lv_pos a) (Nat.le_add_right _ _)
  | .and a b => Nat.le_trans (lv_pos a) (Nat.le_add_right _ _)
theorem dp_le : ∀ T : Tr, dp T ≤ lv T
  | .at _ _ => Nat.le_refl _
  | .or a b => by
    have h1 := dp_le a
    have h2 := dp_le b
    have h3 := lv_pos a
    have h4 := lv_pos b
    show max (dp a) (dp b) + 1 ≤ lv a + lv b
    omega
  | .and a b => by
    have h1 := dp_le a
    have h2 := dp_le b
    have h3 := lv_pos a
    have h4 := lv_pos b
    show max (dp a) (dp b) + 1 ≤ lv a + lv b
    omega
theorem dp_pos (T : Tr) : 1 ≤ dp T := by cases T <;> (unfold dp; omega)
theorem starts_len : ∀ T : Tr, (starts T).length = lv T
  | .at _ _ => rfl
  | .or a b => by show (starts a ++ starts b).length = _; rw [List.length_append, starts_len a, starts_len b]; rfl
  | .and a b => by show (starts a ++ starts b).length = _; rw [List.length_append, starts_len a, starts_len b]; rfl
/-- a tree as data: its depth, its text -/
theorem pd_depth : ∀ T : Tr, (pd T).depth ≤ dp T
  | .at t q => by show (PyData.tuple [.str "at", .int t, .int q]).depth ≤ 1; simp [PyData.depth, PyData.depthAll]
  | .or a b => by
    have h1 := pd_depth a
    have h2 := pd_depth b
    show (PyData.tuple [.str "or", pd a, pd b]).depth ≤ max (dp a) (dp b) + 1
    simp only [PyData.depth, PyData.depthAll]
    omega
  | .and a b => by
    have h1 := pd_depth a
    have h2 := pd_depth b
    show (PyData.tuple [.str "and", pd a, pd b]).depth ≤ max (dp a) (dp b) + 1
    simp only [PyData.depth, PyData.depthAll]
    omega
theorem pd_lay : ∀ T : Tr, (pd T).canLay0 = true
  | .at t q => by show (PyData.tuple [.str "at", .int t, .int q]).canLay0 = true; simp only [PyData.canLay0, PyData.canLayAll0]; decide +kernel
  | .or a b => by
    show (PyData.tuple [.str "or", pd a, pd b]).canLay0 = true
    simp only [PyData.canLay0, PyData.canLayAll0, pd_lay a, pd_lay b]; decide +kernel
  | .and a b => by
    show (PyData.tuple [.str "and", pd a, pd b]).canLay0 = true
    simp only [PyData.canLay0, PyData.canLayAll0, pd_lay a, pd_lay b]; decide +kernel
theorem log_ok {n : Int} (h0 : 0 ≤ n) (h1 : n ≤ 10 ^ 100) : n.natAbs.log2 < 1920 := by
  have h2 : n.natAbs < 2 ^ 1920 := by
    have z : n.natAbs ≤ 10 ^ 100 := by omega
    have z2 : (10 : Nat) ^ 100 < 2 ^ 1920 := by decide +kernel
    omega
  by_cases e : n.natAbs = 0
  · rw [e]; decide
  · exact (Nat.log2_lt e).mpr h2
theorem pd_show : ∀ T : Tr, ok T → (pd T).showable = true
  | .at t q, h => by
    obtain ⟨h1, h2, h3, h4⟩ := h
    show (PyData.tuple [.str "at", .int t, .int q]).showable = true
    have e1 : decide (t.natAbs.log2 < 1920) = true := decide_eq_true (log_ok (by omega) (by omega))
    have e2 : decide (q.natAbs.log2 < 1920) = true := decide_eq_true (log_ok (by omega) (by omega))
    simp only [PyData.showable, PyData.showableAll, e1, e2]; decide
  | .or a b, h => by
    show (PyData.tuple [.str "or", pd a, pd b]).showable = true
    simp only [PyData.showable, PyData.showableAll, pd_show a h.1, pd_show b h.2]; decide
  | .and a b, h => by
    show (PyData.tuple [.str "and", pd a, pd b]).showable = true
    simp only [PyData.showable, PyData.showableAll, pd_show a h.1, pd_show b h.2]; decide
theorem pd_siz : ∀ T : Tr, siz (pd T) + 100 ≤ 5000 * lv T
  | .at t q => by
    show siz (PyData.tuple [.str "at", .int t, .int q]) + 100 ≤ 5000 * 1
    have e : ((Str.ofString "at").length) = 2 := rfl
    simp only [siz, sizL]
    omega
  | .or a b => by
    have h1 := pd_siz a
    have h2 := pd_siz b
    have h3 := lv_pos a
    show siz (PyData.tuple [.str "or", pd a, pd b]) + 100 ≤ 5000 * (lv a + lv b)
    have e : ((Str.ofString "or").length) = 2 := rfl
    simp only [siz, sizL]
    omega
  | .and a b => by
    have h1 := pd_siz a
    have h2 := pd_siz b
    have h3 := lv_pos a
    show siz (PyData.tuple [.str "and", pd a, pd b]) + 100 ≤ 5000 * (lv a + lv b)
    have e : ((Str.ofString "and").length) = 3 := rfl
    simp only [siz, sizL]
    omega
end Tr
/-! ### trees in the heap -/
def TrAt (K : PySem.W.Frag) (H : Hp) : V → Tr → Prop
  | v, .at t q => ∃ a, v = .ref a ∧ SqT K H a [.str "at", .int t, .int q]
  | v, .or x y => ∃ a u w, v = .ref a ∧ SqT K H a [.str "or", u, w] ∧ TrAt K H u x ∧ TrAt K H w y
  | v, .and x y => ∃ a u w, v = .ref a ∧ SqT K H a [.str "and", u, w] ∧ TrAt K H u x ∧ TrAt K H w y
/-- tuples stay -/
def Tups (K : PySem.W.Frag) (H H' : Hp) : Prop := ∀ a xs, SqT K H a xs → SqT K H' a xs
section
variable {K : PySem.W.Frag} {H H' : Hp} {v : V} {T : Tr}
theorem TrAt.mono (s : Tups K H H') : ∀ {T : Tr} {v : V}, TrAt K H v T → TrAt K H' v T
  | .at t q, _, ⟨a, e, h⟩ => ⟨a, e, s _ _ h⟩
  | .or x y, _, ⟨a, u, w, e, h, h1, h2⟩ => ⟨a, u, w, e, s _ _ h, TrAt.mono s h1, TrAt.mono s h2⟩
  | .and x y, _, ⟨a, u, w, e, h, h1, h2⟩ => ⟨a, u, w, e, s _ _ h, TrAt.mono s h1, TrAt.mono s h2⟩
theorem Tups.same (s : Same H H') : Tups K H H' := fun a xs h => by
  rcases h with (h | ⟨o, h⟩) | h
  · exact .inl (.inl (s _ _ h))
  · exact .inl (.inr ⟨o, s _ _ h⟩)
  · exact .inr h
theorem Tups.kp {b : Addr} {ys : List V} (k : Kp b H H') (hb : H b = some (.lst ys)) : Tups K H H' := fun a xs h => k.tup hb h
theorem Tups.trans {H2 : Hp} (a : Tups K H H') (b : Tups K H' H2) : Tups K H H2 := fun x xs h => b x xs (a x xs h)
/-- an object that is no tuple is written -/
theorem Tups.put {p : Addr} {o u : HO} (h : H p = some u) (nt : ∀ xs, u ≠ .tup xs) (nf : ∀ ob xs, u ≠ .frz ob (.tup xs)) : Tups K H (upd H p o) := fun a xs q => by
  rcases q with (q | ⟨ob, q⟩) | q
  · exact .inl (.inl (by rw [upd_ne (ne_of q h fun e => nt _ e.symm)]; exact q))
  · exact .inl (.inr ⟨ob, by rw [upd_ne (ne_of q h fun e => nf _ _ e.symm)]; exact q⟩)
  · exact .inr q
theorem TrAt.ref (h : TrAt K H v T) : ∃ a, v = .ref a := by
  cases T with
  | «at» t q => obtain ⟨a, e, _⟩ := h; exact ⟨a, e⟩
  | or x y => obtain ⟨a, _, _, e, _⟩ := h; exact ⟨a, e⟩
  | and x y => obtain ⟨a, _, _, e, _⟩ := h; exact ⟨a, e⟩
theorem TrAt.dp : ∀ {T : Tr} {v : V}, TrAt K H v T → Dp K H v T.pd
  | .at t q, _, ⟨a, e, h⟩ => by subst e; exact .tup h (.cons (.str _) (.cons (.int _) (.cons (.int _) .nil)))
  | .or x y, _, ⟨a, u, w, e, h, h1, h2⟩ => by subst e; exact .tup h (.cons (.str _) (.cons (TrAt.dp h1) (.cons (TrAt.dp h2) .nil)))
  | .and x y, _, ⟨a, u, w, e, h, h1, h2⟩ => by subst e; exact .tup h (.cons (.str _) (.cons (TrAt.dp h1) (.cons (TrAt.dp h2) .nil)))
/-- what a tree's tuple is -/
theorem TrAt.tuple (h : TrAt K H v T) : ∃ a w x y, v = .ref a ∧ SqT K H a [.str w, x, y] ∧
    ((w = "at" ∧ ∃ t q, T = .at t q ∧ x = .int t ∧ y = .int q) ∨ (w = "or" ∧ ∃ A B, T = .or A B ∧ TrAt K H x A ∧ TrAt K H y B) ∨ (w = "and" ∧ ∃ A B, T = .and A B ∧ TrAt K H x A ∧ TrAt K H y B)) := by
  cases T with
  | «at» t q => obtain ⟨a, e, s⟩ := h; exact ⟨a, _, _, _, e, s, .inl ⟨rfl, t, q, rfl, rfl, rfl⟩⟩
  | or x y => obtain ⟨a, u, w, e, s, h1, h2⟩ := h; exact ⟨a, _, _, _, e, s, .inr (.inl ⟨rfl, x, y, rfl, h1, h2⟩)⟩
  | and x y => obtain ⟨a, u, w, e, s, h1, h2⟩ := h; exact ⟨a, _, _, _, e, s, .inr (.inr ⟨rfl, x, y, rfl, h1, h2⟩)⟩
end
end Pk
set_option Elab.async false
set_option linter.all false
set_option maxRecDepth 100000
set_option maxHeartbeats 2000000
namespace Pk
open PySem PySem.Spec L2 PyProof.Rows
section
variable {K : PySem.W.Frag} {C : Cs} {vs : List V} {H H' : Hp} {Q : VK} {E : XK} {n : Nat}
/-! ### numbers -/
def sp_is_integer (K : PySem.W.Frag) : Sp := fun vs H Q _ => ∃ i, vs = [.int i] ∧ Q (.bl true) H
def t_is_integer (K : PySem.W.Frag) : TS :=
  (tRet (tAndV (tCB (rIsi K) (tCons (tVar 0) (tCons (tC (.ty "int")) tNil))) (tNotV (tCB (rIsi K) (tCons (tVar 0) (tCons (tC (.ty "bool")) tNil))))))
theorem ln_is_integer (h : sp_is_integer K vs H Q E) : vs.length = 1 := by obtain ⟨_, rfl, _⟩ := h; rfl
theorem kit_ii {K : PySem.W.Frag} : PySem.W.kitOne K (.type "int") (.type "int") = some true := kit_ty (by decide +kernel)
theorem kit_ib {K : PySem.W.Frag} : PySem.W.kitOne K (.type "int") (.type "bool") = some false := kit_ty (by decide +kernel)
theorem kit_tt {K : PySem.W.Frag} : PySem.W.kitOne K (.type "tuple") (.type "tuple") = some true := kit_ty (by decide +kernel)
theorem kit_ss {K : PySem.W.Frag} : PySem.W.kitOne K (.type "str") (.type "str") = some true := kit_ty (by decide +kernel)
theorem rd_is_integer (h : sp_is_integer K vs H Q E) : t_is_integer K (EndsOf Q) (start [""] vs) H := by
  obtain ⟨i, rfl, k⟩ := h
  refine ⟨_, rfl, _, _, _, _, true, rfl, .ty _, .base (.int i), kit_ii, true, rfl, ?_⟩
  exact ⟨_, rfl, _, _, _, _, false, rfl, .ty _, .base (.int i), kit_ib, false, rfl, k⟩
def sp_is_number (K : PySem.W.Frag) : Sp := fun vs H Q _ => ∃ l i, vs = [.int l, .int i] ∧ Q (.bl (decide (l ≤ i))) H
def t_is_number (K : PySem.W.Frag) : TS :=
  (tRet (tAndV (tCall (sp_is_integer K) [] E0 (tCons (tVar 1) tNil)) (tOp (rGeI) (tVar 1) (tVar 0))))
theorem ln_is_number (h : sp_is_number K vs H Q E) : vs.length = 2 := by obtain ⟨_, _, rfl, _⟩ := h; rfl
theorem rd_is_number (h : sp_is_number K vs H Q E) : t_is_number K (EndsOf Q) (start ["", ""] vs) H := by
  obtain ⟨l, i, rfl, k⟩ := h
  exact ⟨_, rfl, i, rfl, true, rfl, _, rfl, _, rfl, _, _, rfl, rfl, k⟩
def sp_is_by (K : PySem.W.Frag) : Sp := fun vs H Q _ => ∃ i, vs = [.int i] ∧ Q (.bl (decide (1 ≤ i) && decide (i ≤ 6))) H
def t_is_by (K : PySem.W.Frag) : TS :=
  (tRet (tAndV (tCall (sp_is_number K) [] E0 (tCons (tC (.int 1)) (tCons (tVar 0) tNil))) (tOp (rLeU) (tVar 0) (tC (.int 6)))))
theorem ln_is_by (h : sp_is_by K vs H Q E) : vs.length = 1 := by obtain ⟨_, rfl, _⟩ := h; rfl
theorem rd_is_by (h : sp_is_by K vs H Q E) : t_is_by K (EndsOf Q) (start [""] vs) H := by
  obtain ⟨i, rfl, k⟩ := h
  refine ⟨_, rfl, 1, i, rfl, _, rfl, ?_⟩
  cases hb : decide ((1 : Int) ≤ i) with
  | false => rw [hb] at k; exact k
  | true => rw [hb] at k; exact ⟨_, rfl, .inl ⟨_, _, rfl, rfl, k⟩⟩
/-! ### trees -/
def Tr.word : Tr → Str
  | .at _ _ => "at"
  | .or _ _ => "or"
  | .and _ _ => "and"
def Tr.isAt : Tr → Bool
  | .at _ _ => true
  | _ => false
def sp_has_word (K : PySem.W.Frag) : Sp := fun vs H Q _ => ∃ (v : V) (T : Tr) (p : Addr) (ws : List Str), vs = [v, .ref p] ∧ TrAt K H v T ∧ SqT K H p (ws.map V.str) ∧ Q (.bl (inV (.str T.word) (ws.map V.str))) H
def t_has_word (K : PySem.W.Frag) : TS :=
  (tSeq (tIfS (tOr (tNot (tB (tCB (rIsi K) (tCons (tVar 0) (tCons (tC (.ty "tuple")) tNil))))) (tTest (tOp (rNeU K) (tCB (rLenU K) (tCons (tVar 0) tNil)) (tC (.int 3))))) (tRet (tC (.bl false))) tNext)
    (tRet (tAndV (tCB (rIsi K) (tCons (tOp (rIx K) (tVar 0) (tC (.int 0))) (tCons (tC (.ty "str")) tNil))) (tOp (rInU K) (tOp (rIx K) (tVar 0) (tC (.int 0))) (tVar 1)))))
theorem ln_has_word (h : sp_has_word K vs H Q E) : vs.length = 2 := by obtain ⟨_, _, _, _, rfl, _⟩ := h; rfl
theorem flat_strs (ws : List Str) : (ws.map V.str).all flatV = true := by
  induction ws with
  | nil => rfl
  | cons x r ih => exact ih
theorem sqt_ty {a : Addr} {xs : List V} (h : SqT K H a xs) : TyX K H (.ref a) (.type "tuple") := by
  rcases h with (h | ⟨o, h⟩) | ⟨o, its, n, h, c, _⟩
  · exact .base (.tup h)
  · exact .fTuple h
  · exact .kTuple h c
theorem rd_has_word (h : sp_has_word K vs H Q E) : t_has_word K (EndsOf Q) (start ["", ""] vs) H := by
  obtain ⟨v, T, p, ws, rfl, hT, hp, k⟩ := h
  obtain ⟨a, w, x, y, rfl, s, cw⟩ := hT.tuple
  have ew : w = T.word := by
    rcases cw with ⟨rfl, _, _, rfl, _⟩ | ⟨rfl, _, _, rfl, _⟩ | ⟨rfl, _, _, rfl, _⟩ <;> rfl
  subst ew
  refine ⟨_, rfl, _, _, _, _, true, rfl, .ty _, sqt_ty s, kit_tt, true, rfl, ?_⟩
  refine ⟨_, rfl, .inl ⟨_, 3, rfl, .inr ⟨_, s, rfl⟩, .inl ⟨rfl, _, rfl, ?_⟩⟩⟩
  refine ⟨_, rfl, .inr (.inl ⟨a, _, 0, _, rfl, rfl, s, rfl, ?_⟩)⟩
  refine ⟨_, _, _, _, true, rfl, .ty _, .base (.str _), kit_ss, true, rfl, ?_⟩
  refine ⟨_, rfl, .inr (.inl ⟨a, _, 0, _, rfl, rfl, s, rfl, ?_⟩)⟩
  exact ⟨_, rfl, .inl ⟨p, _, rfl, .inr hp, rfl, flat_strs ws, k⟩⟩
def sp_is_leaf (K : PySem.W.Frag) : Sp := fun vs H Q _ => ∃ v T, vs = [v] ∧ TrAt K H v T ∧ T.ok ∧ ∀ H', Same H H' → Q (.bl T.isAt) H'
def t_is_leaf (K : PySem.W.Frag) : TS :=
  (tRet (tAndV (tCall (sp_has_word K) [] E0 (tCons (tVar 0) (tCons (tTup (tCons (tC (.str "at")) tNil)) tNil))) (tAndV (tCall (sp_is_number K) [] E0 (tCons (tC (.int 1)) (tCons (tOp (rIx K) (tVar 0) (tC (.int 1))) tNil))) (tCall (sp_is_by K) [] E0 (tCons (tOp (rIx K) (tVar 0) (tC (.int 2))) tNil)))))
theorem ln_is_leaf (h : sp_is_leaf K vs H Q E) : vs.length = 1 := by obtain ⟨_, _, rfl, _⟩ := h; rfl
theorem two_fit : (1 : Nat) ≤ sizeLine ∧ (2 : Nat) ≤ sizeLine ∧ (3 : Nat) ≤ sizeLine ∧ (4 : Nat) ≤ sizeLine := by decide
theorem rd_is_leaf (h : sp_is_leaf K vs H Q E) : t_is_leaf K (EndsOf Q) (start [""] vs) H := by
  obtain ⟨v, T, rfl, hT, ok, k⟩ := h
  refine ⟨_, rfl, two_fit.1, fun p hp => ?_⟩
  have s := same_new (o := .tup [.str "at"]) hp
  have hT' := hT.mono (Tups.same s)
  refine ⟨v, T, p, ["at"], rfl, hT', SqT.of upd_same, _, rfl, ?_⟩
  obtain ⟨a, w, x, y, rfl, sq, cw⟩ := hT'.tuple
  rcases cw with ⟨rfl, t, q, rfl, rfl, rfl⟩ | ⟨rfl, A, B, rfl, _⟩ | ⟨rfl, A, B, rfl, _⟩
  · obtain ⟨o1, o2, o3, o4⟩ := ok
    refine iteT' (show inV (V.str "at") [V.str "at"] = true by decide +kernel) ?_
    refine ⟨_, rfl, .inr (.inl ⟨a, _, 1, _, rfl, rfl, sq, rfl, 1, t, rfl, _, rfl, ?_⟩)⟩
    rw [decide_eq_true o1]
    refine iteT' rfl ?_
    refine ⟨_, rfl, .inr (.inl ⟨a, _, 2, _, rfl, rfl, sq, rfl, q, rfl, ?_⟩)⟩
    rw [decide_eq_true o3, decide_eq_true o4]
    exact k _ s
  · refine iteF' (show inV (V.str "or") [V.str "at"] = false by decide +kernel) ?_
    exact k _ s
  · refine iteF' (show inV (V.str "and") [V.str "at"] = false by decide +kernel) ?_
    exact k _ s
/-! the stack of is_tree: values and trees -/
abbrev Ps := List (V × Tr)
def Ps.lvs (zs : Ps) : Nat := (zs.map fun z => z.2.lv).sum
def Ps.nds (zs : Ps) : Nat := (zs.map fun z => z.2.nd).sum
def Ps.At (K : PySem.W.Frag) (H : Hp) (zs : Ps) : Prop := ∀ z ∈ zs, TrAt K H z.1 z.2 ∧ z.2.ok
theorem Ps.At.mono {zs : Ps} (h : Ps.At K H zs) (s : Tups K H H') : Ps.At K H' zs := fun z hz => ⟨(h z hz).1.mono s, (h z hz).2⟩
theorem Ps.lvs_app (a b : Ps) : Ps.lvs (a ++ b) = Ps.lvs a + Ps.lvs b := by unfold Ps.lvs; rw [List.map_append, List.sum_append]
theorem Ps.nds_app (a b : Ps) : Ps.nds (a ++ b) = Ps.nds a + Ps.nds b := by unfold Ps.nds; rw [List.map_append, List.sum_append]
theorem Ps.len_le : ∀ zs : Ps, zs.length ≤ Ps.lvs zs
  | [] => Nat.le_refl _
  | z :: r => by
    have h1 := Ps.len_le r
    have h2 := z.2.lv_pos
    show r.length + 1 ≤ (z.2.lv :: (r.map fun z => z.2.lv)).sum
    rw [List.sum_cons]
    unfold Ps.lvs at h1
    omega
theorem nil_or_last {α : Type} (l : List α) : l = [] ∨ ∃ r x, l = r ++ [x] := by
  cases h : l.reverse with
  | nil => left; exact List.reverse_eq_nil_iff.mp h
  | cons x r => right; exact ⟨r.reverse, x, by rw [← List.reverse_cons, ← h, List.reverse_reverse]⟩
def sp_is_tree (K : PySem.W.Frag) : Sp := fun vs H Q _ => ∃ v T, vs = [v] ∧ TrAt K H v T ∧ T.ok ∧ T.lv ≤ 6 ∧ ∀ H', Same H H' → Q (.bl true) H'
def t_is_tree (K : PySem.W.Frag) : TS :=
  (tSeq (tAsg (tLst (tCons (tVar 0) tNil)) (gName 1))
    (tSeq (tAsg (tC (.int 0)) (gName 2))
    (tSeq (tWhile (tTest (tOp (rGtI) (tCB (rLenU K) (tCons (tVar 1) tNil)) (tC (.int 0)))) (tSeq (tAsg (tBM0 K "list" rPop (tVar 1)) (gName 3))
    (Evl.tCut (tIfS (tB (tCall (sp_is_leaf K) [] E0 (tCons (tVar 3) tNil))) (tAsg (tOp (rAddU K) (tVar 2) (tC (.int 1))) (gName 2)) (tIfS (tB (tCall (sp_has_word K) [] E0 (tCons (tVar 3) (tCons (tTup (tCons (tC (.str "or")) (tCons (tC (.str "and")) tNil))) tNil)))) (tSeq (tDrop (tBM K "list" rAppend (tVar 1) (tCons (tOp (rIx K) (tVar 3) (tC (.int 1))) tNil)))
    (tDrop (tBM K "list" rAppend (tVar 1) (tCons (tOp (rIx K) (tVar 3) (tC (.int 2))) tNil)))) (tRet (tC (.bl false)))))
    (tIfS (tTest (tOp (rGtI) (tOp (rAddU K) (tVar 2) (tCB (rLenU K) (tCons (tVar 1) tNil))) (tC (.int 6)))) (tRet (tC (.bl false))) tNext))))
    (tRet (tC (.bl true))))))
theorem ln_is_tree (h : sp_is_tree K vs H Q E) : vs.length = 1 := by obtain ⟨_, _, rfl, _⟩ := h; rfl
theorem rd_is_tree (h : sp_is_tree K vs H Q E) : t_is_tree K (EndsOf Q) (start ["", "", "", ""] vs) H := by
  obtain ⟨v, T, rfl, hT, ok, l6, k⟩ := h
  refine ⟨_, rfl, two_fit.1, fun w hw => ?_⟩
  have s0 := same_new (o := .lst [v]) hw
  refine ⟨fun m σ' H' => ∃ (zs : Ps) (lf : Nat) (pt : Option V), σ' = [some v, some (.ref w), some (.int lf), pt] ∧ H' w = some (.lst (zs.map (·.1))) ∧ Ps.At K H' zs ∧ lf + zs.lvs = T.lv ∧ Same H H' ∧ m = zs.nds,
    ⟨_, [(v, T)], 0, none, rfl, upd_same, fun z hz => ?_, ?_, s0, rfl⟩, ?_⟩
  · rw [List.mem_singleton.mp hz]
    exact ⟨hT.mono (Tups.same s0), ok⟩
  · show 0 + (T.lv + 0) = T.lv
    omega
  rintro m σ' H' ⟨zs, lf, pt, rfl, hwl, hz, hl, s, rfl⟩
  refine ⟨_, rfl, .inl ⟨_, _, rfl, .inl ⟨_, SqL.of hwl, rfl⟩, _, _, rfl, rfl, _, rfl, ?_⟩⟩
  rw [List.length_map]
  rcases nil_or_last zs with rfl | ⟨rs, ⟨u, S⟩, rfl⟩
  · refine iteF' (by decide) ?_
    exact k H' s
  refine iteT' (decide_eq_true (by rw [List.length_append, List.length_singleton]; omega)) ?_
  obtain ⟨hu, hok⟩ := hz (u, S) (List.mem_append_right _ (List.mem_singleton.mpr rfl))
  have hu : TrAt K H' u S := hu
  have hok : S.ok := hok
  have e1 : (rs ++ [(u, S)]).map (·.1) = rs.map (·.1) ++ [u] := by rw [List.map_append]; rfl
  rw [e1] at hwl
  refine ⟨fun σ2 H2 => ∃ (zs : Ps) (lf : Nat) (pt : Option V), σ2 = [some v, some (.ref w), some (.int lf), pt] ∧ H2 w = some (.lst (zs.map (·.1))) ∧ Ps.At K H2 zs ∧ lf + zs.lvs = T.lv ∧ Same H H2 ∧ zs.nds < Ps.nds (rs ++ [(u, S)]), fun σ2 H2 ⟨zs, lf, pt, a1, a2, a3, a4, a5, a6⟩ => ⟨_, a6, zs, lf, pt, a1, a2, a3, a4, a5, rfl⟩, ?_⟩
  -- part = waiting.pop()
  refine ⟨_, rfl, .inl ⟨rfl, _, SqL.of hwl⟩, w, _, u, rfl, rfl, hwl, ?_, ?_⟩
  · rw [List.length_append, List.length_singleton, Nat.add_sub_cancel, List.getElem?_append_right (Nat.le_refl _), Nat.sub_self]
    rfl
  rw [List.dropLast_concat]
  have tp : Tups K H' (upd H' w (.lst (rs.map (·.1)))) := Tups.put hwl (fun _ z => nomatch z) fun _ _ z => nomatch z
  have s1 : Same H (upd H' w (.lst (rs.map (·.1)))) := fun b o e => by rw [upd_ne (ne_of_none e hw)]; exact s b o e
  have hrs : Ps.At K (upd H' w (.lst (rs.map (·.1)))) rs := fun z q => ⟨(hz z (List.mem_append_left _ q)).1.mono tp, (hz z (List.mem_append_left _ q)).2⟩
  have hu1 := hu.mono tp
  have hw1 : (upd H' w (.lst (rs.map (·.1)))) w = some (.lst (rs.map (·.1))) := upd_same
  rw [Ps.lvs_app] at hl
  have hS : Ps.lvs [(u, S)] = S.lv := by show S.lv + 0 = S.lv; omega
  have hN : Ps.nds [(u, S)] = S.nd := by show S.nd + 0 = S.nd; omega
  rw [hS] at hl
  rw [Ps.nds_app, hN]
  generalize upd H' w (.lst (rs.map (·.1))) = G at s1 hrs hu1 hw1 ⊢
  -- is it a leaf, is it two trees
  refine ⟨fun σ2 H2 => ∃ (zs : Ps) (lf : Nat), σ2 = [some v, some (.ref w), some (.int lf), some u] ∧ H2 w = some (.lst (zs.map (·.1))) ∧ Ps.At K H2 zs ∧ lf + zs.lvs = T.lv ∧ Same H H2 ∧ Ps.nds zs < Ps.nds rs + S.nd, ?_, ?_⟩
  · refine ⟨_, rfl, u, S, rfl, hu1, hok, fun G1 g1 => ⟨_, rfl, ?_⟩⟩
    have hu2 := hu1.mono (Tups.same g1)
    obtain ⟨a, wd, x, y, rfl, sq, cw⟩ := hu2.tuple
    rcases cw with ⟨rfl, t, q, rfl, rfl, rfl⟩ | cw
    · refine iteT' rfl ?_
      refine ⟨_, rfl, .inl ⟨_, _, rfl, rfl, ?_⟩⟩
      exact ⟨rs, lf + 1, rfl, g1 _ _ hw1, hrs.mono (Tups.same g1), by have h1 : (Tr.at t q).lv = 1 := rfl; omega, s1.trans g1, by have h1 : (Tr.at t q).nd = 1 := rfl; omega⟩
    obtain ⟨A, B, hAB, hA, hB, oA, oB, eL, eN, hin⟩ : ∃ A B, S.isAt = false ∧ TrAt K G1 x A ∧ TrAt K G1 y B ∧ A.ok ∧ B.ok ∧ S.lv = A.lv + B.lv ∧ S.nd = A.nd + B.nd + 1 ∧ inV (.str S.word) (([("or" : Str), ("and" : Str)] : List Str).map V.str) = true := by
      rcases cw with ⟨rfl, A, B, rfl, hA, hB⟩ | ⟨rfl, A, B, rfl, hA, hB⟩
      · exact ⟨A, B, rfl, hA, hB, hok.1, hok.2, rfl, rfl, show inV (V.str "or") [V.str "or", V.str "and"] = true by decide +kernel⟩
      · exact ⟨A, B, rfl, hA, hB, hok.1, hok.2, rfl, rfl, show inV (V.str "and") [V.str "or", V.str "and"] = true by decide +kernel⟩
    refine iteF' hAB ?_
    refine ⟨_, rfl, two_fit.2.1, fun p hp => ?_⟩
    have g2 := same_new (o := .tup [.str "or", .str "and"]) hp
    refine ⟨_, S, p, ["or", "and"], rfl, hu2.mono (Tups.same g2), SqT.of upd_same, _, rfl, ?_⟩
    refine iteT' hin ?_
    have hw2 := g2 _ _ (g1 _ _ hw1)
    have sq2 := (Tups.same (K := K) g2) _ _ sq
    have hr2 := (hrs.mono (Tups.same g1)).mono (Tups.same g2)
    have hA2 := hA.mono (Tups.same g2)
    have hB2 := hB.mono (Tups.same g2)
    have s2 := s1.trans (g1.trans g2)
    generalize upd G1 p (.tup [.str "or", .str "and"]) = G2 at hw2 sq2 hr2 hA2 hB2 s2 ⊢
    have nw : H w = none := hw
    have lr : (rs.map (·.1)).length ≤ 6 := by
      rw [List.length_map]
      have z := Ps.len_le rs
      omega
    refine ⟨_, rfl, .inl ⟨rfl, _, SqL.of hw2⟩, _, rfl, .inr (.inl ⟨a, _, 1, _, rfl, rfl, sq2, rfl, ?_⟩)⟩
    refine ⟨w, _, x, rfl, rfl, hw2, small1000 (by omega), ?_⟩
    have t3 : Tups K G2 (upd G2 w (.lst (rs.map (·.1) ++ [x]))) := Tups.put hw2 (fun _ z => nomatch z) fun _ _ z => nomatch z
    refine ⟨_, rfl, .inl ⟨rfl, _, SqL.of upd_same⟩, _, rfl, .inr (.inl ⟨a, _, 2, _, rfl, rfl, t3 _ _ sq2, rfl, ?_⟩)⟩
    refine ⟨w, _, y, rfl, rfl, upd_same, small1000 (by rw [List.length_append, List.length_singleton]; omega), ?_⟩
    rw [upd_upd]
    have t4 : Tups K G2 (upd G2 w (.lst (rs.map (·.1) ++ [x] ++ [y]))) := Tups.put hw2 (fun _ z => nomatch z) fun _ _ z => nomatch z
    refine ⟨rs ++ [(x, A), (y, B)], lf, rfl, ?_, fun z q => ?_, ?_, fun b o e => ?_, ?_⟩
    · rw [upd_same, List.map_append, List.append_assoc]
      rfl
    · rcases List.mem_append.mp q with q | q
      · exact ⟨(hr2 z q).1.mono t4, (hr2 z q).2⟩
      · rcases List.mem_cons.mp q with rfl | q
        · exact ⟨hA2.mono t4, oA⟩
        · rw [List.mem_singleton.mp q]
          exact ⟨hB2.mono t4, oB⟩
    · rw [Ps.lvs_app]
      have h1 : Ps.lvs [(x, A), (y, B)] = A.lv + B.lv := by show A.lv + (B.lv + 0) = _; omega
      omega
    · rw [upd_ne (ne_of_none e hw)]
      exact s2 b o e
    · rw [Ps.nds_app]
      have h1 : Ps.nds [(x, A), (y, B)] = A.nd + B.nd := by show A.nd + (B.nd + 0) = _; omega
      omega
  rintro σ2 H2 ⟨zs2, lf2, rfl, b2, b3, b4, b5, b6⟩
  -- not too many
  refine ⟨_, rfl, _, rfl, .inl ⟨_, _, rfl, .inl ⟨_, SqL.of b2, rfl⟩, .inl ⟨_, _, rfl, rfl, _, _, rfl, rfl, _, rfl, ?_⟩⟩⟩
  have z := Ps.len_le zs2
  refine iteF' (decide_eq_false (by rw [List.length_map]; omega)) ?_
  exact ⟨zs2, lf2, _, rfl, b2, b3, b4, b5, b6⟩
end
end Pk
set_option Elab.async false
set_option linter.all false
set_option maxRecDepth 100000
set_option maxHeartbeats 2000000
namespace Pk
open PySem PySem.Spec L2 PyProof.Rows
section
variable {K : PySem.W.Frag} {C : Cs} {vs : List V} {H H' : Hp} {Q : VK} {E : XK} {n : Nat}
theorem g3 {i j l : Nat} {a : Addr} {σ : L2.St} {R : L2.St → Hp → Prop} {x y z : V} (s : SqT K H a [x, y, z]) (h : R (((σ.set i (some x)).set j (some y)).set l (some z)) H) :
    gTup K 3 (gCons (gName i) (gCons (gName j) (gCons (gName l) gNil))) (.ref a) σ H R := ⟨a, _, rfl, s, rfl, _, _, rfl, _, _, rfl, _, _, rfl, rfl, h⟩
theorem ifS {x y : Str} {A B : Prop} (h1 : x = y → A) (h2 : x ≠ y → B) : if decide (V.str x = V.str y) = true then A else B := by
  by_cases h : x = y
  · rw [if_pos (decide_eq_true (congrArg V.str h))]
    exact h1 h
  · rw [if_neg]
    · exact h2 h
    · intro z
      exact h (V.str.inj (of_decide_eq_true z))
theorem or_at : ("or" : Str) ≠ "at" := by decide +kernel
theorem and_at : ("and" : Str) ≠ "at" := by decide +kernel
theorem and_or : ("and" : Str) ≠ "or" := by decide +kernel
def sp_given (K : PySem.W.Frag) (n : Nat) : Sp := fun vs H Q _ => ∃ v T i, vs = [v, .int i] ∧ TrAt K H v T ∧ T.ok ∧ T.dp ≤ n ∧ Q (.int (T.give i)) H
def t_given (K : PySem.W.Frag) (n : Nat) : TS :=
  (tSeq (tAsg (tVar 0) (gTup K 3 (gCons (gName 2) (gCons (gName 3) (gCons (gName 4) gNil)))))
    (tSeq (tIfS (tTest (tOp (rEqU K) (tVar 2) (tC (.str "at")))) (tRet (tIf (tTest (tOp (rGeI) (tVar 1) (tVar 3))) (tOp (rSubI) (tVar 1) (tOp (rModI) (tVar 1) (tVar 4))) (tC (.int 0)))) tNext)
    (tSeq (tIfS (tTest (tOp (rEqU K) (tVar 2) (tC (.str "or")))) (tRet (tCB (rMax2) (tCons (tCall (sp_given K n) [] E0 (tCons (tVar 3) (tCons (tVar 1) tNil))) (tCons (tCall (sp_given K n) [] E0 (tCons (tVar 4) (tCons (tVar 1) tNil))) tNil)))) tNext)
    (tRet (tCB (rMin2) (tCons (tCall (sp_given K n) [] E0 (tCons (tVar 3) (tCons (tVar 1) tNil))) (tCons (tCall (sp_given K n) [] E0 (tCons (tVar 4) (tCons (tVar 1) tNil))) tNil)))))))
theorem no_given (h : sp_given K 0 vs H Q E) : False := by
  obtain ⟨_, T, _, _, _, _, h, _⟩ := h
  have := T.dp_pos
  omega
theorem ln_given (h : sp_given K n vs H Q E) : vs.length = 2 := by obtain ⟨_, _, _, rfl, _⟩ := h; rfl
theorem rd_given (h : sp_given K (n + 1) vs H Q E) : t_given K n (EndsOf Q) (start ["", "", "", "", ""] vs) H := by
  obtain ⟨v, T, i, rfl, hT, ok, hd, k⟩ := h
  obtain ⟨a, w, x, y, rfl, s, cw⟩ := hT.tuple
  refine ⟨_, rfl, g3 s ?_⟩
  refine ⟨_, rfl, .inl ⟨rfl, _, rfl, ?_⟩⟩
  rcases cw with ⟨rfl, t, q, rfl, rfl, rfl⟩ | ⟨rfl, A, B, rfl, hA, hB⟩ | ⟨rfl, A, B, rfl, hA, hB⟩
  · refine ifS (fun _ => ?_) (fun z => absurd rfl z)
    obtain ⟨o1, o2, o3, o4⟩ := ok
    have e : (Tr.at t q).give i = if t ≤ i then i - i % q else 0 := rfl
    rw [e] at k
    refine ⟨_, rfl, _, rfl, _, _, rfl, rfl, _, rfl, ?_⟩
    refine ifD (fun c => ?_) (fun c => ?_)
    · rw [if_pos c] at k
      exact ⟨_, rfl, _, rfl, _, rfl, _, _, rfl, rfl, (by show (0 : Int) < q; omega), _, _, rfl, rfl, k⟩
    · rw [if_neg c] at k
      exact k
  · refine ifS (fun z => absurd z or_at) (fun _ => ?_)
    refine ⟨_, rfl, .inl ⟨rfl, _, rfl, ?_⟩⟩
    refine ifS (fun _ => ?_) (fun z => absurd rfl z)
    have hd' : max A.dp B.dp + 1 ≤ n + 1 := hd
    exact ⟨_, rfl, _, rfl, x, A, i, rfl, hA, ok.1, by omega, _, rfl, _, rfl, y, B, i, rfl, hB, ok.2, by omega, _, _, rfl, k⟩
  · refine ifS (fun z => absurd z and_at) (fun _ => ?_)
    refine ⟨_, rfl, .inl ⟨rfl, _, rfl, ?_⟩⟩
    refine ifS (fun z => absurd z and_or) (fun _ => ?_)
    have hd' : max A.dp B.dp + 1 ≤ n + 1 := hd
    exact ⟨_, rfl, _, rfl, x, A, i, rfl, hA, ok.1, by omega, _, rfl, _, rfl, y, B, i, rfl, hB, ok.2, by omega, _, _, rfl, k⟩
/-- the leaves of a tree: from where on, multiples of what -/
def Tr.lvs : Tr → List (Int × Int)
  | .at t q => [(t, q)]
  | .or a b => a.lvs ++ b.lvs
  | .and a b => a.lvs ++ b.lvs
theorem Tr.lvs_len : ∀ T : Tr, T.lvs.length = T.lv
  | .at _ _ => rfl
  | .or a b => by show (a.lvs ++ b.lvs).length = _; rw [List.length_append, a.lvs_len, b.lvs_len]; rfl
  | .and a b => by show (a.lvs ++ b.lvs).length = _; rw [List.length_append, a.lvs_len, b.lvs_len]; rfl
theorem Tr.lvs_starts : ∀ T : Tr, T.lvs.map Prod.fst = T.starts
  | .at _ _ => rfl
  | .or a b => by show (a.lvs ++ b.lvs).map _ = _; rw [List.map_append, a.lvs_starts, b.lvs_starts]; rfl
  | .and a b => by show (a.lvs ++ b.lvs).map _ = _; rw [List.map_append, a.lvs_starts, b.lvs_starts]; rfl
def LeafAt (K : PySem.W.Frag) (H : Hp) (v : V) (l : Int × Int) : Prop := ∃ a, v = .ref a ∧ SqT K H a [.str "at", .int l.1, .int l.2]
def LvsAt (K : PySem.W.Frag) (H : Hp) (xs : List V) (ls : List (Int × Int)) : Prop := xs.length = ls.length ∧ ∀ (i : Nat) x l, xs[i]? = some x → ls[i]? = some l → LeafAt K H x l
theorem LvsAt.mono {xs : List V} {ls : List (Int × Int)} (h : LvsAt K H xs ls) (s : Tups K H H') : LvsAt K H' xs ls := ⟨h.1, fun i x l e1 e2 => by
  obtain ⟨a, e, q⟩ := h.2 i x l e1 e2
  exact ⟨a, e, s _ _ q⟩⟩
theorem LvsAt.app {xs ys : List V} {ls ms : List (Int × Int)} (h : LvsAt K H xs ls) (h2 : LvsAt K H ys ms) : LvsAt K H (xs ++ ys) (ls ++ ms) := by
  refine ⟨by rw [List.length_append, List.length_append, h.1, h2.1], fun i x l e1 e2 => ?_⟩
  by_cases c : i < xs.length
  · rw [List.getElem?_append_left c] at e1
    rw [List.getElem?_append_left (by rw [← h.1]; exact c)] at e2
    exact h.2 i x l e1 e2
  · rw [List.getElem?_append_right (by omega)] at e1
    rw [List.getElem?_append_right (by rw [← h.1]; omega), ← h.1] at e2
    exact h2.2 _ x l e1 e2
def sp_leaves_of (K : PySem.W.Frag) (n : Nat) : Sp := fun vs H Q _ => ∃ v T, vs = [v] ∧ TrAt K H v T ∧ T.dp ≤ n ∧ T.lv ≤ 6 ∧ ∀ p H' xs, H p = none → Same H H' → H' p = some (.lst xs) → LvsAt K H' xs T.lvs → Q (.ref p) H'
def t_leaves_of (K : PySem.W.Frag) (n : Nat) : TS :=
  (tSeq (tAsg (tVar 0) (gTup K 3 (gCons (gName 1) (gCons (gName 2) (gCons (gName 3) gNil)))))
    (tSeq (tIfS (tTest (tOp (rEqU K) (tVar 1) (tC (.str "at")))) (tRet (tLst (tCons (tVar 0) tNil))) tNext)
    (tRet (tOp (rAddU K) (tCall (sp_leaves_of K n) [] E0 (tCons (tVar 2) tNil)) (tCall (sp_leaves_of K n) [] E0 (tCons (tVar 3) tNil))))))
theorem no_leaves_of (h : sp_leaves_of K 0 vs H Q E) : False := by
  obtain ⟨_, T, _, _, h, _⟩ := h
  have := T.dp_pos
  omega
theorem ln_leaves_of (h : sp_leaves_of K n vs H Q E) : vs.length = 1 := by obtain ⟨_, _, rfl, _⟩ := h; rfl
theorem rd_leaves_of (h : sp_leaves_of K (n + 1) vs H Q E) : t_leaves_of K n (EndsOf Q) (start ["", "", "", ""] vs) H := by
  obtain ⟨v, T, rfl, hT, hd, hl, k⟩ := h
  obtain ⟨a, w, x, y, rfl, s, cw⟩ := hT.tuple
  refine ⟨_, rfl, g3 s ?_⟩
  refine ⟨_, rfl, .inl ⟨rfl, _, rfl, ?_⟩⟩
  have two : ∀ {A B : Tr}, T.lvs = A.lvs ++ B.lvs → T.lv = A.lv + B.lv → max A.dp B.dp + 1 ≤ n + 1 → TrAt K H x A → TrAt K H y B →
      tRet (tOp (rAddU K) (tCall (sp_leaves_of K n) [] E0 (tCons (tVar 2) tNil)) (tCall (sp_leaves_of K n) [] E0 (tCons (tVar 3) tNil))) (EndsOf Q) [some (.ref a), some (.str w), some x, some y] H := by
    intro A B e1 e2 hd' hA hB
    refine ⟨_, rfl, x, A, rfl, hA, by omega, by omega, fun p H1 xs hp s1 h1 l1 => ?_⟩
    refine ⟨_, rfl, y, B, rfl, hB.mono (Tups.same s1), by omega, by omega, fun p2 H2 ys hp2 s2 h2 l2 => ?_⟩
    refine .inr (.inr (.inl ⟨p, p2, _, _, rfl, rfl, s2 _ _ h1, h2, ?_, fun r hr => ?_⟩))
    · rw [l1.1, l2.1, A.lvs_len, B.lvs_len]
      exact Nat.le_of_lt (small1000 (by omega))
    · refine k r _ _ ((s1.trans s2).free hr) ((s1.trans s2).trans (same_new hr)) upd_same ?_
      rw [e1]
      exact ((l1.mono (Tups.same s2)).app l2).mono (Tups.same (same_new hr))
  rcases cw with ⟨rfl, t, q, rfl, rfl, rfl⟩ | ⟨rfl, A, B, rfl, hA, hB⟩ | ⟨rfl, A, B, rfl, hA, hB⟩
  · refine ifS (fun _ => ?_) (fun z => absurd rfl z)
    refine ⟨_, rfl, two_fit.1, fun p hp => k p _ _ hp (same_new hp) upd_same ⟨rfl, fun i x l e1 e2 => ?_⟩⟩
    match i, e1, e2 with
    | 0, e1, e2 =>
      cases e1
      cases e2
      exact ⟨a, rfl, Tups.same (same_new hp) _ _ s⟩
    | i + 1, e1, _ => exact nomatch e1
  · refine ifS (fun z => absurd z or_at) (fun _ => ?_)
    exact two rfl rfl hd hA hB
  · refine ifS (fun z => absurd z and_at) (fun _ => ?_)
    exact two rfl rfl hd hA hB
def sp_starts_of (K : PySem.W.Frag) : Sp := fun vs H Q _ => ∃ v T, vs = [v] ∧ TrAt K H v T ∧ T.dp ≤ 7 ∧ T.lv ≤ 6 ∧ ∀ p H', H p = none → Same H H' → H' p = some (.lst (T.starts.map V.int)) → Q (.ref p) H'
def t_starts_of (K : PySem.W.Frag) : TS :=
  (tRet (tLc (iList K (tCall (sp_leaves_of K 7) [] E0 (tCons (tVar 0) tNil))) (gTup K 3 (gCons (gName 1) (gCons (gName 2) (gCons (gName 1) gNil)))) tYes (tVar 2) [1, 2]))
theorem ln_starts_of (h : sp_starts_of K vs H Q E) : vs.length = 1 := by obtain ⟨_, _, rfl, _⟩ := h; rfl
theorem rd_starts_of (h : sp_starts_of K vs H Q E) : t_starts_of K (EndsOf Q) (start ["", "", ""] vs) H := by
  obtain ⟨v, T, rfl, hT, hd, hl, k⟩ := h
  refine ⟨_, rfl, v, T, rfl, hT, hd, hl, fun p G xs hp s1 h1 l1 => ?_⟩
  refine ⟨p, rfl, ⟨_, SqL.of h1⟩, fun D hD => ?_⟩
  refine lc_list (K := K) (a := p) (xs := xs) (fun i F => Same G F ∧ F D = some (.lst ((T.starts.take i).map V.int))) ⟨same_new hD, upd_same⟩ (fun i F _ s => s.1.seq (SqL.of h1)) ?_ ?_
  · rintro i x F hx ⟨s, hz⟩
    obtain ⟨lt, ex⟩ := List.getElem?_eq_some_iff.mp hx
    have lt2 : i < T.lvs.length := by rw [← l1.1]; exact lt
    obtain ⟨a, rfl, sa⟩ := l1.2 i x T.lvs[i] hx (List.getElem?_eq_getElem lt2)
    have lt3 : i < T.starts.length := by rw [T.starts_len, ← T.lvs_len]; exact lt2
    refine g3 (Tups.same s _ _ sa) ⟨rfl, ?_⟩
    refine ⟨_, rfl, _, hz, small1000 ?_, fun c o q => ?_, ?_⟩
    · rw [List.length_map, List.length_take]
      have := T.starts_len
      omega
    · rw [upd_ne (ne_of_none q hD)]
      exact s c o q
    · rw [upd_same, List.take_succ_eq_append_getElem lt3, List.map_append]
      have e : T.starts[i] = (T.lvs[i]).1 := by
        have z : (T.lvs.map Prod.fst)[i]? = T.starts[i]? := by rw [T.lvs_starts]
        rw [List.getElem?_map, List.getElem?_eq_getElem lt2, List.getElem?_eq_getElem lt3] at z
        exact (Option.some.inj z).symm
      rw [e]
      rfl
  · rintro F ⟨s, hz⟩
    rw [l1.1, T.lvs_len, ← T.starts_len, List.take_length] at hz
    exact k D F (s1.free hD) (s1.trans s) hz
/-! ### Rules -/
structure FxRule (K : PySem.W.Frag) (C : Cs) : Prop where
  cl : Cls K C.Rule
  no : NoAttr K C.Rule "_tree"
  ic : C8.InsC K C.Rule
theorem lk_tree {f : Str} {u : V} (h : (f == ("_tree" : Str)) = false) : List.lookup f [(("_tree" : Str), u)] = none := by simp [List.lookup, h]
def RuleAt (K : PySem.W.Frag) (C : Cs) (H : Hp) (v : V) (T : Tr) : Prop := ∃ a dx u, v = .ref a ∧ H a = some (.ins C.Rule dx [("_tree", u)]) ∧ TrAt K H u T ∧ T.ok ∧ T.lv ≤ 6 ∧ FxRule K C
theorem RuleAt.mono {v : V} {T : Tr} (h : RuleAt K C H v T) (s : Tups K H H') (k : ∀ a dx fs, H a = some (.ins C.Rule dx fs) → H' a = some (.ins C.Rule dx fs)) : RuleAt K C H' v T := by
  obtain ⟨a, dx, u, e, h1, h2, r⟩ := h
  exact ⟨a, dx, u, e, k _ _ _ h1, h2.mono s, r⟩
theorem RuleAt.same {v : V} {T : Tr} (h : RuleAt K C H v T) (s : Same H H') : RuleAt K C H' v T := h.mono (Tups.same s) fun _ _ _ e => s _ _ e
theorem RuleAt.kp {v : V} {T : Tr} {b : Addr} {ys : List V} (h : RuleAt K C H v T) (k : Kp b H H') (hb : H b = some (.lst ys)) : RuleAt K C H' v T := h.mono (Tups.kp k hb) fun _ _ _ e => k _ _ e (ne_of e hb fun z => nomatch z)
def sp_Rule___init__ (K : PySem.W.Frag) (C : Cs) : Sp := fun vs H Q _ => ∃ p dx u T, vs = [.ref p, u] ∧ H p = some (.ins C.Rule dx []) ∧ TrAt K H u T ∧ T.ok ∧ T.lv ≤ 6 ∧ FxRule K C ∧
  ∀ H', H' p = some (.ins C.Rule dx [("_tree", u)]) → (∀ b o, H b = some o → b ≠ p → H' b = some o) → Q .non H'
def t_Rule___init__ (K : PySem.W.Frag) : TS :=
  (tSeq (tIfS (tNot (tB (tCall (sp_is_tree K) [] E0 (tCons (tVar 1) tNil)))) tNever tNext)
    (sFld K (tVar 0) (tVar 1) "_tree"))
theorem ln_Rule___init__ (h : sp_Rule___init__ K C vs H Q E) : vs.length = 2 := by obtain ⟨_, _, _, _, rfl, _⟩ := h; rfl
theorem rd_Rule___init__ (h : sp_Rule___init__ K C vs H Q E) : t_Rule___init__ K (EndsOf Q) (start ["", ""] vs) H := by
  obtain ⟨p, dx, u, T, rfl, hp, hT, ok, l6, fx, k⟩ := h
  refine ⟨_, rfl, u, T, rfl, hT, ok, l6, fun H1 s => ⟨true, rfl, ?_⟩⟩
  refine ⟨_, rfl, _, rfl, p, _, dx, _, rfl, s _ _ hp, fx.cl, fx.no, by show 0 < 1000; decide, ?_⟩
  refine k _ upd_same fun b o e n => ?_
  rw [upd_ne n]
  exact s b o e
/-- what Rule(tree) makes -/
theorem make_rule {t : TA} {σ : L2.St} {u : V} {T : Tr} {G : Hp} (fx : FxRule K C) (ok : T.ok) (l6 : T.lv ≤ 6) (hT : TrAt K G u T) (k : ∀ x H', G x = none → Same G H' → RuleAt K C H' (.ref x) T → Q (.ref x) H') :
    ∀ x dx, G x = none → G dx = none → dx ≠ x → sp_Rule___init__ K C (.ref x :: ([u] ++ [])) (upd (upd G dx (.own x)) x (.ins C.Rule dx [])) (fun v H2 => v = .non ∧ Q (.ref x) H2) E := by
  intro x dx hx hd ne
  have s : Same G (upd (upd G dx (.own x)) x (.ins C.Rule dx [])) := fun b o e => by
    rw [upd_ne (ne_of_none e hx), upd_ne (ne_of_none e hd)]
    exact e
  refine ⟨x, dx, u, T, rfl, upd_same, hT.mono (Tups.same s), ok, l6, fx, fun H' h1 h2 => ⟨rfl, ?_⟩⟩
  have s2 : Same G H' := fun b o e => h2 b o (s b o e) (ne_of_none e hx)
  exact k x H' hx s2 ⟨x, dx, u, rfl, h1, hT.mono (Tups.same s2), ok, l6, fx⟩
theorem Tr.dp6 {T : Tr} (h : T.lv ≤ 6) : T.dp ≤ 7 := by have := T.dp_le; omega
def sp_Rule___call__ (K : PySem.W.Frag) (C : Cs) : Sp := fun vs H Q _ => ∃ v T i, vs = [v, .int i] ∧ RuleAt K C H v T ∧ Q (.int (T.give i)) H
def t_Rule___call__ (K : PySem.W.Frag) : TS :=
  (tRet (tCall (sp_given K 7) [] E0 (tCons (tFld K (tVar 0) "_tree") (tCons (tVar 1) tNil))))
theorem ln_Rule___call__ (h : sp_Rule___call__ K C vs H Q E) : vs.length = 2 := by obtain ⟨_, _, _, rfl, _⟩ := h; rfl
theorem rd_Rule___call__ (h : sp_Rule___call__ K C vs H Q E) : t_Rule___call__ K (EndsOf Q) (start ["", ""] vs) H := by
  obtain ⟨v, T, i, rfl, ⟨a, dx, u, rfl, ha, hT, ok, l6, fx⟩, k⟩ := h
  exact ⟨_, rfl, a, _, dx, _, u, rfl, ha, fx.cl, fx.no, rfl, _, rfl, u, T, i, rfl, hT, ok, Tr.dp6 l6, k⟩
def sp_Rule_rest (K : PySem.W.Frag) (C : Cs) : Sp := fun vs H Q _ => ∃ v T i, vs = [v, .int i] ∧ RuleAt K C H v T ∧ Q (.int (i - T.give i)) H
def t_Rule_rest (K : PySem.W.Frag) : TS :=
  (tRet (tOp (rSubI) (tVar 1) (tCall (sp_given K 7) [] E0 (tCons (tFld K (tVar 0) "_tree") (tCons (tVar 1) tNil)))))
theorem ln_Rule_rest (h : sp_Rule_rest K C vs H Q E) : vs.length = 2 := by obtain ⟨_, _, _, rfl, _⟩ := h; rfl
theorem rd_Rule_rest (h : sp_Rule_rest K C vs H Q E) : t_Rule_rest K (EndsOf Q) (start ["", ""] vs) H := by
  obtain ⟨v, T, i, rfl, ⟨a, dx, u, rfl, ha, hT, ok, l6, fx⟩, k⟩ := h
  exact ⟨_, rfl, _, rfl, a, _, dx, _, u, rfl, ha, fx.cl, fx.no, rfl, _, rfl, u, T, i, rfl, hT, ok, Tr.dp6 l6, _, _, rfl, rfl, k⟩
def sp_Rule_tree (K : PySem.W.Frag) (C : Cs) : Sp := fun vs H Q _ => ∃ v T, vs = [v] ∧ RuleAt K C H v T ∧ ∀ u, TrAt K H u T → Q u H
def t_Rule_tree (K : PySem.W.Frag) : TS :=
  (tRet (tFld K (tVar 0) "_tree"))
theorem ln_Rule_tree (h : sp_Rule_tree K C vs H Q E) : vs.length = 1 := by obtain ⟨_, _, rfl, _⟩ := h; rfl
theorem rd_Rule_tree (h : sp_Rule_tree K C vs H Q E) : t_Rule_tree K (EndsOf Q) (start [""] vs) H := by
  obtain ⟨v, T, rfl, ⟨a, dx, u, rfl, ha, hT, ok, l6, fx⟩, k⟩ := h
  exact ⟨_, rfl, a, _, dx, _, u, rfl, ha, fx.cl, fx.no, rfl, k u hT⟩
def Tr.join (w : Str) (A B : Tr) : Tr := if w = "or" then .or A B else .and A B
theorem Tr.join_lv (w : Str) (A B : Tr) : (Tr.join w A B).lv = A.lv + B.lv := by unfold Tr.join; split <;> rfl
theorem Tr.join_ok {w : Str} {A B : Tr} (a : A.ok) (b : B.ok) : (Tr.join w A B).ok := by unfold Tr.join; split <;> exact ⟨a, b⟩
def sp_joined (K : PySem.W.Frag) (C : Cs) : Sp := fun vs H Q _ => ∃ (w : Str) (u v : V) (A B : Tr), vs = [.str w, u, v] ∧ (w = "or" ∨ w = "and") ∧ TrAt K H u A ∧ TrAt K H v B ∧ A.ok ∧ B.ok ∧ A.lv + B.lv ≤ 6 ∧ FxRule K C ∧
  ∀ x H', H x = none → Same H H' → RuleAt K C H' (.ref x) (Tr.join w A B) → Q (.ref x) H'
def t_joined (K : PySem.W.Frag) (C : Cs) : TS :=
  (tSeq (tIfS (tTest (tOp (rGtI) (tOp (rAddU K) (tCB (rLenU K) (tCons (tCall (sp_starts_of K) [] E0 (tCons (tVar 1) tNil)) tNil)) (tCB (rLenU K) (tCons (tCall (sp_starts_of K) [] E0 (tCons (tVar 2) tNil)) tNil))) (tC (.int 6)))) tNever tNext)
    (tRet (tMake C.Rule (sp_Rule___init__ K C) [] E0 (tCons (tTup (tCons (tVar 0) (tCons (tVar 1) (tCons (tVar 2) tNil)))) tNil))))
theorem ln_joined (h : sp_joined K C vs H Q E) : vs.length = 3 := by obtain ⟨_, _, _, _, _, rfl, _⟩ := h; rfl
theorem rd_joined (h : sp_joined K C vs H Q E) : t_joined K C (EndsOf Q) (start ["", "", ""] vs) H := by
  obtain ⟨w, u, v, A, B, rfl, hw, hA, hB, oA, oB, l6, fx, k⟩ := h
  refine ⟨_, rfl, u, A, rfl, hA, Tr.dp6 (by omega), by omega, fun p H1 hp s1 h1 => ?_⟩
  refine .inl ⟨_, _, rfl, .inl ⟨_, SqL.of h1, rfl⟩, ?_⟩
  refine ⟨_, rfl, v, B, rfl, hB.mono (Tups.same s1), Tr.dp6 (by omega), by omega, fun p2 H2 hp2 s2 h2 => ?_⟩
  refine .inl ⟨_, _, rfl, .inl ⟨_, SqL.of h2, rfl⟩, .inl ⟨_, _, rfl, rfl, _, _, rfl, rfl, _, rfl, ?_⟩⟩
  rw [List.length_map, List.length_map, A.starts_len, B.starts_len]
  refine iteF' (decide_eq_false (by omega)) ?_
  have s := s1.trans s2
  refine ⟨_, rfl, _, rfl, _, rfl, two_fit.2.2.1, fun q hq => ?_⟩
  have s3 := same_new (o := .tup [.str w, u, v]) hq
  have hT : TrAt K (upd H2 q (.tup [.str w, u, v])) (.ref q) (Tr.join w A B) := by
    unfold Tr.join
    rcases hw with rfl | rfl
    · rw [if_pos rfl]
      exact ⟨q, u, v, rfl, SqT.of upd_same, hA.mono (Tups.same (s.trans s3)), hB.mono (Tups.same (s.trans s3))⟩
    · rw [if_neg and_or]
      exact ⟨q, u, v, rfl, SqT.of upd_same, hA.mono (Tups.same (s.trans s3)), hB.mono (Tups.same (s.trans s3))⟩
  exact make_rule (t := tNil) (σ := []) fx (Tr.join_ok oA oB) (by rw [Tr.join_lv]; exact l6) hT fun x H' hx s4 r => k x H' ((s.trans s3).free hx) ((s.trans s3).trans s4) r
def sp_Rule___or__ (K : PySem.W.Frag) (C : Cs) : Sp := fun vs H Q _ => ∃ u v A B, vs = [u, v] ∧ RuleAt K C H u A ∧ RuleAt K C H v B ∧ A.lv + B.lv ≤ 6 ∧ ∀ x H', H x = none → Same H H' → RuleAt K C H' (.ref x) (.or A B) → Q (.ref x) H'
def sp_Rule___and__ (K : PySem.W.Frag) (C : Cs) : Sp := fun vs H Q _ => ∃ u v A B, vs = [u, v] ∧ RuleAt K C H u A ∧ RuleAt K C H v B ∧ A.lv + B.lv ≤ 6 ∧ ∀ x H', H x = none → Same H H' → RuleAt K C H' (.ref x) (.and A B) → Q (.ref x) H'
def t_Rule___or__ (K : PySem.W.Frag) (C : Cs) : TS :=
  (tRet (tCall (sp_joined K C) [] E0 (tCons (tC (.str "or")) (tCons (tFld K (tVar 0) "_tree") (tCons (tFld K (tVar 1) "_tree") tNil)))))
def t_Rule___and__ (K : PySem.W.Frag) (C : Cs) : TS :=
  (tRet (tCall (sp_joined K C) [] E0 (tCons (tC (.str "and")) (tCons (tFld K (tVar 0) "_tree") (tCons (tFld K (tVar 1) "_tree") tNil)))))
theorem ln_Rule___or__ (h : sp_Rule___or__ K C vs H Q E) : vs.length = 2 := by obtain ⟨_, _, _, _, rfl, _⟩ := h; rfl
theorem ln_Rule___and__ (h : sp_Rule___and__ K C vs H Q E) : vs.length = 2 := by obtain ⟨_, _, _, _, rfl, _⟩ := h; rfl
theorem rd_Rule___or__ (h : sp_Rule___or__ K C vs H Q E) : t_Rule___or__ K C (EndsOf Q) (start ["", ""] vs) H := by
  obtain ⟨u, v, A, B, rfl, ⟨a, dx, x, rfl, ha, hA, oA, _, fx⟩, ⟨b, dy, y, rfl, hb, hB, oB, _, _⟩, l6, k⟩ := h
  refine ⟨_, rfl, a, _, dx, _, x, rfl, ha, fx.cl, fx.no, rfl, _, rfl, b, _, dy, _, y, rfl, hb, fx.cl, fx.no, rfl, ?_⟩
  exact ⟨"or", x, y, A, B, rfl, .inl rfl, hA, hB, oA, oB, l6, fx, fun r H' hr s q => k r H' hr s (by unfold Tr.join at q; rw [if_pos rfl] at q; exact q)⟩
theorem rd_Rule___and__ (h : sp_Rule___and__ K C vs H Q E) : t_Rule___and__ K C (EndsOf Q) (start ["", ""] vs) H := by
  obtain ⟨u, v, A, B, rfl, ⟨a, dx, x, rfl, ha, hA, oA, _, fx⟩, ⟨b, dy, y, rfl, hb, hB, oB, _, _⟩, l6, k⟩ := h
  refine ⟨_, rfl, a, _, dx, _, x, rfl, ha, fx.cl, fx.no, rfl, _, rfl, b, _, dy, _, y, rfl, hb, fx.cl, fx.no, rfl, ?_⟩
  exact ⟨"and", x, y, A, B, rfl, .inr rfl, hA, hB, oA, oB, l6, fx, fun r H' hr s q => k r H' hr s (by unfold Tr.join at q; rw [if_neg and_or] at q; exact q)⟩
def sp_at_least (K : PySem.W.Frag) (C : Cs) : Sp := fun vs H Q _ => ∃ t q, vs = [.int t, .int q] ∧ (Tr.at t q).ok ∧ FxRule K C ∧ ∀ x H', H x = none → Same H H' → RuleAt K C H' (.ref x) (.at t q) → Q (.ref x) H'
def t_at_least (K : PySem.W.Frag) (C : Cs) : TS :=
  (tSeq (tIfS (tNot (tB (tCall (sp_is_number K) [] E0 (tCons (tC (.int 1)) (tCons (tVar 0) tNil))))) tNever tNext)
    (tSeq (tIfS (tNot (tB (tCall (sp_is_by K) [] E0 (tCons (tVar 1) tNil)))) tNever tNext)
    (tRet (tMake C.Rule (sp_Rule___init__ K C) [] E0 (tCons (tTup (tCons (tC (.str "at")) (tCons (tVar 0) (tCons (tVar 1) tNil)))) tNil)))))
theorem ln_at_least (h : sp_at_least K C vs H Q E) : vs.length = 2 := by obtain ⟨_, _, rfl, _⟩ := h; rfl
theorem rd_at_least (h : sp_at_least K C vs H Q E) : t_at_least K C (EndsOf Q) (start ["", ""] vs) H := by
  obtain ⟨t, q, rfl, ok, fx, k⟩ := h
  obtain ⟨o1, o2, o3, o4⟩ := id ok
  refine ⟨_, rfl, 1, t, rfl, _, rfl, ?_⟩
  rw [decide_eq_true o1]
  refine ⟨_, rfl, q, rfl, _, rfl, ?_⟩
  rw [decide_eq_true o3, decide_eq_true o4]
  refine ⟨_, rfl, _, rfl, two_fit.2.2.1, fun p hp => ?_⟩
  have s := same_new (o := .tup [.str "at", .int t, .int q]) hp
  exact make_rule (t := tNil) (σ := []) fx ok (by show 1 ≤ 6; decide) ⟨p, rfl, SqT.of upd_same⟩ fun x H' hx s2 r => k x H' (s.free hx) (s.trans s2) r
end
end Pk
set_option Elab.async false
set_option linter.all false
set_option maxRecDepth 100000
set_option maxHeartbeats 2000000
namespace Pk
open PySem PySem.Spec L2 PyProof.Rows
section
variable {K : PySem.W.Frag} {C : Cs} {vs : List V} {H H' : Hp} {Q : VK} {E : XK} {n : Nat}
def sp_law_alike (K : PySem.W.Frag) : Sp := fun vs H Q _ => ∃ x y d, vs = [x, y] ∧ Dp K H x d ∧ Dp K H y d ∧ Good d ∧ Q (.bl true) H
def t_law_alike (K : PySem.W.Frag) : TS :=
  (tRet (tAndV (tOp (rEqU K) (tVar 0) (tVar 1)) (tOp (rEqU K) (tCB (rRepr K) (tCons (tVar 0) tNil)) (tCB (rRepr K) (tCons (tVar 1) tNil)))))
theorem ln_law_alike (h : sp_law_alike K vs H Q E) : vs.length = 2 := by obtain ⟨_, _, _, rfl, _⟩ := h; rfl
theorem rd_law_alike (h : sp_law_alike K vs H Q E) : t_law_alike K (EndsOf Q) (start ["", ""] vs) H := by
  obtain ⟨x, y, d, rfl, hx, hy, g, k⟩ := h
  refine ⟨_, rfl, _, rfl, .inr ⟨d, d, hx, hy, g.sh, g.sh, _, rfl, ?_⟩⟩
  rw [g.same]
  refine ⟨_, rfl, x, d, rfl, hx, g, _, rfl, y, d, rfl, hy, g, .inl ⟨rfl, ?_⟩⟩
  rw [decide_eq_true rfl]
  exact k
theorem pick2 {x y : V} {v : Int} (h0 : 0 ≤ v) (h1 : v < 2) : ∃ z, atI [x, y] v = some z ∧ ((v = 0 ∧ z = x) ∨ (v = 1 ∧ z = y)) := by
  rcases (by omega : v = 0 ∨ v = 1) with rfl | rfl
  · exact ⟨x, rfl, .inl ⟨rfl, rfl⟩⟩
  · exact ⟨y, rfl, .inr ⟨rfl, rfl⟩⟩
def sp_law_draw_size (K : PySem.W.Frag) : Sp := fun vs H Q _ => ∃ b l top sc, vs = [.ref b, .int top, .int sc] ∧ Bag H b l ∧ 1 ≤ top ∧ top ≤ 1000 ∧ 1 ≤ sc ∧ ∀ v H', 1 ≤ v → v ≤ top * sc → Bag H' b l → Kp b H H' → Q (.int v) H'
def t_law_draw_size (K : PySem.W.Frag) : TS :=
  (tRet (tOp (rMulU K) (tOp (rAddU K) (tC (.int 1)) (tCall (sp_law_take K) [] E0 (tCons (tVar 0) (tCons (tVar 1) tNil)))) (tOp (rIx K) (tLst (tCons (tC (.int 1)) (tCons (tVar 2) tNil))) (tCall (sp_law_take K) [] E0 (tCons (tVar 0) (tCons (tC (.int 2)) tNil))))))
theorem ln_law_draw_size (h : sp_law_draw_size K vs H Q E) : vs.length = 3 := by obtain ⟨_, _, _, _, rfl, _⟩ := h; rfl
theorem rd_law_draw_size (h : sp_law_draw_size K vs H Q E) : t_law_draw_size K (EndsOf Q) (start ["", "", ""] vs) H := by
  obtain ⟨b, l, top, sc, rfl, B, t1, t2, s1, k⟩ := h
  refine ⟨_, rfl, _, rfl, b, l, top, rfl, B, by omega, by omega, fun r H1 r0 r1 B1 k1 => ?_⟩
  refine .inl ⟨_, _, rfl, rfl, _, rfl, two_fit.2.1, fun p hp => ?_⟩
  have k2 := k1.laid (o := .lst [.int 1, .int sc]) hp
  refine ⟨_, rfl, b, l, 2, rfl, B1.same (same_new hp), by decide, by decide, fun j H2 j0 j1 B2 k3 => ?_⟩
  have hp2 : H2 p = some (.lst [.int 1, .int sc]) := by
    refine k3 p _ upd_same ?_
    obtain ⟨ys, hb⟩ := B1.at
    exact (ne_of_none hb hp).symm
  obtain ⟨z, hz, cz⟩ := pick2 (x := .int 1) (y := .int sc) j0 j1
  refine .inl ⟨p, _, j, z, rfl, rfl, SqL.of hp2, hz, ?_⟩
  rcases cz with ⟨_, rfl⟩ | ⟨_, rfl⟩
  · refine .inl ⟨_, _, rfl, rfl, .inl (.inl (by omega)), ?_⟩
    refine k _ _ (by omega) ?_ B2 (k2.trans k3)
    have : top * 1 ≤ top * sc := Int.mul_le_mul_of_nonneg_left s1 (by omega)
    omega
  · refine .inl ⟨_, _, rfl, rfl, .inl (.inl (by omega)), ?_⟩
    have h1 : (1 + r) * sc ≤ top * sc := Int.mul_le_mul_of_nonneg_right (by omega) (by omega)
    have h2 : 1 * 1 ≤ (1 + r) * sc := Int.mul_le_mul (by omega) s1 (by omega) (by omega)
    exact k _ _ (by omega) h1 B2 (k2.trans k3)
theorem Tr.give_or (a b : Tr) (i : Int) : (Tr.or a b).give i = if b.give i > a.give i then b.give i else a.give i := rfl
theorem Tr.give_and (a b : Tr) (i : Int) : (Tr.and a b).give i = if b.give i < a.give i then b.give i else a.give i := rfl
def sp_law_give (K : PySem.W.Frag) (n : Nat) : Sp := fun vs H Q _ => ∃ v T i, vs = [v, .int i] ∧ TrAt K H v T ∧ T.ok ∧ T.dp ≤ n ∧ ∀ H', Same H H' → Q (.int (T.give i)) H'
def t_law_give (K : PySem.W.Frag) (n : Nat) : TS :=
  (tSeq (tAsg (tVar 0) (gTup K 3 (gCons (gName 2) (gCons (gName 3) (gCons (gName 4) gNil)))))
    (tSeq (tIfS (tTest (tOp (rEqU K) (tVar 2) (tC (.str "at")))) (tRet (tIf (tTest (tOp (rGeI) (tVar 1) (tVar 3))) (tOp (rSubI) (tVar 1) (tOp (rModI) (tCB (rIntU) (tCons (tVar 1) tNil)) (tVar 4))) (tC (.int 0)))) tNext)
    (tSeq (tAsg (tLst (tCons (tCall (sp_law_give K n) [] E0 (tCons (tVar 3) (tCons (tVar 1) tNil))) (tCons (tCall (sp_law_give K n) [] E0 (tCons (tVar 4) (tCons (tVar 1) tNil))) tNil))) (gName 5))
    (tRet (tIf (tTest (tOp (rEqU K) (tVar 2) (tC (.str "or")))) (tCB (rMax K) (tCons (tVar 5) tNil)) (tCB (rMin K) (tCons (tVar 5) tNil)))))))
theorem no_law_give (h : sp_law_give K 0 vs H Q E) : False := by
  obtain ⟨_, T, _, _, _, _, h, _⟩ := h
  have := T.dp_pos
  omega
theorem ln_law_give (h : sp_law_give K n vs H Q E) : vs.length = 2 := by obtain ⟨_, _, _, rfl, _⟩ := h; rfl
theorem rd_law_give (h : sp_law_give K (n + 1) vs H Q E) : t_law_give K n (EndsOf Q) (start ["", "", "", "", "", ""] vs) H := by
  obtain ⟨v, T, i, rfl, hT, ok, hd, k⟩ := h
  obtain ⟨a, w, x, y, rfl, s, cw⟩ := hT.tuple
  refine ⟨_, rfl, g3 s ?_⟩
  refine ⟨_, rfl, .inl ⟨rfl, _, rfl, ?_⟩⟩
  rcases cw with ⟨rfl, t, q, rfl, rfl, rfl⟩ | ⟨rfl, A, B, rfl, hA, hB⟩ | ⟨rfl, A, B, rfl, hA, hB⟩
  · refine ifS (fun _ => ?_) (fun z => absurd rfl z)
    obtain ⟨o1, o2, o3, o4⟩ := ok
    have k := k H (Same.refl H)
    have e : (Tr.at t q).give i = if t ≤ i then i - i % q else 0 := rfl
    rw [e] at k
    refine ⟨_, rfl, _, rfl, _, _, rfl, rfl, _, rfl, ?_⟩
    refine ifD (fun c => ?_) (fun c => ?_)
    · rw [if_pos c] at k
      exact ⟨_, rfl, _, rfl, .inl (.inl ⟨_, rfl, _, rfl, _, _, rfl, rfl, (by show (0 : Int) < q; omega), _, _, rfl, rfl, k⟩)⟩
    · rw [if_neg c] at k
      exact k
  · refine ifS (fun z => absurd z or_at) (fun _ => ?_)
    have hd' : max A.dp B.dp + 1 ≤ n + 1 := hd
    refine ⟨_, rfl, _, rfl, x, A, i, rfl, hA, ok.1, by omega, fun H1 s1 => ?_⟩
    refine ⟨_, rfl, _, rfl, y, B, i, rfl, hB.mono (Tups.same s1), ok.2, by omega, fun H2 s2 => ⟨two_fit.2.1, fun p hp => ?_⟩⟩
    refine ⟨_, rfl, .inl ⟨rfl, _, rfl, ?_⟩⟩
    refine ifS (fun _ => ?_) (fun z => absurd rfl z)
    refine ⟨_, rfl, p, [A.give i, B.give i], rfl, SqL.of upd_same, Nat.succ_pos _, fun m hm hy => ?_⟩
    have e : m = (Tr.or A B).give i := by
      rw [Tr.give_or]
      have h1 := hy (A.give i) (List.mem_cons_self ..)
      have h2 := hy (B.give i) (List.mem_cons_of_mem _ (List.mem_cons_self ..))
      rcases List.mem_cons.mp hm with rfl | hm
      · split <;> omega
      · have := List.mem_singleton.mp hm
        split <;> omega
    rw [e]
    exact k _ ((s1.trans s2).trans (same_new hp))
  · refine ifS (fun z => absurd z and_at) (fun _ => ?_)
    have hd' : max A.dp B.dp + 1 ≤ n + 1 := hd
    refine ⟨_, rfl, _, rfl, x, A, i, rfl, hA, ok.1, by omega, fun H1 s1 => ?_⟩
    refine ⟨_, rfl, _, rfl, y, B, i, rfl, hB.mono (Tups.same s1), ok.2, by omega, fun H2 s2 => ⟨two_fit.2.1, fun p hp => ?_⟩⟩
    refine ⟨_, rfl, .inl ⟨rfl, _, rfl, ?_⟩⟩
    refine ifS (fun z => absurd z and_or) (fun _ => ?_)
    refine ⟨_, rfl, p, [A.give i, B.give i], rfl, SqL.of upd_same, Nat.succ_pos _, fun m hm hy => ?_⟩
    have e : m = (Tr.and A B).give i := by
      rw [Tr.give_and]
      have h1 := hy (A.give i) (List.mem_cons_self ..)
      have h2 := hy (B.give i) (List.mem_cons_of_mem _ (List.mem_cons_self ..))
      rcases List.mem_cons.mp hm with rfl | hm
      · split <;> omega
      · have := List.mem_singleton.mp hm
        split <;> omega
    rw [e]
    exact k _ ((s1.trans s2).trans (same_new hp))
/-! ### a drawn rule -/
def Tr.le (m : Int) : Tr → Prop
  | .at t _ => t ≤ m
  | .or a b => le m a ∧ le m b
  | .and a b => le m a ∧ le m b
theorem Bag.nb {b l D : Addr} (B : Bag H b l) (h : H D = none) : D ≠ b := by
  obtain ⟨ys, hb⟩ := B.at
  exact (ne_of_none hb h).symm
theorem Bag.nl {b l D : Addr} (B : Bag H b l) (h : H D = none) : D ≠ l := by
  obtain ⟨ys, hb⟩ := B.at2
  exact (ne_of_none hb h).symm
theorem Bag.tups {b l : Addr} (B : Bag H b l) (k : Kp b H H') : Tups K H H' := by
  obtain ⟨ys, hb⟩ := B.at
  exact Tups.kp k hb
def Ps.Ok (K : PySem.W.Frag) (H : Hp) (m : Int) (zs : Ps) : Prop := ∀ z ∈ zs, TrAt K H z.1 z.2 ∧ z.2.ok ∧ z.2.le m
theorem Ps.Ok.mono {zs : Ps} {m : Int} (h : Ps.Ok K H m zs) (s : Tups K H H') : Ps.Ok K H' m zs := fun z hz => ⟨(h z hz).1.mono s, (h z hz).2⟩
theorem Tups.add {p : Addr} {o u : HO} (h : H p = some u) (nt : ∀ xs, u ≠ .tup xs) (nf : ∀ ob xs, u ≠ .frz ob (.tup xs)) : Tups K H (upd H p o) := Tups.put h nt nf
theorem lst_tups {p : Addr} {o : HO} {xs : List V} (h : H p = some (.lst xs)) : Tups K H (upd H p o) := Tups.put h (fun _ z => nomatch z) fun _ _ z => nomatch z
def sp_law_draw_rule (K : PySem.W.Frag) : Sp := fun vs H Q _ => ∃ b l top sc many, vs = [.ref b, .int top, .int sc, .int many] ∧ Bag H b l ∧ 1 ≤ top ∧ top ≤ 1000 ∧ 1 ≤ sc ∧ top * sc ≤ 10 ^ 50 ∧ 1 ≤ many ∧ many ≤ 100 ∧
  ∀ v T H', TrAt K H' v T → T.ok → T.le (top * sc) → (T.lv : Int) = many → Bag H' b l → Kp b H H' → Q v H'
def t_law_draw_rule (K : PySem.W.Frag) : TS :=
  (tSeq (tAsg (tLc (iRng1 (tCons (tVar 3) tNil)) (gName 6) tYes (tTup (tCons (tC (.str "at")) (tCons (tCall (sp_law_draw_size K) [] E0 (tCons (tVar 0) (tCons (tVar 1) (tCons (tVar 2) tNil)))) (tCons (tOp (rAddU K) (tC (.int 1)) (tCall (sp_law_take K) [] E0 (tCons (tVar 0) (tCons (tC (.int 6)) tNil)))) tNil)))) [6]) (gName 4))
    (tSeq (tWhile (tTest (tOp (rGtI) (tCB (rLenU K) (tCons (tVar 4) tNil)) (tC (.int 1)))) (tSeq (tAsg (tCall (sp_law_take K) [] E0 (tCons (tVar 0) (tCons (tOp (rSubI) (tCB (rLenU K) (tCons (tVar 4) tNil)) (tC (.int 1))) tNil))) (gName 5))
    (tAsg (tOp (rAddU K) (tOp (rAddU K) (tSl (rSlU K) (tVar 4) tNoPart (tPart (tVar 5))) (tLst (tCons (tTup (tCons (tOp (rIx K) (tLst (tCons (tC (.str "or")) (tCons (tC (.str "and")) tNil))) (tCall (sp_law_take K) [] E0 (tCons (tVar 0) (tCons (tC (.int 2)) tNil)))) (tCons (tOp (rIx K) (tVar 4) (tVar 5)) (tCons (tOp (rIx K) (tVar 4) (tOp (rAddU K) (tVar 5) (tC (.int 1)))) tNil)))) tNil))) (tSl (rSlU K) (tVar 4) (tPart (tOp (rAddU K) (tVar 5) (tC (.int 2)))) tNoPart)) (gName 4))))
    (tRet (tOp (rIx K) (tVar 4) (tC (.int 0))))))
theorem ln_law_draw_rule (h : sp_law_draw_rule K vs H Q E) : vs.length = 4 := by obtain ⟨_, _, _, _, _, rfl, _⟩ := h; rfl
theorem split2 {α : Type} {l : List α} {j : Nat} (h : j + 1 < l.length) : l = l.take j ++ (l[j] :: l[j + 1] :: l.drop (j + 2)) := by
  rw [← List.drop_eq_getElem_cons (by omega), ← List.drop_eq_getElem_cons (by omega), List.take_append_drop]
theorem rd_law_draw_rule (h : sp_law_draw_rule K vs H Q E) : t_law_draw_rule K (EndsOf Q) (start ["", "", "", "", "", "", ""] vs) H := by
  obtain ⟨b, l, top, sc, many, rfl, B, t1, t2, s1, ts, m1, m2, k⟩ := h
  have nb : ∀ {D : Addr}, H D = none → D ≠ b := fun h => B.nb h
  refine ⟨_, rfl, many, rfl, by omega, by omega, fun D hD => ?_⟩
  refine lc_range (lo := 0) (n := many.toNat) (fun i H' => Bag H' b l ∧ Kp b H H' ∧ ∃ zs : Ps, zs.length = i ∧ zs.lvs = i ∧ H' D = some (.lst (zs.map (·.1))) ∧ Ps.Ok K H' (top * sc) zs) ⟨B.same (same_new hD), kp_new hD, [], rfl, rfl, upd_same, fun z hz => nomatch hz⟩ ?_ ?_
  · rintro i G hi ⟨B1, k1, zs, hl, hv, hz, ok⟩
    refine ⟨rfl, ?_⟩
    refine ⟨_, rfl, _, rfl, _, rfl, b, l, top, sc, rfl, B1, t1, t2, s1, fun t G1 a0 a1 B2 k2 => ?_⟩
    refine ⟨_, rfl, b, l, 6, rfl, B2, by decide, by decide, fun q G2 q0 q1 B3 k3 => .inl ⟨_, _, rfl, rfl, two_fit.2.2.1, fun p hp => ?_⟩⟩
    have k23 := k2.trans k3
    have hz2 := k23 D _ hz (nb hD)
    have s4 := same_new (o := .tup [.str "at", .int t, .int (1 + q)]) hp
    have tp : Tups K G (upd G2 p (.tup [.str "at", .int t, .int (1 + q)])) := (B1.tups k23).trans (Tups.same s4)
    refine ⟨_, s4 _ _ hz2, small1000 (by rw [List.length_map]; omega), ?_, (k1.trans (k23.trans (Kp.of s4))).other hD, zs ++ [(.ref p, .at t (1 + q))], ?_, ?_, ?_, ?_⟩
    · exact (B3.same s4).put (nb hD).symm (B.nl hD).symm
    · rw [List.length_append, hl]; rfl
    · rw [Ps.lvs_app, hv]; rfl
    · rw [upd_same, List.map_append]; rfl
    · intro z q
      have tD := lst_tups (K := K) (o := .lst (zs.map (·.1) ++ [V.ref p])) (s4 _ _ hz2)
      rcases List.mem_append.mp q with q | q
      · exact ⟨((ok z q).1.mono tp).mono tD, (ok z q).2⟩
      · rw [List.mem_singleton.mp q]
        exact ⟨⟨p, rfl, tD _ _ (SqT.of upd_same)⟩, ⟨a0, by omega, by omega, by omega⟩, a1⟩
  rintro G ⟨B1, k1, zs, hl, hv, hz, ok⟩
  refine ⟨fun m σ' H' => ∃ (zs : Ps) (D : Addr) (at' : Option V), σ' = [some (.ref b), some (.int top), some (.int sc), some (.int many), some (.ref D), at', none] ∧ H D = none ∧ H' D = some (.lst (zs.map (·.1))) ∧ Ps.Ok K H' (top * sc) zs ∧
    zs.lvs = many.toNat ∧ 1 ≤ zs.length ∧ zs.length ≤ 100 ∧ Bag H' b l ∧ Kp b H H' ∧ m = zs.length, ⟨_, zs, D, none, rfl, hD, hz, ok, hv, by omega, by omega, B1, k1, rfl⟩, ?_⟩
  clear hl hv hz ok zs B1 k1 hD
  rintro m σ' G ⟨zs, D, at', rfl, hD, hz, ok, hv, l1, l2, B1, k1, rfl⟩
  refine ⟨_, rfl, .inl ⟨_, _, rfl, .inl ⟨_, SqL.of hz, rfl⟩, _, _, rfl, rfl, _, rfl, ?_⟩⟩
  rw [List.length_map]
  refine ifD (fun c => ?_) (fun c => ?_)
  · -- two neighbours become one
    refine ⟨fun σ2 H2 => ∃ (zs2 : Ps) (D2 : Addr) (at' : Option V), σ2 = [some (.ref b), some (.int top), some (.int sc), some (.int many), some (.ref D2), at', none] ∧ H D2 = none ∧ H2 D2 = some (.lst (zs2.map (·.1))) ∧ Ps.Ok K H2 (top * sc) zs2 ∧
      zs2.lvs = many.toNat ∧ 1 ≤ zs2.length ∧ zs2.length ≤ 100 ∧ Bag H2 b l ∧ Kp b H H2 ∧ zs2.length < zs.length, fun σ2 H2 ⟨zs2, D2, at', a1, a2, a3, a4, a5, a6, a7, a8, a9, a10⟩ => ⟨_, a10, zs2, D2, at', a1, a2, a3, a4, a5, a6, a7, a8, a9, rfl⟩, ?_⟩
    refine ⟨_, rfl, _, rfl, .inl ⟨_, _, rfl, .inl ⟨_, SqL.of hz, rfl⟩, _, _, rfl, rfl, ?_⟩⟩
    rw [List.length_map]
    refine ⟨b, l, _, rfl, B1, by omega, by omega, fun at' G1 a0 a1 B2 k2 => ?_⟩
    have hz1 := k2 D _ hz (nb hD)
    obtain ⟨j, rfl⟩ : ∃ j : Nat, at' = (j : Int) := ⟨at'.toNat, by omega⟩
    have hj : j + 1 < zs.length := by omega
    have t1 := B1.tups (K := K) k2
    have kp1 := k1.trans k2
    have ok1 := ok.mono t1
    clear hz ok B1 k1 t1
    -- some[:at]
    refine ⟨_, rfl, _, rfl, _, rfl, .inl ⟨D, _, rfl, SqL.of hz1, fun p1 hp1 => ?_⟩⟩
    rw [cutV_to]
    have e1 := same_new (o := .lst ((zs.map (·.1)).take j)) hp1
    -- ['or', 'and'][..]
    refine ⟨two_fit.2.1, fun p2 hp2 => ?_⟩
    have e2 := same_new (o := .lst [.str "or", .str "and"]) hp2
    have e12 := e1.trans e2
    refine ⟨_, rfl, b, l, 2, rfl, B2.same e12, by decide, by decide, fun w G2 w0 w1 B3 k3 => ?_⟩
    have np2 : p2 ≠ b := (B2.same e1).nb hp2
    have np1 : p1 ≠ b := B2.nb hp1
    obtain ⟨wd, hw, cw⟩ := pick2 (x := .str "or") (y := .str "and") w0 w1
    have h2 := k3 p2 _ upd_same np2
    have h1 := k3 p1 _ (e2 _ _ upd_same) np1
    have hz2 := k3 D _ (e12 _ _ hz1) (nb hD)
    have tt : Tups K G1 G2 := (Tups.same e12).trans ((B2.same e12).tups k3)
    have ok2 := ok1.mono tt
    have kp2 := kp1.trans ((Kp.of e12).trans k3)
    refine .inl ⟨p2, _, w, wd, rfl, rfl, SqL.of h2, hw, ?_⟩
    -- some[at], some[at + 1]
    have g1 : (zs.map (·.1))[j]? = some (zs[j].1) := by rw [List.getElem?_map, List.getElem?_eq_getElem (by omega)]; rfl
    have g2 : (zs.map (·.1))[j + 1]? = some (zs[j + 1].1) := by rw [List.getElem?_map, List.getElem?_eq_getElem hj]; rfl
    refine ⟨_, rfl, _, rfl, .inl ⟨D, _, _, _, rfl, rfl, SqL.of hz2, at_of rfl g1, ?_⟩⟩
    refine ⟨_, rfl, _, rfl, .inl ⟨_, _, rfl, rfl, .inl ⟨D, _, _, _, rfl, rfl, SqL.of hz2, at_of (by omega) g2, ?_⟩⟩⟩
    refine ⟨two_fit.2.2.1, fun p3 hp3 => ?_⟩
    have e3 := same_new (o := .tup [wd, zs[j].1, zs[j + 1].1]) hp3
    refine ⟨two_fit.1, fun p4 hp4 => ?_⟩
    have e4 := same_new (o := .lst [.ref p3]) hp4
    have e34 := e3.trans e4
    refine .inr (.inr (.inl ⟨p1, p4, _, _, rfl, rfl, e34 _ _ h1, upd_same, ?_, fun p5 hp5 => ?_⟩))
    · rw [List.length_take, List.length_map, List.length_singleton]
      exact Nat.le_of_lt (small1000 (by omega))
    have e5 := same_new (o := .lst ((zs.map (·.1)).take j ++ [.ref p3])) hp5
    have e35 := e34.trans e5
    refine ⟨_, rfl, _, rfl, .inl ⟨_, _, rfl, rfl, _, rfl, .inl ⟨D, _, rfl, SqL.of (e35 _ _ hz2), fun p6 hp6 => ?_⟩⟩⟩
    rw [show ((j : Int) + 2) = ((j + 2 : Nat) : Int) from rfl, cutV_from]
    have e6 := same_new (o := .lst ((zs.map (·.1)).drop (j + 2))) hp6
    refine .inr (.inr (.inl ⟨p5, p6, _, _, rfl, rfl, e6 _ _ upd_same, upd_same, ?_, fun p7 hp7 => ?_⟩))
    · rw [List.length_append, List.length_take, List.length_drop, List.length_map, List.length_singleton]
      exact Nat.le_of_lt (small1000 (by omega))
    have e7 := same_new (o := .lst ((zs.map (·.1)).take j ++ [.ref p3] ++ (zs.map (·.1)).drop (j + 2))) hp7
    have all : Same G2 _ := e35.trans (e6.trans e7)
    obtain ⟨A, hA⟩ : ∃ A, A = (zs[j]).2 := ⟨_, rfl⟩
    obtain ⟨Z, hZ⟩ : ∃ Z, Z = (zs[j + 1]).2 := ⟨_, rfl⟩
    obtain ⟨q1, q2, q3⟩ := ok2 _ (List.getElem_mem (show j < zs.length by omega))
    obtain ⟨r1, r2, r3⟩ := ok2 _ (List.getElem_mem hj)
    rw [← hA] at q1 q2 q3
    rw [← hZ] at r1 r2 r3
    -- the tree of both
    obtain ⟨W, hW, oW, lW, vW⟩ : ∃ W : Tr, (∀ G', Same G2 G' → G' p3 = some (.tup [wd, zs[j].1, zs[j + 1].1]) → TrAt K G' (.ref p3) W) ∧ W.ok ∧ W.le (top * sc) ∧ W.lv = A.lv + Z.lv := by
      rcases cw with ⟨_, rfl⟩ | ⟨_, rfl⟩
      · exact ⟨.or A Z, fun G' s h => ⟨p3, _, _, rfl, SqT.of h, q1.mono (Tups.same s), r1.mono (Tups.same s)⟩, ⟨q2, r2⟩, ⟨q3, r3⟩, rfl⟩
      · exact ⟨.and A Z, fun G' s h => ⟨p3, _, _, rfl, SqT.of h, q1.mono (Tups.same s), r1.mono (Tups.same s)⟩, ⟨q2, r2⟩, ⟨q3, r3⟩, rfl⟩
    have hp3' := (e4.trans (e5.trans (e6.trans e7))) p3 _ upd_same
    refine ⟨zs.take j ++ [(.ref p3, W)] ++ zs.drop (j + 2), p7, _, rfl, ?_, ?_, ?_, ?_, ?_, ?_, B3.same all, kp2.trans (Kp.of all), ?_⟩
    · cases e : H p7 with
      | none => rfl
      | some o =>
        have z1 := (kp2.trans (Kp.of (e35.trans e6))) p7 o e
        by_cases hb : p7 = b
        · obtain ⟨ys, hb'⟩ := (B3.same (e35.trans e6)).at
          rw [hb, hb'] at hp7
          cases hp7
        · rw [z1 hb] at hp7
          cases hp7
    · rw [upd_same, List.map_append, List.map_append, List.map_take, List.map_drop]
      rfl
    · intro z hz
      rcases List.mem_append.mp hz with hz | hz
      · rcases List.mem_append.mp hz with hz | hz
        · exact (ok2.mono (Tups.same all)) z (List.mem_of_mem_take hz)
        · rw [List.mem_singleton.mp hz]
          exact ⟨hW _ all hp3', oW, lW⟩
      · exact (ok2.mono (Tups.same all)) z (List.mem_of_mem_drop hz)
    · have e0 : Ps.lvs zs = Ps.lvs (zs.take j) + (A.lv + (Z.lv + Ps.lvs (zs.drop (j + 2)))) := by
        conv => lhs; rw [split2 hj, Ps.lvs_app]
        rw [hA, hZ]
        rfl
      have e1 : Ps.lvs [((.ref p3 : V), W)] = W.lv := by show W.lv + 0 = W.lv; omega
      rw [Ps.lvs_app, Ps.lvs_app, e1, vW]
      omega
    all_goals
      rw [List.length_append, List.length_append, List.length_take, List.length_drop, List.length_singleton]
      omega
  · -- one is left
    obtain ⟨⟨v, T⟩, rfl⟩ : ∃ z, zs = [z] := by
      cases zs with
      | nil => exact absurd l1 (by decide)
      | cons z r =>
        cases r with
        | nil => exact ⟨z, rfl⟩
        | cons y r => exact absurd (by rw [List.length_cons, List.length_cons]; omega) c
    obtain ⟨a1, a2, a3⟩ := ok (v, T) (List.mem_singleton.mpr rfl)
    have e : T.lv = many.toNat := hv
    exact ⟨_, rfl, .inl ⟨D, _, 0, v, rfl, rfl, SqL.of hz, rfl, k v T G a1 a2 a3 (by omega) B1 k1⟩⟩
end
end Pk
set_option Elab.async false
set_option linter.all false
set_option maxRecDepth 100000
set_option maxHeartbeats 2000000
namespace Pk
open PySem PySem.Spec L2 PyProof.Rows
section
variable {K : PySem.W.Frag} {C : Cs} {vs : List V} {H H' : Hp} {Q : VK} {E : XK} {n : Nat}
theorem RuleAt.kpB {v : V} {T : Tr} {b l : Addr} (h : RuleAt K C H v T) (B : Bag H b l) (k : Kp b H H') : RuleAt K C H' v T := by
  obtain ⟨ys, hb⟩ := B.at
  exact h.kp k hb
def sp_law_made (K : PySem.W.Frag) (C : Cs) (n : Nat) : Sp := fun vs H Q _ => ∃ b l v T, vs = [.ref b, v] ∧ Bag H b l ∧ TrAt K H v T ∧ T.ok ∧ T.lv ≤ 6 ∧ T.dp ≤ n ∧ FxRule K C ∧ ∀ x H', RuleAt K C H' x T → Bag H' b l → Kp b H H' → Q x H'
def t_law_made (K : PySem.W.Frag) (C : Cs) (n : Nat) : TS :=
  (tSeq (tAsg (tVar 1) (gTup K 3 (gCons (gName 2) (gCons (gName 3) (gCons (gName 4) gNil)))))
    (tSeq (tIfS (tTest (tOp (rEqU K) (tCall (sp_law_take K) [] E0 (tCons (tVar 0) (tCons (tC (.int 2)) tNil))) (tC (.int 0)))) (tRet (tMake C.Rule (sp_Rule___init__ K C) [] E0 (tCons (tVar 1) tNil))) tNext)
    (tSeq (tIfS (tTest (tOp (rEqU K) (tVar 2) (tC (.str "at")))) (tRet (tIf (tTest (tOp (rEqU K) (tVar 4) (tC (.int 1)))) (tCall (sp_at_least K C) [.int 1] E0 (tCons (tVar 3) tNil)) (tCall (sp_at_least K C) [] E0 (tCons (tVar 3) (tCons (tVar 4) tNil))))) tNext)
    (tSeq (tPar 5 6 (tCons (tCall (sp_law_made K C n) [] E0 (tCons (tVar 0) (tCons (tVar 3) tNil))) (tCons (tCall (sp_law_made K C n) [] E0 (tCons (tVar 0) (tCons (tVar 4) tNil))) tNil)))
    (tRet (tIf (tTest (tOp (rEqU K) (tVar 2) (tC (.str "or")))) (tOp (rOwnB C.Rule (sp_Rule___or__ K C) E0) (tVar 5) (tVar 6)) (tOp (rOwnB C.Rule (sp_Rule___and__ K C) E0) (tVar 5) (tVar 6))))))))
theorem no_law_made (h : sp_law_made K C 0 vs H Q E) : False := by
  obtain ⟨_, _, _, T, _, _, _, _, _, h, _⟩ := h
  have := T.dp_pos
  omega
theorem ln_law_made (h : sp_law_made K C n vs H Q E) : vs.length = 2 := by obtain ⟨_, _, _, _, rfl, _⟩ := h; rfl
theorem rd_law_made (h : sp_law_made K C (n + 1) vs H Q E) : t_law_made K C n (EndsOf Q) (start ["", "", "", "", "", "", ""] vs) H := by
  obtain ⟨b, l, v, T, rfl, B, hT, ok, l6, hd, fx, k⟩ := h
  obtain ⟨a, w, x, y, rfl, s, cw⟩ := hT.tuple
  refine ⟨_, rfl, g3 s ?_⟩
  refine ⟨_, rfl, b, l, 2, rfl, B, by decide, by decide, fun r G r0 r1 B1 k1 => .inl ⟨rfl, _, rfl, ?_⟩⟩
  have tt := B.tups (K := K) k1
  refine ifI (fun _ => ?_) (fun _ => ?_)
  · refine ⟨_, rfl, make_rule (t := tNil) (σ := []) fx ok l6 (hT.mono tt) fun x H' hx s2 r => k (.ref x) H' r (B1.same s2) (k1.trans (Kp.of s2))⟩
  refine ⟨_, rfl, .inl ⟨rfl, _, rfl, ?_⟩⟩
  have two : ∀ {A Z : Tr} {w : Str}, T.ok → max A.dp Z.dp + 1 ≤ n + 1 → A.lv + Z.lv ≤ 6 → A.ok → Z.ok → TrAt K H x A → TrAt K H y Z → ((w = "or" ∧ T = .or A Z) ∨ (w = "and" ∧ T = .and A Z)) →
      tSeq (tPar 5 6 (tCons (tCall (sp_law_made K C n) [] E0 (tCons (tVar 0) (tCons (tVar 3) tNil))) (tCons (tCall (sp_law_made K C n) [] E0 (tCons (tVar 0) (tCons (tVar 4) tNil))) tNil)))
        (tRet (tIf (tTest (tOp (rEqU K) (tVar 2) (tC (.str "or")))) (tOp (rOwnB C.Rule (sp_Rule___or__ K C) E0) (tVar 5) (tVar 6)) (tOp (rOwnB C.Rule (sp_Rule___and__ K C) E0) (tVar 5) (tVar 6)))) (EndsOf Q)
        [some (.ref b), some (.ref a), some (.str w), some x, some y, none, none] G := by
    intro A Z w _ hd' l6 oA oZ hA hZ c
    refine ⟨_, rfl, _, rfl, b, l, x, A, rfl, B1, hA.mono tt, oA, by omega, by omega, fx, fun u G1 R1 B2 k2 => ?_⟩
    refine ⟨_, rfl, _, rfl, b, l, y, Z, rfl, B2, (hZ.mono tt).mono (B1.tups k2), oZ, by omega, by omega, fx, fun z G2 R2 B3 k3 => ⟨_, _, rfl, ?_⟩⟩
    have R1' := R1.kpB B2 k3
    have kk := k1.trans (k2.trans k3)
    obtain ⟨ru, du, xu, rfl, hu, ru'⟩ := id R1'
    obtain ⟨rz, dz, xz, rfl, hz, rz'⟩ := id R2
    refine ⟨_, rfl, .inl ⟨rfl, _, rfl, ?_⟩⟩
    rcases c with ⟨rfl, rfl⟩ | ⟨rfl, rfl⟩
    · refine ifS (fun _ => ?_) (fun z => absurd rfl z)
      exact ⟨_, rfl, _, rfl, ru, rz, du, _, dz, _, rfl, rfl, hu, hz, _, _, A, Z, rfl, R1', R2, l6, fun q G3 hq s3 R3 => k _ G3 R3 (B3.same s3) (kk.trans (Kp.of s3))⟩
    · refine ifS (fun z => absurd z and_or) (fun _ => ?_)
      exact ⟨_, rfl, _, rfl, ru, rz, du, _, dz, _, rfl, rfl, hu, hz, _, _, A, Z, rfl, R1', R2, l6, fun q G3 hq s3 R3 => k _ G3 R3 (B3.same s3) (kk.trans (Kp.of s3))⟩
  rcases cw with ⟨rfl, t, q, rfl, rfl, rfl⟩ | ⟨rfl, A, Z, rfl, hA, hZ⟩ | ⟨rfl, A, Z, rfl, hA, hZ⟩
  · refine ifS (fun _ => ?_) (fun z => absurd rfl z)
    refine ⟨_, rfl, .inl ⟨rfl, _, rfl, ?_⟩⟩
    refine ifI (fun e => ?_) (fun _ => ?_)
    · subst e
      exact ⟨_, rfl, t, 1, rfl, ok, fx, fun x G1 hx s2 r => k _ G1 r (B1.same s2) (k1.trans (Kp.of s2))⟩
    · exact ⟨_, rfl, _, rfl, t, q, rfl, ok, fx, fun x G1 hx s2 r => k _ G1 r (B1.same s2) (k1.trans (Kp.of s2))⟩
  · refine ifS (fun z => absurd z or_at) (fun _ => ?_)
    exact two ok hd l6 ok.1 ok.2 hA hZ (.inl ⟨rfl, rfl⟩)
  · refine ifS (fun z => absurd z and_at) (fun _ => ?_)
    exact two ok hd l6 ok.1 ok.2 hA hZ (.inr ⟨rfl, rfl⟩)
/-! ### amounts near the thresholds -/
def imax (i j : Int) : Int := if j > i then j else i
def Tr.tops : Tr → List Int
  | .at t q => [imax t q]
  | .or a b => tops a ++ tops b
  | .and a b => tops a ++ tops b
theorem Tr.tops_len : ∀ T : Tr, T.tops.length = T.lv
  | .at _ _ => rfl
  | .or a b => by show (tops a ++ tops b).length = _; rw [List.length_append, tops_len a, tops_len b]; rfl
  | .and a b => by show (tops a ++ tops b).length = _; rw [List.length_append, tops_len a, tops_len b]; rfl
theorem Tr.tops_ok : ∀ {T : Tr}, T.ok → ∀ i ∈ T.tops, 1 ≤ i ∧ i ≤ 10 ^ 50
  | .at t q, h, i, hi => by
    obtain ⟨h1, h2, h3, h4⟩ := h
    rw [List.mem_singleton.mp hi]
    unfold imax
    split <;> omega
  | .or a b, h, i, hi => (List.mem_append.mp hi).elim (tops_ok h.1 i) (tops_ok h.2 i)
  | .and a b, h, i, hi => (List.mem_append.mp hi).elim (tops_ok h.1 i) (tops_ok h.2 i)
def sp_law_bounds (K : PySem.W.Frag) (n : Nat) : Sp := fun vs H Q _ => ∃ v T, vs = [v] ∧ TrAt K H v T ∧ T.dp ≤ n ∧ T.lv ≤ 100 ∧ ∀ p H', H p = none → Same H H' → H' p = some (.lst (T.tops.map V.int)) → Q (.ref p) H'
def t_law_bounds (K : PySem.W.Frag) (n : Nat) : TS :=
  (tSeq (tAsg (tVar 0) (gTup K 3 (gCons (gName 1) (gCons (gName 2) (gCons (gName 3) gNil)))))
    (tRet (tIf (tTest (tOp (rEqU K) (tVar 1) (tC (.str "at")))) (tLst (tCons (tCB (rMax2) (tCons (tVar 2) (tCons (tVar 3) tNil))) tNil)) (tOp (rAddU K) (tCall (sp_law_bounds K n) [] E0 (tCons (tVar 2) tNil)) (tCall (sp_law_bounds K n) [] E0 (tCons (tVar 3) tNil))))))
theorem no_law_bounds (h : sp_law_bounds K 0 vs H Q E) : False := by
  obtain ⟨_, T, _, _, h, _⟩ := h
  have := T.dp_pos
  omega
theorem ln_law_bounds (h : sp_law_bounds K n vs H Q E) : vs.length = 1 := by obtain ⟨_, _, rfl, _⟩ := h; rfl
theorem rd_law_bounds (h : sp_law_bounds K (n + 1) vs H Q E) : t_law_bounds K n (EndsOf Q) (start ["", "", "", ""] vs) H := by
  obtain ⟨v, T, rfl, hT, hd, hl, k⟩ := h
  obtain ⟨a, w, x, y, rfl, s, cw⟩ := hT.tuple
  refine ⟨_, rfl, g3 s ?_⟩
  refine ⟨_, rfl, .inl ⟨rfl, _, rfl, ?_⟩⟩
  have two : ∀ {A B : Tr}, T.tops = A.tops ++ B.tops → T.lv = A.lv + B.lv → max A.dp B.dp + 1 ≤ n + 1 → TrAt K H x A → TrAt K H y B →
      tOp (rAddU K) (tCall (sp_law_bounds K n) [] E0 (tCons (tVar 2) tNil)) (tCall (sp_law_bounds K n) [] E0 (tCons (tVar 3) tNil)) [some (.ref a), some (.str w), some x, some y] H Q := by
    intro A B e1 e2 hd' hA hB
    refine ⟨_, rfl, x, A, rfl, hA, by omega, by omega, fun p H1 hp s1 h1 => ?_⟩
    refine ⟨_, rfl, y, B, rfl, hB.mono (Tups.same s1), by omega, by omega, fun p2 H2 hp2 s2 h2 => ?_⟩
    refine .inr (.inr (.inl ⟨p, p2, _, _, rfl, rfl, s2 _ _ h1, h2, ?_, fun r hr => ?_⟩))
    · rw [List.length_map, List.length_map, A.tops_len, B.tops_len]
      exact Nat.le_of_lt (small1000 (by omega))
    · refine k r _ ((s1.trans s2).free hr) ((s1.trans s2).trans (same_new hr)) ?_
      rw [upd_same, e1, List.map_append]
  rcases cw with ⟨rfl, t, q, rfl, rfl, rfl⟩ | ⟨rfl, A, B, rfl, hA, hB⟩ | ⟨rfl, A, B, rfl, hA, hB⟩
  · refine ifS (fun _ => ?_) (fun z => absurd rfl z)
    exact ⟨_, rfl, _, rfl, _, _, rfl, two_fit.1, fun p hp => k p _ hp (same_new hp) upd_same⟩
  · refine ifS (fun z => absurd z or_at) (fun _ => ?_)
    exact two rfl rfl hd hA hB
  · refine ifS (fun z => absurd z and_at) (fun _ => ?_)
    exact two rfl rfl hd hA hB
theorem pick3 {x y z : V} {v : Int} (h0 : 0 ≤ v) (h1 : v < 3) : ∃ u, atI [x, y, z] v = some u ∧ (u = x ∨ u = y ∨ u = z) := by
  rcases (by omega : v = 0 ∨ v = 1 ∨ v = 2) with rfl | rfl | rfl
  · exact ⟨x, rfl, .inl rfl⟩
  · exact ⟨y, rfl, .inr (.inl rfl)⟩
  · exact ⟨z, rfl, .inr (.inr rfl)⟩
theorem kp_keep {b p : Addr} {xs : List V} (k : Kp b H H') (h : H p = some (.lst xs)) (n : p ≠ b) : H' p = some (.lst xs) := k p _ h n
/-- a number of amounts, none below nought -/
def sp_law_amounts (K : PySem.W.Frag) : Sp := fun vs H Q _ => ∃ b l v T many, vs = [.ref b, v, .int many] ∧ Bag H b l ∧ TrAt K H v T ∧ T.ok ∧ T.lv ≤ 6 ∧ 0 ≤ many ∧ many ≤ 100 ∧
  ∀ (p : Addr) (ns : List Int) (H' : Hp), H p = none → H' p = some (.lst (ns.map V.int)) → ns.length = many.toNat + 2 → (∀ i ∈ ns, 0 ≤ i ∧ i ≤ 10 ^ 60) → Bag H' b l → Kp b H H' → Q (.ref p) H'
def t_law_amounts (K : PySem.W.Frag) : TS :=
  (tSeq (tPar 3 4 (tCons (tCall (sp_law_bounds K 7) [] E0 (tCons (tVar 1) tNil)) (tCons (tLst (tCons (tC (.int 0)) (tCons (tC (.int 1)) tNil))) tNil)))
    (tSeq (tFor (iRng1 (tCons (tVar 2) tNil)) (gName 5) (tSeq (tAsg (tOp (rSubI) (tOp (rAddU K) (tOp (rIx K) (tVar 3) (tCall (sp_law_take K) [] E0 (tCons (tVar 0) (tCons (tCB (rLenU K) (tCons (tVar 3) tNil)) tNil)))) (tCall (sp_law_take K) [] E0 (tCons (tVar 0) (tCons (tC (.int 70)) tNil)))) (tC (.int 9))) (gName 6))
    (tDrop (tBM K "list" rAppend (tVar 4) (tCons (tOp (rIx K) (tLst (tCons (tCB (rMax2) (tCons (tC (.int 0)) (tCons (tVar 6) tNil))) (tCons (tCall (sp_law_take K) [] E0 (tCons (tVar 0) (tCons (tOp (rPowI) (tC (.int 10)) (tC (.int 30))) tNil))) (tCons (tCall (sp_law_take K) [] E0 (tCons (tVar 0) (tCons (tC (.int 80)) tNil))) tNil)))) (tCall (sp_law_take K) [] E0 (tCons (tVar 0) (tCons (tC (.int 3)) tNil)))) tNil)))))
    (tRet (tVar 4))))
theorem ln_law_amounts (h : sp_law_amounts K vs H Q E) : vs.length = 3 := by obtain ⟨_, _, _, _, _, rfl, _⟩ := h; rfl
theorem rd_law_amounts (h : sp_law_amounts K vs H Q E) : t_law_amounts K (EndsOf Q) (start ["", "", "", "", "", "", ""] vs) H := by
  obtain ⟨b, l, v, T, many, rfl, B, hT, ok, l6, m0, m1, k⟩ := h
  refine ⟨_, rfl, v, T, rfl, hT, Tr.dp6 l6, by omega, fun p H1 hp s1 h1 => ?_⟩
  refine ⟨two_fit.2.1, fun f hf => ⟨_, _, rfl, ?_⟩⟩
  have s2 := same_new (o := .lst [.int 0, .int 1]) hf
  have s12 := s1.trans s2
  have nb : ∀ {D : Addr}, H D = none → D ≠ b := fun h => B.nb h
  have hf0 : H f = none := s1.free hf
  have hp2 := s2 _ _ h1
  have hf2 : (upd H1 f (.lst [.int 0, .int 1])) f = some (.lst [.int 0, .int 1]) := upd_same
  have npf : p ≠ f := ne_of_none h1 hf
  generalize upd H1 f (.lst [.int 0, .int 1]) = G at s12 hp2 hf2 ⊢
  refine ⟨_, rfl, many, rfl, by omega, by omega, ?_⟩
  refine for_range (lo := 0) (n := many.toNat) (fun i σ' G' => ∃ (c1 c2 : Option V) (ns : List Int), σ' = [some (.ref b), some v, some (.int many), some (.ref p), some (.ref f), c1, c2] ∧ Bag G' b l ∧ Kp b H G' ∧ G' p = some (.lst (T.tops.map V.int)) ∧
    G' f = some (.lst (ns.map V.int)) ∧ ns.length = i + 2 ∧ ∀ z ∈ ns, 0 ≤ z ∧ z ≤ 10 ^ 60) ⟨none, none, [0, 1], rfl, B.same s12, Kp.of s12, hp2, hf2, rfl, ?_⟩ ?_ ?_
  · intro z hz
    rcases List.mem_cons.mp hz with rfl | hz
    · decide
    · rw [List.mem_singleton.mp hz]; decide
  · rintro i σ' G' hi ⟨c1, c2, ns, rfl, B1, k1, hp1, hf1, hl, hn⟩
    refine ⟨_, rfl, _, rfl, _, rfl, .inl ⟨_, _, rfl, .inl ⟨_, SqL.of hp1, rfl⟩, ?_⟩⟩
    have tl := T.tops_len
    have lp := T.lv_pos
    rw [List.length_map, tl]
    refine ⟨b, l, _, rfl, B1, by omega, by omega, fun j G1 j0 j1 B2 k2 => ?_⟩
    have hp2 := k2 p _ hp1 (nb hp)
    have hj : j.toNat < T.tops.length := by omega
    have g : (T.tops.map V.int)[j.toNat]? = some (.int (T.tops[j.toNat])) := by rw [List.getElem?_map, List.getElem?_eq_getElem hj]; rfl
    obtain ⟨t1, t2⟩ := Tr.tops_ok ok _ (List.getElem_mem hj)
    generalize T.tops[j.toNat] = tj at g t1 t2
    refine .inl ⟨p, _, j, .int tj, rfl, rfl, SqL.of hp2, at_of (by omega) g, ?_⟩
    refine ⟨_, rfl, b, l, 70, rfl, B2, by decide, by decide, fun r G2 r0 r1 B3 k3 => .inl ⟨_, _, rfl, rfl, _, _, rfl, rfl, ?_⟩⟩
    have k13 := k1.trans (k2.trans k3)
    have hf3 := k3 f _ (k2 f _ hf1 (nb hf0)) (nb hf0)
    have hp3 := k3 p _ hp2 (nb hp)
    -- found.append(..)
    refine ⟨_, rfl, .inl ⟨rfl, _, SqL.of hf3⟩, _, rfl, _, _, rfl, _, rfl, _, _, rfl, rfl, ⟨by decide, by decide, by decide⟩, ?_⟩
    refine ⟨b, l, _, rfl, B3, by decide, by decide, fun y1 G3 y0 y2 B4 k4 => ?_⟩
    refine ⟨_, rfl, b, l, 80, rfl, B4, by decide, by decide, fun y3 G4 y4 y5 B5 k5 => ⟨two_fit.2.2.1, fun q hq => ?_⟩⟩
    refine ⟨_, rfl, b, l, 3, rfl, B5.same (same_new hq), by decide, by decide, fun y6 G5 y7 y8 B6 k6 => ?_⟩
    have nq : q ≠ b := B5.nb hq
    have hq5 := k6 q _ upd_same nq
    obtain ⟨u, hu, cu⟩ := pick3 (x := .int (if tj + r - 9 > 0 then tj + r - 9 else 0)) (y := .int y1) (z := .int y3) y7 y8
    refine .inl ⟨q, _, y6, u, rfl, rfl, SqL.of hq5, hu, ?_⟩
    have k46 := k4.trans (k5.trans ((kp_new hq).trans k6))
    have hf6 := k46 f _ hf3 (nb hf0)
    have hp6 := k46 p _ hp3 (nb hp)
    refine ⟨f, _, u, rfl, rfl, hf6, small1000 (by rw [List.length_map]; omega), ?_⟩
    have e10 : (10 : Int) ^ (30 : Int).toNat = 10 ^ 30 := rfl
    have lim : (10 : Int) ^ 30 ≤ 10 ^ 60 := by decide
    have lim2 : (10 : Int) ^ 50 + 100 ≤ 10 ^ 60 := by decide
    obtain ⟨z, rfl, hz⟩ : ∃ z, u = .int z ∧ 0 ≤ z ∧ z ≤ 10 ^ 60 := by
      rcases cu with rfl | rfl | rfl
      · refine ⟨_, rfl, ?_⟩
        split <;> omega
      · exact ⟨_, rfl, y0, by rw [e10] at y2; omega⟩
      · exact ⟨_, rfl, y4, by omega⟩
    refine ⟨_, _, ns ++ [z], rfl, (B6).put (nb hf0).symm (B.nl hf0).symm, (k13.trans k46).other hf0, by rw [upd_ne npf]; exact hp6, ?_, ?_, ?_⟩
    · rw [upd_same, List.map_append]; rfl
    · rw [List.length_append, hl]; rfl
    · intro y hy
      rcases List.mem_append.mp hy with hy | hy
      · exact hn y hy
      · rw [List.mem_singleton.mp hy]; exact hz
  · rintro σ' G' ⟨c1, c2, ns, rfl, B1, k1, hp1, hf1, hl, hn⟩
    exact ⟨_, rfl, k f ns G' hf0 hf1 hl hn B1 k1⟩
end
end Pk
set_option Elab.async false
set_option linter.all false
set_option maxRecDepth 100000
set_option maxHeartbeats 2000000
namespace Pk
open PySem PySem.Spec L2 PyProof.Rows
/-- the law: of a list of at most 63 ints it gives True -/
def sp_law (K : PySem.W.Frag) : Sp := fun vs H Q _ => ∃ (a : Addr) (ns : List Int), vs = [.ref a] ∧ SqL K H a (ns.map V.int) ∧ ns.length ≤ 63 ∧ ∀ H', Q (.bl true) H'
theorem ln_law {K : PySem.W.Frag} {vs : List V} {H : Hp} {Q : VK} {E : XK} (h : sp_law K vs H Q E) : vs.length = 1 := by obtain ⟨_, _, rfl, _⟩ := h; rfl
/-! ### data that is shown -/
theorem small_log {n : Int} (h : n.natAbs ≤ 10 ^ 100) : decide (n.natAbs.log2 < 1920) = true := by
  refine decide_eq_true ?_
  have h2 : n.natAbs < 2 ^ 1920 := by
    have z2 : (10 : Nat) ^ 100 < 2 ^ 1920 := by decide +kernel
    omega
  by_cases e : n.natAbs = 0
  · rw [e]; decide
  · exact (Nat.log2_lt e).mpr h2
theorem good_int {n : Int} (h : n.natAbs ≤ 10 ^ 100) : Good (.int n) := ⟨rfl, small_log h, by simp [siz]⟩
theorem good_bool (b : Bool) : Good (.bool b) := ⟨rfl, rfl, by cases b <;> decide⟩
theorem good_none : Good .none := ⟨rfl, rfl, by decide⟩
theorem shaped_iff {d : PyData} : SeqAt.shaped d = true ↔ d.canLay0 = true ∧ d.depth ≤ 64 := by
  constructor
  · intro h; exact ⟨SeqAt.canLay_of_shaped h, SeqAt.depth_of_shaped h⟩
  · rintro ⟨h1, h2⟩
    show (d.canLay0 && decide (d.depth ≤ 64)) = true
    rw [h1, decide_eq_true h2]; rfl
/-- items of a list or tuple: each one good to a depth and a size -/
structure GoodTo (n m : Nat) (d : PyData) : Prop where
  lay : d.canLay0 = true
  dep : d.depth ≤ n
  wr : d.showable = true
  sz : siz d ≤ m
theorem GoodTo.good {n m : Nat} {d : PyData} (g : GoodTo n m d) (h1 : n ≤ 64 := by decide) (h2 : m ≤ 16000000 := by decide) : Good d :=
  ⟨shaped_iff.mpr ⟨g.lay, Nat.le_trans g.dep h1⟩, g.wr, Nat.le_trans g.sz h2⟩
theorem GoodTo.mono {n m n' m' : Nat} {d : PyData} (g : GoodTo n m d) (h1 : n ≤ n' := by omega) (h2 : m ≤ m' := by omega) : GoodTo n' m' d := ⟨g.lay, Nat.le_trans g.dep h1, g.wr, Nat.le_trans g.sz h2⟩
theorem gt_int {n : Int} (h : n.natAbs ≤ 10 ^ 100) : GoodTo 0 2000 (.int n) := ⟨rfl, by simp [PyData.depth], small_log h, by simp [siz]⟩
theorem gt_bool (b : Bool) : GoodTo 0 8 (.bool b) := ⟨rfl, by simp [PyData.depth], rfl, by simp [siz]⟩
theorem gt_none : GoodTo 0 8 .none := ⟨rfl, by simp [PyData.depth], rfl, by simp [siz]⟩
theorem gt_tree {T : Tr} (h : T.ok) : GoodTo T.lv (5000 * T.lv) T.pd := ⟨T.pd_lay, Nat.le_trans T.pd_depth T.dp_le, T.pd_show h, by have := T.pd_siz; omega⟩
/-- all items of a list good -/
structure AllTo (n m : Nat) (ds : List PyData) : Prop where
  lay : PyData.canLayAll0 ds = true
  dep : PyData.depthAll ds ≤ n
  wr : PyData.showableAll ds = true
  sz : sizL ds ≤ m
theorem at_nil : AllTo 0 0 [] := ⟨rfl, by simp [PyData.depthAll], rfl, by simp [sizL]⟩
theorem at_cons {n m k j : Nat} {d : PyData} {ds : List PyData} (g : GoodTo n m d) (a : AllTo k j ds) : AllTo (max n k) (m + 4 + j) (d :: ds) := by
  refine ⟨?_, ?_, ?_, ?_⟩
  · simp only [PyData.canLayAll0, g.lay, a.lay, Bool.and_self]
  · have h1 := g.dep
    have h2 := a.dep
    simp only [PyData.depthAll]
    omega
  · simp only [PyData.showableAll, g.wr, a.wr, Bool.and_self]
  · have h1 := g.sz
    have h2 := a.sz
    simp only [sizL]
    omega
theorem gt_list {n m : Nat} {ds : List PyData} (a : AllTo n m ds) : GoodTo (n + 1) (8 + m) (.list ds) := by
  refine ⟨?_, ?_, ?_, ?_⟩
  · simp only [PyData.canLay0]; exact a.lay
  · have := a.dep
    simp only [PyData.depth]; omega
  · simp only [PyData.showable]; exact a.wr
  · have := a.sz
    simp only [siz]; omega
theorem gt_tuple {n m : Nat} {ds : List PyData} (a : AllTo n m ds) : GoodTo (n + 1) (8 + m) (.tuple ds) := by
  refine ⟨?_, ?_, ?_, ?_⟩
  · simp only [PyData.canLay0]; exact a.lay
  · have := a.dep
    simp only [PyData.depth]; omega
  · simp only [PyData.showable]; exact a.wr
  · have := a.sz
    simp only [siz]; omega
theorem Tr.give_le : ∀ {T : Tr} {i : Int}, T.ok → 0 ≤ i → 0 ≤ T.give i ∧ T.give i ≤ i
  | .at t q, i, h, h0 => by
    obtain ⟨h1, h2, h3, h4⟩ := h
    show 0 ≤ (if t ≤ i then i - i % q else 0) ∧ (if t ≤ i then i - i % q else 0) ≤ i
    have e1 := Int.emod_nonneg i (show q ≠ 0 by omega)
    have e2 : 0 ≤ q * (i / q) := Int.mul_nonneg (by omega) (Int.ediv_nonneg h0 (by omega))
    have e3 := Int.emod_def i q
    split <;> omega
  | .or a b, i, h, h0 => by
    have q1 := give_le h.1 h0
    have q2 := give_le h.2 h0
    rw [Tr.give_or]
    split <;> omega
  | .and a b, i, h, h0 => by
    have q1 := give_le h.1 h0
    have q2 := give_le h.2 h0
    rw [Tr.give_and]
    split <;> omega
/-! ### the drawn scale -/
theorem scale_text : ∀ n : Nat, n < 31 → PySem.intText? ("1" ++ Txt.mul "0" (n : Int)) = some (10 ^ n) ∧ (("1" : Str) ++ Txt.mul "0" (n : Int)).length ≤ 640 ∧ (Txt.mul "0" (n : Int)).length ≤ 100 := by decide +kernel
end Pk
set_option Elab.async false
set_option linter.all false
set_option maxRecDepth 100000
set_option maxHeartbeats 2000000
namespace Pk
open PySem PySem.Spec L2 PyProof.Rows
section
variable {K : PySem.W.Frag} {C : Cs} {vs : List V} {H H' G G' : Hp} {Q : VK} {E : XK} {n : Nat}
theorem Kp.free {b D : Addr} {ys : List V} (k : Kp b H G) (hb : G b = some (.lst ys)) (h : G D = none) : H D = none := by
  cases e : H D with
  | none => rfl
  | some o =>
    by_cases q : D = b
    · rw [q, hb] at h; cases h
    · rw [k D o e q] at h; cases h
theorem Kp.freeB {b l D : Addr} (k : Kp b H G) (B : Bag G b l) (h : G D = none) : H D = none := by
  obtain ⟨ys, hb⟩ := B.at
  exact k.free hb h
/-- scale = int('1' + '0' * take(bag, 31)) -/
theorem scale_asg {i j : Nat} {D : Ends} {σ : L2.St} {b l : Addr} (hv : σ[i]? = some (some (.ref b))) (B : Bag H b l) (k : ∀ sc H', 1 ≤ sc → sc ≤ 10 ^ 30 → Bag H' b l → Kp b H H' → D.nx (σ.set j (some (.int sc))) H') :
    tAsg (tCB (rIntU) (tCons (tOp (rAddU K) (tC (.str "1")) (tOp (rMulU K) (tC (.str "0")) (tCall (sp_law_take K) [] E0 (tCons (tVar i) (tCons (tC (.int 31)) tNil))))) tNil)) (gName j) D σ H := by
  refine ⟨_, hv, b, l, 31, rfl, B, by decide, by decide, fun e H2 e0 e1 B1 k1 => ?_⟩
  obtain ⟨m, rfl⟩ : ∃ m : Nat, e = (m : Int) := ⟨e.toNat, by omega⟩
  obtain ⟨q1, q2, q3⟩ := scale_text m (by omega)
  refine .inr (.inl ⟨_, _, rfl, rfl, by decide, by omega, by omega, .inr (.inl ⟨_, _, rfl, rfl, ?_, .inr ⟨_, _, rfl, q1, q2, ?_⟩⟩)⟩)
  · have e : ((Str.ofString "1").length) = 1 := rfl
    exact Nat.le_of_lt (small1000 (by omega))
  have sc1 : (1 : Int) ≤ 10 ^ m := Int.pow_pos (by decide)
  have sc2 : (10 : Int) ^ m ≤ 10 ^ 30 := by
    have h := Nat.pow_le_pow_right (n := 10) (by decide) (show m ≤ 30 by omega)
    exact_mod_cast h
  exact k _ _ sc1 sc2 B1 k1
/-! ### thresholds -/
def imin (i j : Int) : Int := if j < i then j else i
def Tr.top : Tr → Int
  | .at t q => imax t q
  | .or a b => imin (top a) (top b)
  | .and a b => imax (top a) (top b)
def Tr.by_ : Tr → List Int
  | .at _ q => [q]
  | .or a b => by_ a ++ by_ b
  | .and a b => by_ a ++ by_ b
theorem Tr.by_len : ∀ T : Tr, T.by_.length = T.lv
  | .at _ _ => rfl
  | .or a b => by show (by_ a ++ by_ b).length = _; rw [List.length_append, by_len a, by_len b]; rfl
  | .and a b => by show (by_ a ++ by_ b).length = _; rw [List.length_append, by_len a, by_len b]; rfl
theorem Tr.by_ok : ∀ {T : Tr}, T.ok → ∀ q ∈ T.by_, 1 ≤ q ∧ q ≤ 6
  | .at t q, h, i, hi => by
    obtain ⟨h1, h2, h3, h4⟩ := h
    rw [List.mem_singleton.mp hi]
    exact ⟨h3, h4⟩
  | .or a b, h, i, hi => (List.mem_append.mp hi).elim (by_ok h.1 i) (by_ok h.2 i)
  | .and a b, h, i, hi => (List.mem_append.mp hi).elim (by_ok h.1 i) (by_ok h.2 i)
theorem Tr.top_ok : ∀ {T : Tr}, T.ok → 1 ≤ T.top ∧ T.top ≤ 10 ^ 50
  | .at t q, h => by
    obtain ⟨h1, h2, h3, h4⟩ := h
    show 1 ≤ imax t q ∧ imax t q ≤ 10 ^ 50
    unfold imax
    split <;> omega
  | .or a b, h => by
    have h1 := top_ok h.1
    have h2 := top_ok h.2
    show 1 ≤ imin a.top b.top ∧ imin a.top b.top ≤ 10 ^ 50
    unfold imin
    split <;> omega
  | .and a b, h => by
    have h1 := top_ok h.1
    have h2 := top_ok h.2
    show 1 ≤ imax a.top b.top ∧ imax a.top b.top ≤ 10 ^ 50
    unfold imax
    split <;> omega
/-- [5]: what rests is below the threshold; nothing is given just below it -/
theorem Tr.rest_lt : ∀ {T : Tr} {i : Int}, T.ok → 0 ≤ i → i - T.give i < T.top ∧ (T.give i = 0 ↔ i < T.top)
  | .at t q, i, h, h0 => by
    obtain ⟨h1, h2, h3, h4⟩ := h
    have e1 := Int.emod_nonneg i (show q ≠ 0 by omega)
    have e2 := Int.emod_lt_of_pos i (show 0 < q by omega)
    have eg : (Tr.at t q).give i = if t ≤ i then i - i % q else 0 := rfl
    have et : (Tr.at t q).top = imax t q := rfl
    rw [eg, et]
    unfold imax
    by_cases c : t ≤ i
    · rw [if_pos c]
      have e3 : i < q → i % q = i := fun z => Int.emod_eq_of_lt h0 z
      constructor
      · split <;> omega
      · constructor
        · intro z
          split <;> omega
        · intro z
          split at z
          · have := e3 z; omega
          · omega
    · rw [if_neg c]
      constructor
      · split <;> omega
      · constructor
        · intro _
          split <;> omega
        · intro _; rfl
  | .or a b, i, h, h0 => by
    have q1 := rest_lt h.1 h0
    have q2 := rest_lt h.2 h0
    have g1 := Tr.give_le h.1 h0
    have g2 := Tr.give_le h.2 h0
    have et : (Tr.or a b).top = imin a.top b.top := rfl
    rw [Tr.give_or, et]
    unfold imin
    obtain ⟨r1, s1⟩ := q1
    obtain ⟨r2, s2⟩ := q2
    constructor
    · split <;> split <;> omega
    · constructor
      · intro z
        split at z <;> split <;> omega
      · intro z
        split at z <;> split <;> omega
  | .and a b, i, h, h0 => by
    have q1 := rest_lt h.1 h0
    have q2 := rest_lt h.2 h0
    have g1 := Tr.give_le h.1 h0
    have g2 := Tr.give_le h.2 h0
    have et : (Tr.and a b).top = imax a.top b.top := rfl
    rw [Tr.give_and, et]
    unfold imax
    obtain ⟨r1, s1⟩ := q1
    obtain ⟨r2, s2⟩ := q2
    constructor
    · split <;> split <;> omega
    · constructor
      · intro z
        split at z <;> split <;> omega
      · intro z
        split at z <;> split <;> omega
/-- from the threshold on a remainder by one of the multiples rests -/
theorem Tr.rest_by : ∀ {T : Tr} {i : Int}, T.ok → 0 ≤ i → T.top ≤ i → ∃ q ∈ T.by_, i - T.give i = i % q
  | .at t q, i, h, h0, hi => by
    obtain ⟨h1, h2, h3, h4⟩ := h
    have et : (Tr.at t q).top = imax t q := rfl
    have eg : (Tr.at t q).give i = if t ≤ i then i - i % q else 0 := rfl
    rw [et] at hi
    unfold imax at hi
    refine ⟨q, List.mem_singleton.mpr rfl, ?_⟩
    rw [eg, if_pos (by split at hi <;> omega)]
    omega
  | .or a b, i, h, h0, hi => by
    have q1 := rest_lt h.1 h0
    have q2 := rest_lt h.2 h0
    have g1 := Tr.give_le h.1 h0
    have g2 := Tr.give_le h.2 h0
    have et : (Tr.or a b).top = imin a.top b.top := rfl
    rw [et] at hi
    unfold imin at hi
    rw [Tr.give_or]
    have left : a.top ≤ i → ∃ q ∈ (Tr.or a b).by_, i - a.give i = i % q := fun z => by
      obtain ⟨q, m, e⟩ := rest_by h.1 h0 z
      exact ⟨q, List.mem_append_left _ m, e⟩
    have right : b.top ≤ i → ∃ q ∈ (Tr.or a b).by_, i - b.give i = i % q := fun z => by
      obtain ⟨q, m, e⟩ := rest_by h.2 h0 z
      exact ⟨q, List.mem_append_right _ m, e⟩
    obtain ⟨r1, s1⟩ := q1
    obtain ⟨r2, s2⟩ := q2
    by_cases c : b.give i > a.give i
    · rw [if_pos c]
      exact right (by omega)
    · rw [if_neg c]
      refine left ?_
      split at hi <;> omega
  | .and a b, i, h, h0, hi => by
    have g1 := Tr.give_le h.1 h0
    have g2 := Tr.give_le h.2 h0
    have et : (Tr.and a b).top = imax a.top b.top := rfl
    rw [et] at hi
    unfold imax at hi
    rw [Tr.give_and]
    by_cases c : b.give i < a.give i
    · rw [if_pos c]
      obtain ⟨q, m, e⟩ := rest_by h.2 h0 (show b.top ≤ i by split at hi <;> omega)
      exact ⟨q, List.mem_append_right _ m, e⟩
    · rw [if_neg c]
      obtain ⟨q, m, e⟩ := rest_by h.1 h0 (show a.top ≤ i by split at hi <;> omega)
      exact ⟨q, List.mem_append_left _ m, e⟩
def sp_threshold_of (K : PySem.W.Frag) (n : Nat) : Sp := fun vs H Q _ => ∃ v T, vs = [v] ∧ TrAt K H v T ∧ T.dp ≤ n ∧ Q (.int T.top) H
def t_threshold_of (K : PySem.W.Frag) (n : Nat) : TS :=
  (tSeq (tAsg (tVar 0) (gTup K 3 (gCons (gName 1) (gCons (gName 2) (gCons (gName 3) gNil)))))
    (tSeq (tIfS (tTest (tOp (rEqU K) (tVar 1) (tC (.str "at")))) (tRet (tCB (rMax2) (tCons (tVar 2) (tCons (tVar 3) tNil)))) tNext)
    (tSeq (tIfS (tTest (tOp (rEqU K) (tVar 1) (tC (.str "or")))) (tRet (tCB (rMin2) (tCons (tCall (sp_threshold_of K n) [] E0 (tCons (tVar 2) tNil)) (tCons (tCall (sp_threshold_of K n) [] E0 (tCons (tVar 3) tNil)) tNil)))) tNext)
    (tRet (tCB (rMax2) (tCons (tCall (sp_threshold_of K n) [] E0 (tCons (tVar 2) tNil)) (tCons (tCall (sp_threshold_of K n) [] E0 (tCons (tVar 3) tNil)) tNil)))))))
theorem no_threshold_of (h : sp_threshold_of K 0 vs H Q E) : False := by
  obtain ⟨_, T, _, _, h, _⟩ := h
  have := T.dp_pos
  omega
theorem ln_threshold_of (h : sp_threshold_of K n vs H Q E) : vs.length = 1 := by obtain ⟨_, _, rfl, _⟩ := h; rfl
theorem rd_threshold_of (h : sp_threshold_of K (n + 1) vs H Q E) : t_threshold_of K n (EndsOf Q) (start ["", "", "", ""] vs) H := by
  obtain ⟨v, T, rfl, hT, hd, k⟩ := h
  obtain ⟨a, w, x, y, rfl, s, cw⟩ := hT.tuple
  refine ⟨_, rfl, g3 s ?_⟩
  refine ⟨_, rfl, .inl ⟨rfl, _, rfl, ?_⟩⟩
  rcases cw with ⟨rfl, t, q, rfl, rfl, rfl⟩ | ⟨rfl, A, B, rfl, hA, hB⟩ | ⟨rfl, A, B, rfl, hA, hB⟩
  · refine ifS (fun _ => ?_) (fun z => absurd rfl z)
    exact ⟨_, rfl, _, rfl, _, _, rfl, k⟩
  · refine ifS (fun z => absurd z or_at) (fun _ => ?_)
    refine ⟨_, rfl, .inl ⟨rfl, _, rfl, ?_⟩⟩
    refine ifS (fun _ => ?_) (fun z => absurd rfl z)
    have hd' : max A.dp B.dp + 1 ≤ n + 1 := hd
    exact ⟨_, rfl, x, A, rfl, hA, by omega, _, rfl, y, B, rfl, hB, by omega, _, _, rfl, k⟩
  · refine ifS (fun z => absurd z and_at) (fun _ => ?_)
    refine ⟨_, rfl, .inl ⟨rfl, _, rfl, ?_⟩⟩
    refine ifS (fun z => absurd z and_or) (fun _ => ?_)
    have hd' : max A.dp B.dp + 1 ≤ n + 1 := hd
    exact ⟨_, rfl, x, A, rfl, hA, by omega, _, rfl, y, B, rfl, hB, by omega, _, _, rfl, k⟩
def sp_Rule_threshold (K : PySem.W.Frag) (C : Cs) : Sp := fun vs H Q _ => ∃ v T, vs = [v] ∧ RuleAt K C H v T ∧ Q (.int T.top) H
def t_Rule_threshold (K : PySem.W.Frag) : TS :=
  (tRet (tCall (sp_threshold_of K 7) [] E0 (tCons (tFld K (tVar 0) "_tree") tNil)))
theorem ln_Rule_threshold (h : sp_Rule_threshold K C vs H Q E) : vs.length = 1 := by obtain ⟨_, _, rfl, _⟩ := h; rfl
theorem rd_Rule_threshold (h : sp_Rule_threshold K C vs H Q E) : t_Rule_threshold K (EndsOf Q) (start [""] vs) H := by
  obtain ⟨v, T, rfl, ⟨a, dx, u, rfl, ha, hT, ok, l6, fx⟩, k⟩ := h
  exact ⟨_, rfl, a, _, dx, _, u, rfl, ha, fx.cl, fx.no, rfl, u, T, rfl, hT, Tr.dp6 l6, k⟩
def sp_law_threshold (K : PySem.W.Frag) (n : Nat) : Sp := fun vs H Q _ => ∃ v T, vs = [v] ∧ TrAt K H v T ∧ T.dp ≤ n ∧ ∀ H', Same H H' → Q (.int T.top) H'
def t_law_threshold (K : PySem.W.Frag) (n : Nat) : TS :=
  (tSeq (tAsg (tVar 0) (gTup K 3 (gCons (gName 1) (gCons (gName 2) (gCons (gName 3) gNil)))))
    (tSeq (tIfS (tTest (tOp (rEqU K) (tVar 1) (tC (.str "at")))) (tRet (tCB (rMax2) (tCons (tVar 2) (tCons (tVar 3) tNil)))) tNext)
    (tSeq (tAsg (tLst (tCons (tCall (sp_law_threshold K n) [] E0 (tCons (tVar 2) tNil)) (tCons (tCall (sp_law_threshold K n) [] E0 (tCons (tVar 3) tNil)) tNil))) (gName 4))
    (tRet (tIf (tTest (tOp (rEqU K) (tVar 1) (tC (.str "or")))) (tCB (rMin K) (tCons (tVar 4) tNil)) (tCB (rMax K) (tCons (tVar 4) tNil)))))))
theorem no_law_threshold (h : sp_law_threshold K 0 vs H Q E) : False := by
  obtain ⟨_, T, _, _, h, _⟩ := h
  have := T.dp_pos
  omega
theorem ln_law_threshold (h : sp_law_threshold K n vs H Q E) : vs.length = 1 := by obtain ⟨_, _, rfl, _⟩ := h; rfl
theorem two_max {x y m : Int} (hm : m ∈ [x, y]) (hy : ∀ z, z ∈ [x, y] → z ≤ m) : m = imax x y := by
  have h1 := hy x (List.mem_cons_self ..)
  have h2 := hy y (List.mem_cons_of_mem _ (List.mem_cons_self ..))
  unfold imax
  rcases List.mem_cons.mp hm with rfl | hm
  · split <;> omega
  · have := List.mem_singleton.mp hm
    split <;> omega
theorem two_min {x y m : Int} (hm : m ∈ [x, y]) (hy : ∀ z, z ∈ [x, y] → m ≤ z) : m = imin x y := by
  have h1 := hy x (List.mem_cons_self ..)
  have h2 := hy y (List.mem_cons_of_mem _ (List.mem_cons_self ..))
  unfold imin
  rcases List.mem_cons.mp hm with rfl | hm
  · split <;> omega
  · have := List.mem_singleton.mp hm
    split <;> omega
theorem rd_law_threshold (h : sp_law_threshold K (n + 1) vs H Q E) : t_law_threshold K n (EndsOf Q) (start ["", "", "", "", ""] vs) H := by
  obtain ⟨v, T, rfl, hT, hd, k⟩ := h
  obtain ⟨a, w, x, y, rfl, s, cw⟩ := hT.tuple
  refine ⟨_, rfl, g3 s ?_⟩
  refine ⟨_, rfl, .inl ⟨rfl, _, rfl, ?_⟩⟩
  rcases cw with ⟨rfl, t, q, rfl, rfl, rfl⟩ | ⟨rfl, A, B, rfl, hA, hB⟩ | ⟨rfl, A, B, rfl, hA, hB⟩
  · refine ifS (fun _ => ?_) (fun z => absurd rfl z)
    exact ⟨_, rfl, _, rfl, _, _, rfl, k H (Same.refl H)⟩
  · refine ifS (fun z => absurd z or_at) (fun _ => ?_)
    have hd' : max A.dp B.dp + 1 ≤ n + 1 := hd
    refine ⟨_, rfl, x, A, rfl, hA, by omega, fun H1 s1 => ⟨_, rfl, y, B, rfl, hB.mono (Tups.same s1), by omega, fun H2 s2 => ⟨two_fit.2.1, fun p hp => ?_⟩⟩⟩
    refine ⟨_, rfl, .inl ⟨rfl, _, rfl, ?_⟩⟩
    refine ifS (fun _ => ?_) (fun z => absurd rfl z)
    refine ⟨_, rfl, p, [A.top, B.top], rfl, SqL.of upd_same, Nat.succ_pos _, fun m hm hy => ?_⟩
    rw [two_min hm hy]
    exact k _ ((s1.trans s2).trans (same_new hp))
  · refine ifS (fun z => absurd z and_at) (fun _ => ?_)
    have hd' : max A.dp B.dp + 1 ≤ n + 1 := hd
    refine ⟨_, rfl, x, A, rfl, hA, by omega, fun H1 s1 => ⟨_, rfl, y, B, rfl, hB.mono (Tups.same s1), by omega, fun H2 s2 => ⟨two_fit.2.1, fun p hp => ?_⟩⟩⟩
    refine ⟨_, rfl, .inl ⟨rfl, _, rfl, ?_⟩⟩
    refine ifS (fun z => absurd z and_or) (fun _ => ?_)
    refine ⟨_, rfl, p, [A.top, B.top], rfl, SqL.of upd_same, Nat.succ_pos _, fun m hm hy => ?_⟩
    rw [two_max hm hy]
    exact k _ ((s1.trans s2).trans (same_new hp))
def sp_law_parts_of (K : PySem.W.Frag) (n : Nat) : Sp := fun vs H Q _ => ∃ v T, vs = [v] ∧ TrAt K H v T ∧ T.dp ≤ n ∧ T.lv ≤ 100 ∧ ∀ p H', H p = none → Same H H' → H' p = some (.lst (T.by_.map V.int)) → Q (.ref p) H'
def t_law_parts_of (K : PySem.W.Frag) (n : Nat) : TS :=
  (tSeq (tAsg (tVar 0) (gTup K 3 (gCons (gName 1) (gCons (gName 2) (gCons (gName 3) gNil)))))
    (tRet (tIf (tTest (tOp (rEqU K) (tVar 1) (tC (.str "at")))) (tLst (tCons (tVar 3) tNil)) (tOp (rAddU K) (tCall (sp_law_parts_of K n) [] E0 (tCons (tVar 2) tNil)) (tCall (sp_law_parts_of K n) [] E0 (tCons (tVar 3) tNil))))))
theorem no_law_parts_of (h : sp_law_parts_of K 0 vs H Q E) : False := by
  obtain ⟨_, T, _, _, h, _⟩ := h
  have := T.dp_pos
  omega
theorem ln_law_parts_of (h : sp_law_parts_of K n vs H Q E) : vs.length = 1 := by obtain ⟨_, _, rfl, _⟩ := h; rfl
theorem rd_law_parts_of (h : sp_law_parts_of K (n + 1) vs H Q E) : t_law_parts_of K n (EndsOf Q) (start ["", "", "", ""] vs) H := by
  obtain ⟨v, T, rfl, hT, hd, hl, k⟩ := h
  obtain ⟨a, w, x, y, rfl, s, cw⟩ := hT.tuple
  refine ⟨_, rfl, g3 s ?_⟩
  refine ⟨_, rfl, .inl ⟨rfl, _, rfl, ?_⟩⟩
  have two : ∀ {A B : Tr}, T.by_ = A.by_ ++ B.by_ → T.lv = A.lv + B.lv → max A.dp B.dp + 1 ≤ n + 1 → TrAt K H x A → TrAt K H y B →
      tOp (rAddU K) (tCall (sp_law_parts_of K n) [] E0 (tCons (tVar 2) tNil)) (tCall (sp_law_parts_of K n) [] E0 (tCons (tVar 3) tNil)) [some (.ref a), some (.str w), some x, some y] H Q := by
    intro A B e1 e2 hd' hA hB
    refine ⟨_, rfl, x, A, rfl, hA, by omega, by omega, fun p H1 hp s1 h1 => ?_⟩
    refine ⟨_, rfl, y, B, rfl, hB.mono (Tups.same s1), by omega, by omega, fun p2 H2 hp2 s2 h2 => ?_⟩
    refine .inr (.inr (.inl ⟨p, p2, _, _, rfl, rfl, s2 _ _ h1, h2, ?_, fun r hr => ?_⟩))
    · rw [List.length_map, List.length_map, A.by_len, B.by_len]
      exact Nat.le_of_lt (small1000 (by omega))
    · refine k r _ ((s1.trans s2).free hr) ((s1.trans s2).trans (same_new hr)) ?_
      rw [upd_same, e1, List.map_append]
  rcases cw with ⟨rfl, t, q, rfl, rfl, rfl⟩ | ⟨rfl, A, B, rfl, hA, hB⟩ | ⟨rfl, A, B, rfl, hA, hB⟩
  · refine ifS (fun _ => ?_) (fun z => absurd rfl z)
    exact ⟨_, rfl, two_fit.1, fun p hp => k p _ hp (same_new hp) upd_same⟩
  · refine ifS (fun z => absurd z or_at) (fun _ => ?_)
    exact two rfl rfl hd hA hB
  · refine ifS (fun z => absurd z and_at) (fun _ => ?_)
    exact two rfl rfl hd hA hB
theorem inV_int {r : Int} {ns : List Int} (h : r ∈ ns) : inV (.int r) (ns.map V.int) = true := by
  unfold inV
  rw [List.any_map]
  exact List.any_eq_true.mpr ⟨r, h, by show (r == r) = true; exact beq_self_eq_true r⟩
theorem flat_ints (ns : List Int) : (ns.map V.int).all flatV = true := by
  induction ns with
  | nil => rfl
  | cons x r ih => exact ih
end
end Pk
set_option Elab.async false
set_option linter.all false
set_option maxRecDepth 100000
set_option maxHeartbeats 2000000
namespace Pk
open PySem PySem.Spec L2 PyProof.Rows
/-! ### amounts of one size, one after another -/
/-- what is withheld behind so many amounts of size z -/
def Tr.kp (T : Tr) (z w : Int) : Nat → Int
  | 0 => w
  | n + 1 => (kp T z w n + z) - T.give (kp T z w n + z)
/-- the greatest that is withheld ahead of one of them -/
def Tr.pk (T : Tr) (z w : Int) : Nat → Int
  | 0 => 0
  | n + 1 => max (pk T z w n) (kp T z w n)
section
variable {T : Tr} {z w : Int}
theorem Tr.kp_s (n : Nat) : T.kp z w (n + 1) = (T.kp z w n + z) - T.give (T.kp z w n + z) := rfl
theorem Tr.pk_s (n : Nat) : T.pk z w (n + 1) = max (T.pk z w n) (T.kp z w n) := rfl
theorem Tr.kp_add (n : Nat) : ∀ m : Nat, T.kp z w (n + m) = T.kp z (T.kp z w n) m
  | 0 => rfl
  | m + 1 => by
    show (T.kp z w (n + m) + z) - T.give (T.kp z w (n + m) + z) = _
    rw [kp_add n m]
    rfl
theorem Tr.pk_nn : ∀ n : Nat, 0 ≤ T.pk z w n
  | 0 => Int.le_refl _
  | n + 1 => by
    have := pk_nn n
    show 0 ≤ max (T.pk z w n) (T.kp z w n)
    omega
theorem Tr.pk_add (n : Nat) : ∀ m : Nat, T.pk z w (n + m) = max (T.pk z w n) (T.pk z (T.kp z w n) m)
  | 0 => by
    have := Tr.pk_nn (T := T) (z := z) (w := w) n
    show T.pk z w n = max (T.pk z w n) 0
    omega
  | m + 1 => by
    show max (T.pk z w (n + m)) (T.kp z w (n + m)) = max (T.pk z w n) (max (T.pk z (T.kp z w n) m) (T.kp z (T.kp z w n) m))
    rw [pk_add n m, Tr.kp_add]
    omega
theorem Tr.kp_ok (ok : T.ok) (z1 : 1 ≤ z) (w0 : 0 ≤ w) (w1 : w < T.top) : ∀ n : Nat, 0 ≤ T.kp z w n ∧ T.kp z w n < T.top
  | 0 => ⟨w0, w1⟩
  | n + 1 => by
    obtain ⟨h1, h2⟩ := kp_ok ok z1 w0 w1 n
    have g := Tr.give_le ok (show 0 ≤ T.kp z w n + z by omega)
    have r := Tr.rest_lt ok (show 0 ≤ T.kp z w n + z by omega)
    rw [Tr.kp_s]
    omega
theorem Tr.pk_lt (ok : T.ok) (z1 : 1 ≤ z) (w0 : 0 ≤ w) (w1 : w < T.top) : ∀ n : Nat, T.pk z w n < T.top
  | 0 => by
    show 0 < T.top
    omega
  | n + 1 => by
    have h := pk_lt ok z1 w0 w1 n
    have h2 := Tr.kp_ok ok z1 w0 w1 n
    rw [Tr.pk_s]
    omega
theorem Tr.kp_le (ok : T.ok) (z1 : 1 ≤ z) (w0 : 0 ≤ w) : ∀ n : Nat, 0 ≤ T.kp z w n ∧ T.kp z w n ≤ w + n * z
  | 0 => by
    show 0 ≤ w ∧ w ≤ w + 0 * z
    omega
  | n + 1 => by
    obtain ⟨h1, h2⟩ := kp_le ok z1 w0 n
    have g := Tr.give_le ok (show 0 ≤ T.kp z w n + z by omega)
    rw [Tr.kp_s, Int.natCast_add, Int.add_mul]
    omega
theorem Tr.kp_few (ok : T.ok) (z1 : 1 ≤ z) (w0 : 0 ≤ w) : ∀ n : Nat, w + (n : Int) * z < T.top → T.kp z w n = w + n * z ∧ T.pk z w (n + 1) = w + n * z
  | 0, h => by
    show w = w + 0 * z ∧ max 0 w = w + 0 * z
    omega
  | n + 1, h => by
    have e : ((n + 1 : Nat) : Int) * z = n * z + z := by rw [Int.natCast_add, Int.add_mul]; omega
    have nz : 0 ≤ (n : Int) * z := Int.mul_nonneg (by omega) (by omega)
    rw [e] at h ⊢
    obtain ⟨h1, h2⟩ := kp_few ok z1 w0 n (by omega)
    have r := (Tr.rest_lt ok (show 0 ≤ w + n * z + z by omega)).2.mpr (by omega)
    have e1 : T.kp z w (n + 1) = w + (n * z + z) := by
      rw [Tr.kp_s, h1, r]
      omega
    refine ⟨e1, ?_⟩
    rw [Tr.pk_s, h2, e1]
    omega
theorem Tr.kp_loop {d : Nat} (h : T.kp z w d = w) : ∀ t : Nat, T.kp z w (t * d) = w ∧ T.pk z w (t * d) ≤ T.pk z w d
  | 0 => by
    have := Tr.pk_nn (T := T) (z := z) (w := w) d
    rw [Nat.zero_mul]
    exact ⟨rfl, this⟩
  | t + 1 => by
    obtain ⟨h1, h2⟩ := kp_loop h t
    rw [Nat.succ_mul, Tr.kp_add, Tr.pk_add, h1, h]
    omega
end
/-- how many amounts, until the rule gives -/
theorem steps_ok {a z : Int} (h : 1 ≤ a) (z1 : 1 ≤ z) : 1 ≤ (a + z - 1) / z ∧ a ≤ (a + z - 1) / z * z ∧ ((a + z - 1) / z - 1) * z < a ∧ (a + z - 1) / z ≤ a + z - 1 := by
  have e := Int.emod_def (a + z - 1) z
  have r0 := Int.emod_nonneg (a + z - 1) (show z ≠ 0 by omega)
  have r1 := Int.emod_lt_of_pos (a + z - 1) (show 0 < z by omega)
  have s := Int.ediv_le_self z (show 0 ≤ a + z - 1 by omega)
  generalize (a + z - 1) / z = q at *
  have e2 : z * q = q * z := Int.mul_comm _ _
  have e3 : (q - 1) * z = q * z - z := by rw [Int.sub_mul]; omega
  refine ⟨?_, by omega, by omega, s⟩
  by_cases c : 1 ≤ q
  · exact c
  · have : q * z ≤ 0 := Int.mul_nonpos_of_nonpos_of_nonneg (by omega) (by omega)
    omega
theorem mul_ok {i j : Int} (h1 : i.natAbs ≤ 10 ^ 100) (h2 : j.natAbs ≤ 10 ^ 100) : CMul i j ∨ CMulW i j := by
  have z2 : (10 : Nat) ^ 100 < 2 ^ 1000 := by decide +kernel
  exact .inr (wide_mul (a := 1000) (b := 1000) (by omega) (by omega) (by decide) (by decide) (by decide))
/-- where the loop stands, by numbers alone -/
structure Rp (T : Tr) (z w : Int) (M L : Nat) (c t p : Int) : Prop where
  c0 : 0 ≤ c
  c1 : c < T.top
  p0 : 0 ≤ p
  le : L ≤ M
  kp : T.kp z w M = T.kp z c L
  tot : w + M * z = t + c + L * z
  pk : max w (T.pk z w M) = max p (T.pk z c L)
section
variable {T : Tr} {z w : Int} {M L : Nat} {c t p : Int}
theorem Rp.give (R : Rp T z w M L c t p) (ok : T.ok) (z1 : 1 ≤ z) {n : Nat} (h1 : c + n * z < T.top) (hL : n + 1 ≤ L) {c' : Int} (hc : c' = c + ((n + 1 : Nat) : Int) * z - T.give (c + ((n + 1 : Nat) : Int) * z)) :
    c' = T.kp z c (n + 1) ∧ T.pk z c (n + 1) = c + n * z ∧ Rp T z w M (L - (n + 1)) c' (t + (c + ((n + 1 : Nat) : Int) * z) - c') (max p (c + n * z)) := by
  obtain ⟨q1, q2⟩ := Tr.kp_few ok z1 R.c0 n h1
  have e : ((n + 1 : Nat) : Int) * z = n * z + z := by rw [Int.natCast_add, Int.add_mul]; omega
  have ec : c' = T.kp z c (n + 1) := by
    rw [Tr.kp_s, q1, hc, e, ← Int.add_assoc]
  obtain ⟨b0, b1⟩ := Tr.kp_ok ok z1 R.c0 R.c1 (n + 1)
  have el : ((L - (n + 1) : Nat) : Int) * z = L * z - ((n + 1 : Nat) : Int) * z := by
    rw [Int.ofNat_sub hL, Int.sub_mul]
  have sp : L = (n + 1) + (L - (n + 1)) := by omega
  refine ⟨ec, q2, ⟨by omega, by omega, ?_, by have := R.le; omega, ?_, ?_, ?_⟩⟩
  · have := R.p0; omega
  · rw [R.kp, ec, ← Tr.kp_add, ← sp]
  · have := R.tot
    rw [el]
    omega
  · rw [R.pk, ec]
    have h : T.pk z c L = max (T.pk z c (n + 1)) (T.pk z (T.kp z c (n + 1)) (L - (n + 1))) := by
      rw [← Tr.pk_add, ← sp]
    rw [h, q2]
    omega
theorem Rp.skip (R : Rp T z w M L c t p) {d : Nat} (hk : T.kp z c d = c) (hp : T.pk z c d ≤ p) (d1 : 1 ≤ d) : Rp T z w M (L - L / d * d) c (t + (((L / d * d : Nat) : Int)) * z) p := by
  have le : L / d * d ≤ L := Nat.div_mul_le_self L d
  obtain ⟨h1, h2⟩ := Tr.kp_loop hk (L / d)
  have sp : L = L / d * d + (L - L / d * d) := by omega
  refine ⟨R.c0, R.c1, R.p0, by have := R.le; omega, ?_, ?_, ?_⟩
  · have h : T.kp z c L = T.kp z (T.kp z c (L / d * d)) (L - L / d * d) := by rw [← Tr.kp_add, ← sp]
    rw [R.kp, h, h1]
  · have := R.tot
    rw [Int.ofNat_sub le, Int.sub_mul]
    omega
  · have h : T.pk z c L = max (T.pk z c (L / d * d)) (T.pk z (T.kp z c (L / d * d)) (L - L / d * d)) := by rw [← Tr.pk_add, ← sp]
    have := Tr.pk_nn (T := T) (z := z) (w := c) (L - L / d * d)
    rw [R.pk, h, h1]
    omega
end
/-! ### what was seen -/
def Seen (lo : Nat) (K : PySem.W.Frag) (T : Tr) (z : Int) (G : Hp) (kvs : List (Key × V)) (L : Nat) (c t p : Int) : Prop :=
  ∀ i v, valV kvs (.inl i) = some v → ∃ (a : Addr) (l' t' : Int) (e : Nat), v = .ref a ∧ SqT K G a [.int l', .int t'] ∧ l' = (L : Int) + e ∧ T.kp z i e = c ∧ i + e * z = t - t' + c ∧ T.pk z i e ≤ p ∧ lo ≤ e ∧ l' ≤ 10 ^ 40
section
variable {K : PySem.W.Frag} {T : Tr} {z w : Int} {M L : Nat} {c t p : Int} {G G' : Hp} {kvs : List (Key × V)}
theorem Seen.weak {lo : Nat} (S : Seen lo K T z G kvs L c t p) : Seen 0 K T z G kvs L c t p := fun i v h => by
  obtain ⟨a, l', t', e, h1, h2, h3, h4, h5, h6, h7, h8⟩ := S i v h
  exact ⟨a, l', t', e, h1, h2, h3, h4, h5, h6, Nat.zero_le _, h8⟩
theorem Seen.mono {lo : Nat} (S : Seen lo K T z G kvs L c t p) (s : Tups K G G') : Seen lo K T z G' kvs L c t p := fun i v h => by
  obtain ⟨a, l', t', e, h1, h2, r⟩ := S i v h
  exact ⟨a, l', t', e, h1, s _ _ h2, r⟩
/-- from here so many amounts on -/
theorem Seen.go {lo : Nat} (S : Seen lo K T z G kvs L c t p) {n : Nat} {c' t' p' : Int} (hL : n ≤ L) (hc : c' = T.kp z c n) (hp : p ≤ p') (hp2 : T.pk z c n ≤ p') (ht : c + n * z = t' - t + c') : Seen n K T z G kvs (L - n) c' t' p' := fun i v h => by
  obtain ⟨a, l', t0, e, h1, h2, h3, h4, h5, h6, h7, h8⟩ := S i v h
  refine ⟨a, l', t0, e + n, h1, h2, by omega, ?_, ?_, ?_, by omega, h8⟩
  · rw [Tr.kp_add, h4, hc]
  · rw [Int.natCast_add, Int.add_mul]
    omega
  · rw [Tr.pk_add, h4]
    omega
theorem Seen.put (S : Seen 0 K T z G kvs L c t p) (hp : 0 ≤ p) (hL : (L : Int) ≤ 10 ^ 40) {a : Addr} (ha : SqT K G a [.int L, .int t]) : Seen 0 K T z G (putK kvs (.inl c) (.ref a)) L c t p := fun i v h => by
  rw [valV_put] at h
  by_cases e : i = c
  · subst e
    rw [if_pos rfl] at h
    cases h
    exact ⟨a, L, t, 0, rfl, ha, by omega, rfl, by omega, hp, Nat.le_refl _, hL⟩
  · rw [if_neg (fun z => e (Sum.inl.inj z))] at h
    exact S i v h
def bit (o : Option V) : Nat := if o.isSome = true then 1 else 0
def cnt (kvs : List (Key × V)) : Nat := bit (valV kvs (.inl 0)) + bit (valV kvs (.inl 1)) + bit (valV kvs (.inl 2)) + bit (valV kvs (.inl 3)) + bit (valV kvs (.inl 4)) + bit (valV kvs (.inl 5))
theorem bit_le (o : Option V) : bit o ≤ 1 := by unfold bit; split <;> omega
theorem cnt_le (kvs : List (Key × V)) : cnt kvs ≤ 6 := by
  unfold cnt
  have h0 := bit_le (valV kvs (.inl 0))
  have h1 := bit_le (valV kvs (.inl 1))
  have h2 := bit_le (valV kvs (.inl 2))
  have h3 := bit_le (valV kvs (.inl 3))
  have h4 := bit_le (valV kvs (.inl 4))
  have h5 := bit_le (valV kvs (.inl 5))
  omega
theorem cnt_put {v : V} (h : valV kvs (.inl c) = none) (h0 : 0 ≤ c) (h1 : c < 6) (hl : kvs.length ≤ cnt kvs) : (putK kvs (.inl c) v).length ≤ cnt (putK kvs (.inl c) v) := by
  have e : (putK kvs (.inl c) v).length = kvs.length + 1 := by rw [putK_new v h, List.length_append]; rfl
  have b : ∀ j : Int, bit (valV (putK kvs (.inl c) v) (.inl j)) = if j = c then 1 else bit (valV kvs (.inl j)) := fun j => by
    rw [valV_put]
    by_cases q : j = c
    · rw [if_pos q, if_pos (congrArg Sum.inl q)]; rfl
    · rw [if_neg q, if_neg (fun z => q (Sum.inl.inj z))]
  have n : bit (valV kvs (.inl c)) = 0 := by rw [h]; rfl
  rw [e]
  unfold cnt at hl ⊢
  rw [b, b, b, b, b, b]
  rcases (by omega : c = 0 ∨ c = 1 ∨ c = 2 ∨ c = 3 ∨ c = 4 ∨ c = 5) with rfl | rfl | rfl | rfl | rfl | rfl <;> (simp only [if_true, reduceIte, Int.reduceEq] ; omega)
end
section
variable {K : PySem.W.Frag} {C : Cs} {vs : List V} {H H' G G' : Hp} {Q : VK} {E : XK} {n : Nat}
theorem g2 {i j : Nat} {a : Addr} {σ : L2.St} {R : L2.St → Hp → Prop} {x y : V} (s : SqT K H a [x, y]) (h : R ((σ.set i (some x)).set j (some y)) H) :
    gTup K 2 (gCons (gName i) (gCons (gName j) gNil)) (.ref a) σ H R := ⟨a, _, rfl, s, rfl, _, _, rfl, _, _, rfl, rfl, h⟩
def sp_steps_to_give (K : PySem.W.Frag) (C : Cs) : Sp := fun vs H Q _ => ∃ u T w z, vs = [u, .int w, .int z] ∧ RuleAt K C H u T ∧ 1 ≤ z ∧ z ≤ 10 ^ 40 ∧ Q (.int ((T.top - w + z - 1) / z)) H
def t_steps_to_give (K : PySem.W.Frag) (C : Cs) : TS :=
  (tRet (tOp (rDivI) (tOp (rSubI) (tOp (rAddU K) (tOp (rSubI) (tProp C.Rule (sp_Rule_threshold K C) [] E0 (tVar 0)) (tVar 1)) (tVar 2)) (tC (.int 1))) (tVar 2)))
theorem ln_steps_to_give (h : sp_steps_to_give K C vs H Q E) : vs.length = 3 := by obtain ⟨_, _, _, _, rfl, _⟩ := h; rfl
theorem rd_steps_to_give (h : sp_steps_to_give K C vs H Q E) : t_steps_to_give K C (EndsOf Q) (start ["", "", ""] vs) H := by
  obtain ⟨u, T, w, z, rfl, R, z1, z2, k⟩ := h
  obtain ⟨ua, ud, uu, rfl, hu1, _⟩ := id R
  refine ⟨_, rfl, ua, ud, _, rfl, hu1, _, T, rfl, R, _, rfl, _, _, rfl, rfl, _, rfl, .inl ⟨_, _, rfl, rfl, _, _, rfl, rfl, _, rfl, _, _, rfl, rfl, div_ok (by omega) (by omega), k⟩⟩
def sp_repeated (K : PySem.W.Frag) (C : Cs) : Sp := fun vs H Q _ => ∃ u T w z m, vs = [u, .int w, .int z, .int m] ∧ RuleAt K C H u T ∧ 0 ≤ w ∧ w < T.top ∧ 1 ≤ z ∧ z ≤ 10 ^ 40 ∧ 0 ≤ m ∧ m ≤ 10 ^ 40 ∧
  ∀ p H', H p = none → Same H H' → SqT K H' p [.int (T.kp z w m.toNat), .int (w + m * z - T.kp z w m.toNat), .int (max w (T.pk z w m.toNat))] → Q (.ref p) H'
def t_repeated (K : PySem.W.Frag) (C : Cs) : TS :=
  (tSeq (tAsg tDNewK (gName 4))
    (tSeq (tPar3 5 6 7 (tCons (tVar 3) (tCons (tC (.int 0)) (tCons (tVar 1) tNil))))
    (tSeq (tAsg (tCall (sp_steps_to_give K C) [] E0 (tCons (tVar 0) (tCons (tVar 1) (tCons (tVar 2) tNil)))) (gName 8))
    (tSeq (tWhile (tTest (tOp (rGeI) (tVar 5) (tVar 8))) (tSeq (tAsg (tCB (rMax2) (tCons (tVar 7) (tCons (tOp (rAddU K) (tVar 1) (tOp (rMulU K) (tOp (rSubI) (tVar 8) (tC (.int 1))) (tVar 2))) tNil))) (gName 7))
    (tSeq (tAsg (tOp (rAddU K) (tVar 1) (tOp (rMulU K) (tVar 8) (tVar 2))) (gName 9))
    (tSeq (tAsg (tMeth C.Rule "rest" (sp_Rule_rest K C) [] E0 (tVar 0) (tCons (tVar 9) tNil)) (gName 1))
    (tSeq (tPar 5 6 (tCons (tOp (rSubI) (tVar 5) (tVar 8)) (tCons (tOp (rSubI) (tOp (rAddU K) (tVar 6) (tVar 9)) (tVar 1)) tNil)))
    (Evl.tCut (tIfS (tB (tDIn (tVar 1) (tVar 4))) (tSeq (tAsg (tDGet (tVar 4) (tVar 1)) (gTup K 2 (gCons (gName 10) (gCons (gName 11) gNil))))
    (tSeq (tAsg (tOp (rDivI) (tVar 5) (tOp (rSubI) (tVar 10) (tVar 5))) (gName 12))
    (tPar 5 6 (tCons (tOp (rSubI) (tVar 5) (tOp (rMulU K) (tVar 12) (tOp (rSubI) (tVar 10) (tVar 5)))) (tCons (tOp (rAddU K) (tVar 6) (tOp (rMulU K) (tVar 12) (tOp (rSubI) (tVar 6) (tVar 11)))) tNil))))) (tAsg (tTup (tCons (tVar 5) (tCons (tVar 6) tNil))) (gSub (tVar 4) (tVar 1) rSetD)))
    (tAsg (tCall (sp_steps_to_give K C) [] E0 (tCons (tVar 0) (tCons (tVar 1) (tCons (tVar 2) tNil)))) (gName 8))))))))
    (Evl.tCut (tIfS (tTest (tOp (rGtI) (tVar 5) (tC (.int 0)))) (tAsg (tCB (rMax2) (tCons (tVar 7) (tCons (tOp (rAddU K) (tVar 1) (tOp (rMulU K) (tOp (rSubI) (tVar 5) (tC (.int 1))) (tVar 2))) tNil))) (gName 7)) tNext)
    (tRet (tTup (tCons (tOp (rAddU K) (tVar 1) (tOp (rMulU K) (tVar 5) (tVar 2))) (tCons (tVar 6) (tCons (tVar 7) tNil))))))))))
theorem ln_repeated (h : sp_repeated K C vs H Q E) : vs.length = 4 := by obtain ⟨_, _, _, _, _, rfl, _⟩ := h; rfl
theorem other_same {D : Addr} {o : HO} (s : Same H G) (h : H D = none) : Same H (upd G D o) := fun b u q => by
  rw [upd_ne (ne_of_none q h)]
  exact s b u q
theorem dk_tups {D : Addr} {o : HO} {kvs : List (Key × V)} (h : G D = some (.dK kvs)) : Tups K G (upd G D o) := Tups.put h (fun _ z => nomatch z) fun _ _ z => nomatch z
theorem imax_eq (i j : Int) : (if j > i then j else i) = max i j := by
  split <;> omega
theorem rd_repeated (h : sp_repeated K C vs H Q E) : t_repeated K C (EndsOf Q) (start ["", "", "", "", "", "", "", "", "", "", "", "", ""] vs) H := by
  obtain ⟨u, T, w, z, m, rfl, R, w0, w1, z1, z2, m0, m2, k⟩ := h
  obtain ⟨M, rfl⟩ : ∃ M : Nat, m = M := ⟨m.toNat, by omega⟩
  obtain ⟨ua, ud, uu, rfl, hu1, hT, ok, l6, fx⟩ := id R
  obtain ⟨t1, t2⟩ := Tr.top_ok ok
  refine fun D hD => ⟨_, rfl, _, rfl, _, _, _, rfl, ?_⟩
  have s1 := same_new (o := .dK []) hD
  refine ⟨_, rfl, _, rfl, _, rfl, .ref ua, T, w, z, rfl, R.same s1, z1, z2, ?_⟩
  refine ⟨fun mm σ' G => ∃ (L : Nat) (c t p : Int) (kvs : List (Key × V)) (s9 s10 s11 s12 : Option V), σ' = [some (.ref ua), some (.int c), some (.int z), some (.int M), some (.ref D), some (.int L), some (.int t), some (.int p), some (.int ((T.top - c + z - 1) / z)), s9, s10, s11, s12] ∧
    L = mm ∧ Same H G ∧ G D = some (.dK kvs) ∧ kvs.length ≤ cnt kvs ∧ Rp T z w M L c t p ∧ Seen 0 K T z G kvs L c t p,
    ⟨_, M, w, 0, w, [], none, none, none, none, rfl, rfl, s1, upd_same, Nat.zero_le _, ⟨w0, w1, w0, Nat.le_refl _, rfl, by omega, rfl⟩, fun i v h => nomatch h⟩, ?_⟩
  clear s1
  rintro mm σ' G ⟨L, c, t, p, kvs, s9, s10, s11, s12, rfl, rfl, s, hG, hl, P, S⟩
  obtain ⟨q1, q2, q3, q4⟩ := steps_ok (a := T.top - c) (z := z) (by have := P.c1; omega) z1
  have c0 := P.c0
  have c1 := P.c1
  have lM := P.le
  have hM : (M : Int) ≤ 10 ^ 40 := m2
  have lims : (10 : Int) ^ 50 + 10 ^ 40 ≤ 10 ^ 100 := by decide
  refine ⟨_, rfl, _, rfl, _, _, rfl, rfl, _, rfl, ?_⟩
  generalize hS : (T.top - c + z - 1) / z = S0 at q1 q2 q3 q4 ⊢
  refine ifD (fun cc => ?_) (fun cc => ?_)
  · -- it gives, once
    obtain ⟨n, rfl⟩ : ∃ n : Nat, S0 = ((n + 1 : Nat) : Int) := ⟨S0.toNat - 1, by omega⟩
    have en : ((n + 1 : Nat) : Int) - 1 = (n : Int) := by omega
    rw [en] at q3
    have am0 : 0 ≤ c + ((n + 1 : Nat) : Int) * z := by
      have : 0 ≤ ((n + 1 : Nat) : Int) * z := Int.mul_nonneg (by omega) (by omega)
      omega
    obtain ⟨r1, r2⟩ := Tr.rest_lt ok am0
    obtain ⟨g1, g2'⟩ := Tr.give_le ok am0
    obtain ⟨e1, e2, P1⟩ := P.give ok z1 (n := n) (by omega) (by omega) rfl
    have S1 := S.go (n := n + 1) (c' := c + ((n + 1 : Nat) : Int) * z - T.give (c + ((n + 1 : Nat) : Int) * z)) (t' := t + (c + ((n + 1 : Nat) : Int) * z) - (c + ((n + 1 : Nat) : Int) * z - T.give (c + ((n + 1 : Nat) : Int) * z))) (p' := max p (c + n * z)) (by omega) e1 (by omega) (by omega) (by omega)
    obtain ⟨by1, by2, by3⟩ := Tr.rest_by ok am0 (by omega)
    obtain ⟨by4, by5⟩ := Tr.by_ok ok _ by2
    have small : c + ((n + 1 : Nat) : Int) * z - T.give (c + ((n + 1 : Nat) : Int) * z) < 6 := by
      rw [by3]
      have := Int.emod_lt_of_pos (c + ((n + 1 : Nat) : Int) * z) (show 0 < by1 by omega)
      omega
    have eL : ((L - (n + 1) : Nat) : Int) = (L : Int) - ((n + 1 : Nat) : Int) := by omega
    have R1 := R.same s
    obtain ⟨va, vd, vu, eq, hv1, _⟩ := id R1
    cases eq
    refine ⟨fun σ2 H2 => ∃ (L2 : Nat) (c t p : Int) (kvs : List (Key × V)) (s9 s10 s11 s12 : Option V), σ2 = [some (.ref ua), some (.int c), some (.int z), some (.int M), some (.ref D), some (.int L2), some (.int t), some (.int p), some (.int ((T.top - c + z - 1) / z)), s9, s10, s11, s12] ∧
      L2 < L ∧ Same H H2 ∧ H2 D = some (.dK kvs) ∧ kvs.length ≤ cnt kvs ∧ Rp T z w M L2 c t p ∧ Seen 0 K T z H2 kvs L2 c t p,
      fun σ2 H2 ⟨L2, c, t, p, kvs, s9, s10, s11, s12, a1, a2, a3, a4, a5, a6, a7⟩ => ⟨_, a2, L2, c, t, p, kvs, s9, s10, s11, s12, a1, rfl, a3, a4, a5, a6, a7⟩, ?_⟩
    refine ⟨_, rfl, _, rfl, _, rfl, _, _, rfl, rfl, _, rfl, .inl ⟨_, _, rfl, rfl, mul_ok (by omega) (by omega), .inl ⟨_, _, rfl, rfl, _, _, rfl, ?_⟩⟩⟩
    refine ⟨_, rfl, _, rfl, _, rfl, .inl ⟨_, _, rfl, rfl, mul_ok (by omega) (by omega), .inl ⟨_, _, rfl, rfl, ?_⟩⟩⟩
    refine ⟨_, rfl, ua, vd, _, rfl, hv1, lk_tree (by decide +kernel), _, rfl, _, T, _, rfl, R1, ?_⟩
    refine ⟨_, rfl, _, rfl, _, _, rfl, rfl, _, rfl, _, rfl, .inl ⟨_, _, rfl, rfl, _, rfl, _, _, rfl, rfl, _, _, rfl, ?_⟩⟩
    dsimp only
    rw [imax_eq, en, ← eL]
    have hLL : L - (n + 1) < L := by omega
    clear e1 e2 r1 r2 g1 g2' by1 by2 by3 by4 by5 S P cc q2 q3 q4 am0 c0 c1 hS en eL q1
    have c0' := P1.c0
    generalize c + ((n + 1 : Nat) : Int) * z - T.give (c + ((n + 1 : Nat) : Int) * z) = c' at *
    generalize t + (c + ((n + 1 : Nat) : Int) * z) - c' = t' at *
    generalize max p (c + n * z) = p' at *
    generalize L - (n + 1) = L1 at *
    refine ⟨fun σ2 H2 => ∃ (L2 : Nat) (t p : Int) (kvs : List (Key × V)) (s8 s9 s10 s11 s12 : Option V), σ2 = [some (.ref ua), some (.int c'), some (.int z), some (.int M), some (.ref D), some (.int L2), some (.int t), some (.int p), s8, s9, s10, s11, s12] ∧
      L2 < L ∧ Same H H2 ∧ H2 D = some (.dK kvs) ∧ kvs.length ≤ cnt kvs ∧ Rp T z w M L2 c' t p ∧ Seen 0 K T z H2 kvs L2 c' t p, ?_, ?_⟩
    · refine ⟨_, rfl, _, rfl, D, valV kvs (.inl c'), rfl, DGet.k (k := .inl c') hG, _, rfl, ?_⟩
      cases ev : valV kvs (.inl c') with
      | some v =>
        -- it was here before: turns are skipped
        refine iteT' rfl ?_
        obtain ⟨a, l', t0, d, rfl, ha, h3, h4, h5, h6, h7, h8⟩ := S1 c' v ev
        have d1 : 1 ≤ d := by omega
        have et : (L1 : Int) / (l' - L1) = ((L1 / d : Nat) : Int) := by
          rw [show l' - (L1 : Int) = (d : Int) by omega]
          exact (Int.natCast_ediv _ _).symm
        have le : L1 / d * d ≤ L1 := Nat.div_mul_le_self L1 d
        have le2 : L1 / d ≤ L1 := Nat.div_le_self L1 d
        have e1 : (L1 : Int) - (L1 : Int) / (l' - L1) * (l' - L1) = ((L1 - L1 / d * d : Nat) : Int) := by
          rw [et, show l' - (L1 : Int) = (d : Int) by omega, Int.ofNat_sub le, Int.natCast_mul]
        have ed : t' - t0 = d * z := by omega
        have e2 : t' + (L1 : Int) / (l' - L1) * (t' - t0) = t' + ((L1 / d * d : Nat) : Int) * z := by
          rw [et, ed, Int.natCast_mul, Int.mul_assoc]
        have dz : (d : Int) * z ≤ 10 ^ 40 * 10 ^ 40 := Int.mul_le_mul (by omega) z2 (by omega) (by decide)
        have dz0 : 0 ≤ (d : Int) * z := Int.mul_nonneg (by omega) (by omega)
        have lim2 : (10 : Int) ^ 40 * 10 ^ 40 ≤ 10 ^ 100 := by decide
        have b1 : ((L1 : Int) / (l' - L1)).natAbs ≤ 10 ^ 100 := by
          rw [et]
          clear e1 e2 et
          generalize L1 / d = tt at le2
          omega
        have b2 : (l' - (L1 : Int)).natAbs ≤ 10 ^ 100 := by clear e1 e2 et b1; omega
        have b3 : (t' - t0).natAbs ≤ 10 ^ 100 := by rw [ed]; clear e1 e2 et b1; omega
        refine ⟨_, rfl, _, rfl, D, .ref a, rfl, (by rw [← ev]; exact DGet.k (k := .inl c') hG), g2 ha ?_⟩
        refine ⟨_, rfl, _, rfl, _, rfl, _, _, rfl, rfl, _, _, rfl, rfl, div_ok (by omega) (by omega), ?_⟩
        refine ⟨_, rfl, _, rfl, _, rfl, _, rfl, _, _, rfl, rfl, .inl ⟨_, _, rfl, rfl, mul_ok b1 b2, _, _, rfl, rfl, _, rfl, _, rfl, _, rfl, _, rfl, _, _, rfl, rfl, .inl ⟨_, _, rfl, rfl, mul_ok b1 b3, .inl ⟨_, _, rfl, rfl, _, _, rfl, ?_⟩⟩⟩⟩
        obtain ⟨k1, k2⟩ := Tr.kp_loop h4 (L1 / d)
        refine ⟨L1 - L1 / d * d, t' + ((L1 / d * d : Nat) : Int) * z, p', kvs, some (.int ((n + 1 : Nat) : Int)), some (.int (c + ((n + 1 : Nat) : Int) * z)), some (.int l'), some (.int t0), some (.int ((L1 : Int) / (l' - L1))), ?_, by omega, s, hG, hl, P1.skip h4 h6 d1, (S1.go le k1.symm (Int.le_refl _) (by omega) (by omega)).weak⟩
        rw [← e1, ← e2]
        rfl
      | none =>
        refine iteF' rfl ?_
        refine ⟨_, rfl, _, rfl, two_fit.2.1, fun q hq => ?_⟩
        have s2 := same_new (o := .tup [.int L1, .int t']) hq
        refine ⟨_, rfl, _, rfl, D, _, rfl, DPut.k (k := .inl c') (s2 _ _ hG) (by have := cnt_le kvs; exact small1000 (by omega)), ?_⟩
        exact ⟨L1, t', p', _, _, _, _, _, _, rfl, hLL, other_same (s.trans s2) hD, upd_same, cnt_put ev c0' small hl, P1, ((S1.weak.mono (Tups.same s2)).put P1.p0 (by omega) (SqT.of upd_same)).mono (dk_tups (s2 _ _ hG))⟩
    · rintro σ2 H2 ⟨L2, t2, p2, kvs2, b8, b9, b10, b11, b12, rfl, a2, a3, a4, a5, a6, a7⟩
      refine ⟨_, rfl, _, rfl, _, rfl, .ref ua, T, c', z, rfl, R.same a3, z1, z2, ?_⟩
      exact ⟨L2, c', t2, p2, kvs2, _, _, _, _, rfl, a2, a3, a4, a5, a6, a7⟩
  · -- the rest, without giving
    have few : c + (L : Int) * z < T.top := by
      have h : (L : Int) * z ≤ (S0 - 1) * z := Int.mul_le_mul_of_nonneg_right (by omega) (by omega)
      omega
    obtain ⟨f1, f2⟩ := Tr.kp_few ok z1 c0 L few
    have Lz0 : 0 ≤ (L : Int) * z := Int.mul_nonneg (by omega) (by omega)
    have eM : ((M : Int)).toNat = M := by omega
    rw [eM] at k
    have tot := P.tot
    have pk := P.pk
    refine ⟨fun σ2 H2 => H2 = G ∧ σ2 = [some (.ref ua), some (.int c), some (.int z), some (.int M), some (.ref D), some (.int L), some (.int t), some (.int (max w (T.pk z w M))), some (.int S0), s9, s10, s11, s12], ?_, ?_⟩
    · refine ⟨_, rfl, _, _, rfl, rfl, _, rfl, ?_⟩
      refine ifD (fun c2 => ?_) (fun c2 => ?_)
      · obtain ⟨n, rfl⟩ : ∃ n : Nat, L = n + 1 := ⟨L - 1, by omega⟩
        have en : ((n + 1 : Nat) : Int) - 1 = (n : Int) := by omega
        have e : ((n + 1 : Nat) : Int) * z = n * z + z := by rw [Int.natCast_add, Int.add_mul]; omega
        have nz : 0 ≤ (n : Int) * z := Int.mul_nonneg (by omega) (by omega)
        obtain ⟨f3, f4⟩ := Tr.kp_few ok z1 c0 n (by omega)
        refine ⟨_, rfl, _, rfl, _, rfl, _, _, rfl, rfl, _, rfl, .inl ⟨_, _, rfl, rfl, mul_ok (by omega) (by omega), .inl ⟨_, _, rfl, rfl, _, _, rfl, rfl, ?_⟩⟩⟩
        rw [pk, f4, ← imax_eq, ← en]
        rfl
      · obtain rfl : L = 0 := by omega
        refine ⟨rfl, ?_⟩
        have p0 := P.p0
        have : max p (T.pk z c 0) = p := by
          show max p 0 = p
          omega
        rw [pk, this]
    · rintro σ2 H2 ⟨rfl, rfl⟩
      refine ⟨_, rfl, _, rfl, _, rfl, .inl ⟨_, _, rfl, rfl, mul_ok (by omega) (by omega), .inl ⟨_, _, rfl, rfl, _, rfl, _, rfl, two_fit.2.2.1, fun q hq => ?_⟩⟩⟩
      have s2 := same_new (o := .tup [.int (c + L * z), .int t, .int (max w (T.pk z w M))]) hq
      refine k q _ (s.free hq) (s.trans s2) ?_
      rw [P.kp, f1, show w + (M : Int) * z - (c + L * z) = t by omega]
      exact SqT.of upd_same
/-- a tree and a Rule of it -/
structure St13 (K : PySem.W.Frag) (C : Cs) (G : Hp) (b l : Addr) (v u : V) (T : Tr) : Prop where
  bag : Bag G b l
  tr : TrAt K G v T
  ru : RuleAt K C G u T
theorem St13.step {b l : Addr} {v u : V} {T : Tr} (S : St13 K C G b l v u T) (k : Kp b G G') (B : Bag G' b l) : St13 K C G' b l v u T :=
  ⟨B, S.tr.mono (S.bag.tups k), S.ru.kpB S.bag k⟩
theorem St13.same {b l : Addr} {v u : V} {T : Tr} (S : St13 K C G b l v u T) (s : Same G G') : St13 K C G' b l v u T := S.step (Kp.of s) (S.bag.same s)
/-- not alike(rule.threshold, top) -/
theorem top_alike {i j : Nat} {σ : L2.St} {b l : Addr} {v u : V} {T : Tr} {D : Ends} (hi : σ[i]? = some (some u)) (hj : σ[j]? = some (some (.int T.top))) (S : St13 K C G b l v u T) (k : D.nx σ G) :
    tIfS (tNot (tB (tCall (sp_law_alike K) [] E0 (tCons (tProp C.Rule (sp_Rule_threshold K C) [] E0 (tVar i)) (tCons (tVar j) tNil))))) (tRet (tC (.bl false))) tNext D σ G := by
  obtain ⟨ua, ud, uu, rfl, hu1, r⟩ := id S.ru
  refine ⟨_, hi, ua, ud, _, rfl, hu1, _, T, rfl, S.ru, ?_⟩
  obtain ⟨t1, t2⟩ := Tr.top_ok r.2.1
  have g : GoodTo 0 2000 (.int T.top) := gt_int (by
    have : (10 : Int) ^ 50 ≤ 10 ^ 100 := by decide
    omega)
  exact ⟨_, hj, _, _, .int T.top, rfl, .int _, .int _, g.good, true, rfl, k⟩
end
end Pk
set_option Elab.async false
set_option linter.all false
set_option maxRecDepth 100000
set_option maxHeartbeats 2000000
/-! == and != of instances by an own __eq__ -/
namespace Pk
open PySem PySem.Spec PyProof.Rows PySem.SeqAt
section
variable {prog : Program} {w : World} {A : Around} {E : Value → Shared → Prop} {s : Shared} {K : PySem.W.Frag} {x C f : Addr} {ox : Obj} {od : Option Obj} {b : Value}
theorem ifBound_ne {M : Model} {args : List Value} {Q : Option Value → Shared → Prop} (I : PySem.W.InstAt s.heap x ox C od) (X : K.In s.heap) (hn : PySem.W.findIn K (.ref C) "__ne__" = some (some (.builtin "object.__ne__")))
    (h : wpAny M A (call (.builtin "object.__ne__") (.ref x :: args)) (fun v => Q (some v)) E s) : wpAny M A (callSpecialIfBound? (.ref x) "__ne__" args) Q E s := by
  simp only [callSpecialIfBound?, bindSpecialIfBound?]
  have last : wpAny M A (call (.builtin "object.__ne__") ([.ref x] ++ args) >>= fun v => pure (some v)) Q E s := wpAny_bind (wpAny_mono h (fun _ _ z => wpAny_pure z) fun _ _ z => z)
  refine wpAny_holding (wpAny_bind (wpAny_bind (wpAny_bind (I.type.here ((PySem.W.looks_findIn X hn).here (wpAny_bind (wpAny_askSetting (wpAny_ite ?_))))))))
  split
  · exact wpAny_bind (wpAny_of_eq (F.cmp_object.ne.bind _) (wpAny_pure (by exact last)))
  · exact wpAny_tryCatch (wpAny_bind (wpAny_of_eq (F.cmp_object.ne.bind _) (wpAny_pure (by exact last))))
theorem obj_ne {Q : Value → Shared → Prop} (hu : A.units + 1 < cLine) (X : K.In s.heap) (I : PySem.W.InstAt s.heap x ox C od) (hm : PySem.W.mroIn K C (.type "object") = some true)
    (hn : PySem.W.findIn K (.ref C) "__ne__" = some (some (.builtin "object.__ne__"))) (hs : PySem.W.findIn K (.ref C) "__eq__" = some (some (.ref f))) (hf : PySem.W.isFn K (.ref f) = true)
    (h : codeAny (model prog w) A.in1 (.call (.ref f) ⟨[.ref x, b], []⟩) (fun r s' => match r with | .ok (.ret v) => ∃ c, v = .bool c ∧ Q (.bool (!c)) s' | .ok _ => False | .error e => E e s') s) :
    wpAny (model prog w) A (tryCompare (.ref x) "__ne__" b) (fun r s' => ∃ v, r = some v ∧ Q v s') E s := by
  unfold tryCompare
  refine wpAny_bind (ifBound_ne I X hn (wpAny_call (codeAny_call_builtin F.cmp_object.ne.plain F.cmpEntry_ne
    (PySem.W.check_slot F.cmpKind_ne F.cmpSplit_ne (I.type.andThen (PySem.W.looks_mroIn X hm)) (F.cmpArgs_ne _ _) ?_))))
  unfold Builtin.«object.__ne__»
  repeat (first | with_reducible refine wpAny_cRoomFor hu ?_ | with_reducible refine wpAny_bind (PySem.W.ifBound_K X I hs hf ?_) | wp_step)
  refine codeAny_mono h fun r s' hr => ?_
  match r, hr with
  | .error e, hr => exact hr
  | .ok (.ret v), hr =>
    obtain ⟨c, rfl, q⟩ := hr
    refine wpAny_bind (wpAny_truthy_bool ?_)
    exact wpAny_pure (wpAny_pure ⟨_, rfl, q⟩)
/-- x != b by what is tried first -/
theorem rich_ne {tb : Value} {Q : Value → Shared → Prop} (hu : A.units < cLine) (X : K.In s.heap) (I : PySem.W.InstAt s.heap x ox C od) (hb : PySem.W.Looks (model prog w) s.heap (typeOf b) tb) (hn : PySem.W.notFirst K C tb = true)
    (one : wpAny (model prog w) A (tryCompare (.ref x) "__ne__" b) (fun r s' => ∃ v, r = some v ∧ Q v s') E s) : wpAny (model prog w) A (richCompare .NotEq (.ref x) b) Q E s := by
  unfold richCompare
  simp only [oneThing_ref]
  refine wpAny_holding (wpAny_bind (wpAny_cRoomFor hu (wpAny_bind (I.type.here (wpAny_bind (hb.here ?_))))))
  split
  · rename_i q
    have e : PySem.W.subIn K tb (.ref C) = some false := by
      rcases Bool.or_eq_true_iff.mp hn with e | e
      · exact absurd (beq_iff_eq.mp e) (by intro z; rw [z] at q; simp at q)
      · exact beq_iff_eq.mp e
    refine wpAny_bind ((PySem.W.looks_subIn X e).here ?_)
    simp only [Bool.false_eq_true, if_false]
    exact wpAny_bind (wpAny_mono one (fun r s1 ⟨v, ev, qv⟩ => by subst ev; exact wpAny_pure qv) fun _ _ y => y)
  · refine wpAny_bind (wpAny_pure ?_)
    simp only [Bool.false_eq_true, if_false]
    exact wpAny_bind (wpAny_mono one (fun r s1 ⟨v, ev, qv⟩ => by subst ev; exact wpAny_pure qv) fun _ _ y => y)
end
end Pk
namespace Pk
open PySem PySem.Spec L2 PyProof.Rows
section
variable {X : Cx} {CX : CXT} {k j : Nat} {C : Addr} {ps : List Str} {sp : Sp} {E : XK} {x : Str}
/-- x == y, x != y, both instances of the class at C -/
def rOwnEq (C : Addr) (sp : Sp) (E : XK) : R2 := fun x y H Q => ∃ a b dx fs dy gs, x = .ref a ∧ y = .ref b ∧ H a = some (.ins C dx fs) ∧ H b = some (.ins C dy gs) ∧ sp [x, y] H (fun v H' => ∃ c, v = .bl c ∧ Q (.bl c) H') E
def rOwnNe (C : Addr) (sp : Sp) (E : XK) : R2 := fun x y H Q => ∃ a b dx fs dy gs, x = .ref a ∧ y = .ref b ∧ H a = some (.ins C dx fs) ∧ H b = some (.ins C dy gs) ∧ sp [x, y] H (fun v H' => ∃ c, v = .bl c ∧ Q (.bl (!c)) H') E
theorem op_eqOwn (c : Kls X.K X.mg x C) (F : Own X.prog X.w X.K X.mg X.base CX k C "__eq__" ps sp) (hr : Room j X.A) (hx : Passes CX X E) (hj : k ≤ j := by first | decide | omega) : OpR X (compareOp .Eq) (rOwnEq C sp E) := by
  obtain ⟨f, fd, G, a1, a2, a3, a4, bb⟩ := F.ex
  intro pins s σ H u v ov iv Q I ru rv h
  obtain ⟨a, b, dx, fs, dy, gs, rfl, rfl, ha, hb, q⟩ := h
  cases (show ov = Value.ref a from ru)
  cases (show iv = Value.ref b from rv)
  obtain ⟨_, O, _⟩ := ins_get I.hok ha
  obtain ⟨od, J, _⟩ := O.look
  obtain ⟨_, O', _⟩ := ins_get I.hok hb
  obtain ⟨od', J', _⟩ := O'.look
  obtain ⟨_, hF⟩ := I.fr
  show wpAny (model X.prog X.w) X.A (richCompare .Eq (.ref a) (.ref b)) (EP X pins σ Q) X.xe s
  refine PySem.W.cmp_K (op := .Eq) (tb := .ref C) (Nat.lt_of_le_of_lt (Nat.le_add_right _ 64) hr.units) hF I.ok.mod.kin J J'.type (by simp [PySem.W.notFirst]) a1 a2 ?_
  refine wpAny_mono (run_fn (us := [.ref a, .ref b]) (vs := [.ref a, .ref b]) G (hr.mono hj) bb .nil hx I (.cons rfl (.cons rfl .nil)) q) ?_ fun _ _ z => z
  rintro w s' ⟨z, H', I', rz, d, rfl, qz⟩
  cases rz
  exact ⟨.bl d, H', I', rfl, qz⟩
theorem op_neOwn (c : Kls X.K X.mg x C) (F : Own X.prog X.w X.K X.mg X.base CX k C "__eq__" ps sp) (hr : Room j X.A) (hx : Passes CX X E) (hj : k + 1 ≤ j := by first | decide | omega) : OpR X (compareOp .NotEq) (rOwnNe C sp E) := by
  obtain ⟨f, fd, G, a1, a2, a3, a4, bb⟩ := F.ex
  intro pins s σ H u v ov iv Q I ru rv h
  obtain ⟨a, b, dx, fs, dy, gs, rfl, rfl, ha, hb, q⟩ := h
  cases (show ov = Value.ref a from ru)
  cases (show iv = Value.ref b from rv)
  obtain ⟨_, O, _⟩ := ins_get I.hok ha
  obtain ⟨od, J, _⟩ := O.look
  obtain ⟨_, O', _⟩ := ins_get I.hok hb
  obtain ⟨od', J', _⟩ := O'.look
  obtain ⟨_, hF⟩ := I.fr
  show wpAny (model X.prog X.w) X.A (richCompare .NotEq (.ref a) (.ref b)) (EP X pins σ Q) X.xe s
  have hu := hr.units
  refine rich_ne (tb := .ref C) (by omega) I.kIn J J'.type (by simp [PySem.W.notFirst]) (obj_ne (by omega) I.kIn J c.ic.hm c.ne a1 a2 ?_)
  have e := I.env0
  have e0 : Env0 X.prog X.w X.K X.mg X.base X.A.in1 X.stack s H := ⟨e.frames, e.mod, e.bs, e.bsz, e.funs, e.frf, e.hok, e.bare⟩
  have hl := G.len _ _ _ _ q
  refine codeAny_mono (G.run X.A.in1 X.stack s H ⟨[.ref a, .ref b], []⟩ [.ref a, .ref b] [.ref a, .ref b] _ E (hr.mono hj).in1 e0 (by
    have := bb s [.ref a, .ref b] I.kIn (by simpa using hl)
    simpa using this) (.cons rfl (.cons rfl .nil)) q) fun r s' z => ?_
  match r, z with
  | .error e, z => exact hx pins σ H s e s' I z
  | .ok (.ret w), z =>
    obtain ⟨y, H', I', rz, d, rfl, qz⟩ := I.after z
    cases rz
    exact ⟨d, rfl, .bl (!d), H', I', rfl, qz⟩
/-- what is never come to -/
def tNone : TE := fun _ _ _ => False
theorem pe_none {e : Expr} : PE X e tNone := ⟨fun _ _ _ _ _ _ h => h.elim⟩
end
end Pk
set_option Elab.async false
set_option linter.all false
set_option maxRecDepth 100000
set_option maxHeartbeats 2000000
namespace Pk
open PySem PySem.Spec L2 PyProof.Rows
/-! ### Accounts -/
structure FxAccount (K : PySem.W.Frag) (C : Cs) : Prop where
  cl : Cls K C.Account
  n1 : NoAttr K C.Account "_credit"
  n2 : NoAttr K C.Account "_rule"
  n3 : NoAttr K C.Account "_unpassed"
  n4 : NoAttr K C.Account "_withheld"
  ic : C8.InsC K C.Account
def accF (cr : Int) (r : V) (u w : Int) : List (Str × V) := [("_credit", .int cr), ("_rule", r), ("_unpassed", .int u), ("_withheld", .int w)]
theorem nm_cr : (("_credit" : Str) == "_rule") = false ∧ (("_credit" : Str) == "_unpassed") = false ∧ (("_credit" : Str) == "_withheld") = false ∧ (("_rule" : Str) == "_unpassed") = false ∧ (("_rule" : Str) == "_withheld") = false ∧ (("_unpassed" : Str) == "_withheld") = false := by decide +kernel
theorem nm_rc : (("_rule" : Str) == "_credit") = false ∧ (("_unpassed" : Str) == "_credit") = false ∧ (("_withheld" : Str) == "_credit") = false ∧ (("_unpassed" : Str) == "_rule") = false ∧ (("_withheld" : Str) == "_rule") = false ∧ (("_withheld" : Str) == "_unpassed") = false := by decide +kernel
theorem nm_ne : ("_credit" : Str) ≠ "_rule" ∧ ("_credit" : Str) ≠ "_unpassed" ∧ ("_credit" : Str) ≠ "_withheld" ∧ ("_rule" : Str) ≠ "_unpassed" ∧ ("_rule" : Str) ≠ "_withheld" ∧ ("_unpassed" : Str) ≠ "_withheld" := by decide +kernel
section
variable {cr u w : Int} {r : V}
theorem lk_cr : List.lookup ("_credit" : Str) (accF cr r u w) = some (.int cr) := by unfold accF; rw [List.lookup, beq_self_eq_true]
theorem lk_ru : List.lookup ("_rule" : Str) (accF cr r u w) = some r := by unfold accF; rw [List.lookup, nm_rc.1, List.lookup, beq_self_eq_true]
theorem lk_un : List.lookup ("_unpassed" : Str) (accF cr r u w) = some (.int u) := by unfold accF; rw [List.lookup, nm_rc.2.1, List.lookup, nm_rc.2.2.2.1, List.lookup, beq_self_eq_true]
theorem lk_wi : List.lookup ("_withheld" : Str) (accF cr r u w) = some (.int w) := by unfold accF; rw [List.lookup, nm_rc.2.2.1, List.lookup, nm_rc.2.2.2.2.1, List.lookup, nm_rc.2.2.2.2.2, List.lookup, beq_self_eq_true]
theorem lk_no {f : Str} (h1 : (f == ("_credit" : Str)) = false) (h2 : (f == ("_rule" : Str)) = false) (h3 : (f == ("_unpassed" : Str)) = false) (h4 : (f == ("_withheld" : Str)) = false) : (accF cr r u w).lookup f = none := by
  unfold accF
  rw [List.lookup, h1, List.lookup, h2, List.lookup, h3, List.lookup, h4, List.lookup]
theorem put_un {x : Int} : putF "_unpassed" (.int x) (accF cr r u w) = accF cr r x w := by
  unfold accF
  rw [putF, if_neg nm_ne.2.1, putF, if_neg nm_ne.2.2.2.1, putF, if_pos rfl]
theorem put_wi {x : Int} : putF "_withheld" (.int x) (accF cr r u w) = accF cr r u x := by
  unfold accF
  rw [putF, if_neg nm_ne.2.2.1, putF, if_neg nm_ne.2.2.2.2.1, putF, if_neg nm_ne.2.2.2.2.2, putF, if_pos rfl]
theorem put_all : putF "_withheld" (.int w) (putF "_unpassed" (.int u) (putF "_rule" r (putF "_credit" (.int cr) []))) = accF cr r u w := by
  unfold accF
  simp only [putF, if_neg nm_ne.1, if_neg nm_ne.2.1, if_neg nm_ne.2.2.1, if_neg nm_ne.2.2.2.1, if_neg nm_ne.2.2.2.2.1, if_neg nm_ne.2.2.2.2.2]
theorem no_tree {C D dx dy : Addr} {x : V} {fs : List (Str × V)} (h : fs.length = 4) (z : HO.ins C dx fs = HO.ins D dy [("_tree", x)]) : False := by
  have e := congrArg List.length (HO.ins.inj z).2.2
  rw [h] at e
  cases e
end
/-- an Account: its credit, the tree of its Rule, what is unpassed, withheld -/
def AccAt (K : PySem.W.Frag) (C : Cs) (H : Hp) (v : V) (cr : Int) (T : Tr) (u w : Int) : Prop := ∃ a dx r, v = .ref a ∧ H a = some (.ins C.Account dx (accF cr r u w)) ∧ RuleAt K C H r T ∧ FxAccount K C
section
variable {K : PySem.W.Frag} {C : Cs} {vs : List V} {H H' G G' : Hp} {Q : VK} {E : XK} {n : Nat} {v : V} {cr u w : Int} {T : Tr} {a b : Addr}
theorem RuleAt.keep {r : V} {o : HO} (h : RuleAt K C H r T) (ha : H b = some o) (n1 : ∀ dx x, o ≠ .ins C.Rule dx [("_tree", x)]) (n2 : ∀ xs, o ≠ .tup xs) (n3 : ∀ ob xs, o ≠ .frz ob (.tup xs)) (k : Kp b H H') : RuleAt K C H' r T := by
  obtain ⟨a, dx, x, e, h1, h2, q⟩ := h
  refine ⟨a, dx, x, e, k _ _ h1 (ne_of h1 ha fun z => n1 dx x z.symm), h2.mono fun c xs q => ?_, q⟩
  rcases q with (q | ⟨ob, q⟩) | q
  · exact .inl (.inl (k _ _ q (ne_of q ha fun z => n2 _ z.symm)))
  · exact .inl (.inr ⟨ob, k _ _ q (ne_of q ha fun z => n3 _ _ z.symm)⟩)
  · exact .inr q
theorem AccAt.same (h : AccAt K C H v cr T u w) (s : Same H H') : AccAt K C H' v cr T u w := by
  obtain ⟨a, dx, r, e, h1, h2, fa⟩ := h
  exact ⟨a, dx, r, e, s _ _ h1, h2.same s, fa⟩
/-- an Account stays when a list is written -/
theorem AccAt.kp {ys : List V} (h : AccAt K C H v cr T u w) (k : Kp b H H') (hb : H b = some (.lst ys)) : AccAt K C H' v cr T u w := by
  obtain ⟨a, dx, r, e, h1, h2, fa⟩ := h
  exact ⟨a, dx, r, e, k _ _ h1 (ne_of h1 hb fun z => nomatch z), h2.kp k hb, fa⟩
/-- an Account stays when another one is written -/
theorem AccAt.kpA {dx : Addr} {fs : List (Str × V)} (h : AccAt K C H (.ref b) cr T u w) (k : Kp a H H') (ha : H a = some (.ins C.Account dx fs)) (hl : fs.length = 4) (ne : b ≠ a) : AccAt K C H' (.ref b) cr T u w := by
  obtain ⟨c, dy, r, e, h1, h2, fa⟩ := h
  cases e
  exact ⟨_, dy, r, rfl, k _ _ h1 ne, h2.keep ha (fun d x z => no_tree hl z) (fun _ z => nomatch z) (fun _ _ z => nomatch z) k, fa⟩
/-- written itself -/
theorem AccAt.put {dx : Addr} {r : V} (h1 : H a = some (.ins C.Account dx (accF cr r u w))) (h2 : RuleAt K C H r T) (fa : FxAccount K C) {u' w' : Int} : AccAt K C (upd H a (.ins C.Account dx (accF cr r u' w'))) (.ref a) cr T u' w' :=
  ⟨a, dx, r, rfl, upd_same, h2.keep h1 (fun d x z => no_tree rfl z) (fun _ z => nomatch z) (fun _ _ z => nomatch z) kp_put, fa⟩
def sp_Account_left (K : PySem.W.Frag) (C : Cs) : Sp := fun vs H Q _ => ∃ v cr T u w, vs = [v] ∧ AccAt K C H v cr T u w ∧ Q (.int (cr - u - w)) H
def sp_Account_unpassed (K : PySem.W.Frag) (C : Cs) : Sp := fun vs H Q _ => ∃ v cr T u w, vs = [v] ∧ AccAt K C H v cr T u w ∧ Q (.int u) H
def sp_Account_withheld (K : PySem.W.Frag) (C : Cs) : Sp := fun vs H Q _ => ∃ v cr T u w, vs = [v] ∧ AccAt K C H v cr T u w ∧ Q (.int w) H
def t_Account_left (K : PySem.W.Frag) : TS :=
  (tRet (tOp (rSubI) (tOp (rSubI) (tFld K (tVar 0) "_credit") (tFld K (tVar 0) "_unpassed")) (tFld K (tVar 0) "_withheld")))
def t_Account_unpassed (K : PySem.W.Frag) : TS :=
  (tRet (tFld K (tVar 0) "_unpassed"))
def t_Account_withheld (K : PySem.W.Frag) : TS :=
  (tRet (tFld K (tVar 0) "_withheld"))
theorem ln_Account_left (h : sp_Account_left K C vs H Q E) : vs.length = 1 := by obtain ⟨_, _, _, _, _, rfl, _⟩ := h; rfl
theorem ln_Account_unpassed (h : sp_Account_unpassed K C vs H Q E) : vs.length = 1 := by obtain ⟨_, _, _, _, _, rfl, _⟩ := h; rfl
theorem ln_Account_withheld (h : sp_Account_withheld K C vs H Q E) : vs.length = 1 := by obtain ⟨_, _, _, _, _, rfl, _⟩ := h; rfl
theorem rd_Account_left (h : sp_Account_left K C vs H Q E) : t_Account_left K (EndsOf Q) (start [""] vs) H := by
  obtain ⟨v, cr, T, u, w, rfl, ⟨a, dx, r, rfl, ha, _, fa⟩, k⟩ := h
  exact ⟨_, rfl, a, _, dx, _, _, rfl, ha, fa.cl, fa.n1, lk_cr, _, rfl, a, _, dx, _, _, rfl, ha, fa.cl, fa.n3, lk_un, _, _, rfl, rfl, _, rfl, a, _, dx, _, _, rfl, ha, fa.cl, fa.n4, lk_wi, _, _, rfl, rfl, k⟩
theorem rd_Account_unpassed (h : sp_Account_unpassed K C vs H Q E) : t_Account_unpassed K (EndsOf Q) (start [""] vs) H := by
  obtain ⟨v, cr, T, u, w, rfl, ⟨a, dx, r, rfl, ha, _, fa⟩, k⟩ := h
  exact ⟨_, rfl, a, _, dx, _, _, rfl, ha, fa.cl, fa.n3, lk_un, k⟩
theorem rd_Account_withheld (h : sp_Account_withheld K C vs H Q E) : t_Account_withheld K (EndsOf Q) (start [""] vs) H := by
  obtain ⟨v, cr, T, u, w, rfl, ⟨a, dx, r, rfl, ha, _, fa⟩, k⟩ := h
  exact ⟨_, rfl, a, _, dx, _, _, rfl, ha, fa.cl, fa.n4, lk_wi, k⟩
theorem rfl4 {r : V} : (accF cr r u w).length < 1000 := by show 4 < 1000; decide
def sp_Account___isub__ (K : PySem.W.Frag) (C : Cs) : Sp := fun vs H Q _ => ∃ a cr T u w m, vs = [.ref a, .int m] ∧ AccAt K C H (.ref a) cr T u w ∧ m ≤ cr - u - w ∧ ∀ H', Kp a H H' → AccAt K C H' (.ref a) cr T (u + m) w → Q (.ref a) H'
def sp_Account___iadd__ (K : PySem.W.Frag) (C : Cs) : Sp := fun vs H Q _ => ∃ a cr T u w m, vs = [.ref a, .int m] ∧ AccAt K C H (.ref a) cr T u w ∧ m ≤ u ∧ ∀ H', Kp a H H' → AccAt K C H' (.ref a) cr T (u - m) (w + m - T.give (w + m)) → Q (.ref a) H'
def t_Account___isub__ (K : PySem.W.Frag) (C : Cs) : TS :=
  (tSeq (tIfS (tTest (tOp (rGtI) (tVar 1) (tProp C.Account (sp_Account_left K C) [] E0 (tVar 0)))) tNever tNext)
    (tSeq (sFld K (tVar 0) (tOp (rAddU K) (tFld K (tVar 0) "_unpassed") (tVar 1)) "_unpassed")
    (tRet (tVar 0))))
def t_Account___iadd__ (K : PySem.W.Frag) (C : Cs) : TS :=
  (tSeq (tIfS (tTest (tOp (rGtI) (tVar 1) (tFld K (tVar 0) "_unpassed"))) tNever tNext)
    (tSeq (sFld K (tVar 0) (tOp (rSubI) (tFld K (tVar 0) "_unpassed") (tVar 1)) "_unpassed")
    (tSeq (sFld K (tVar 0) (tMeth C.Rule "rest" (sp_Rule_rest K C) [] E0 (tFld K (tVar 0) "_rule") (tCons (tOp (rAddU K) (tFld K (tVar 0) "_withheld") (tVar 1)) tNil)) "_withheld")
    (tRet (tVar 0)))))
theorem ln_Account___isub__ (h : sp_Account___isub__ K C vs H Q E) : vs.length = 2 := by obtain ⟨_, _, _, _, _, _, rfl, _⟩ := h; rfl
theorem ln_Account___iadd__ (h : sp_Account___iadd__ K C vs H Q E) : vs.length = 2 := by obtain ⟨_, _, _, _, _, _, rfl, _⟩ := h; rfl
theorem rd_Account___isub__ (h : sp_Account___isub__ K C vs H Q E) : t_Account___isub__ K C (EndsOf Q) (start ["", ""] vs) H := by
  obtain ⟨a, cr, T, u, w, m, rfl, A, hm, k⟩ := h
  obtain ⟨_, dx, r, e, ha, hr, fa⟩ := id A
  cases e
  refine ⟨_, rfl, _, rfl, a, dx, _, rfl, ha, _, cr, T, u, w, rfl, A, _, _, rfl, rfl, _, rfl, ?_⟩
  refine iteF' (decide_eq_false (by omega)) ?_
  refine ⟨_, rfl, a, _, dx, _, _, rfl, ha, fa.cl, fa.n3, lk_un, _, rfl, .inl ⟨_, _, rfl, rfl, _, rfl, a, _, dx, _, rfl, ha, fa.cl, fa.n3, rfl4, ?_⟩⟩
  rw [put_un]
  exact ⟨_, rfl, k _ kp_put (AccAt.put ha hr fa)⟩
theorem rd_Account___iadd__ (h : sp_Account___iadd__ K C vs H Q E) : t_Account___iadd__ K C (EndsOf Q) (start ["", ""] vs) H := by
  obtain ⟨a, cr, T, u, w, m, rfl, A, hm, k⟩ := h
  obtain ⟨_, dx, r, e, ha, hr, fa⟩ := id A
  cases e
  refine ⟨_, rfl, _, rfl, a, _, dx, _, _, rfl, ha, fa.cl, fa.n3, lk_un, _, _, rfl, rfl, _, rfl, ?_⟩
  refine iteF' (decide_eq_false (by omega)) ?_
  refine ⟨_, rfl, a, _, dx, _, _, rfl, ha, fa.cl, fa.n3, lk_un, _, rfl, _, _, rfl, rfl, _, rfl, a, _, dx, _, rfl, ha, fa.cl, fa.n3, rfl4, ?_⟩
  rw [put_un]
  have hr1 := hr.keep (H' := upd H a (.ins C.Account dx (accF cr r (u - m) w))) ha (fun d x z => no_tree rfl z) (fun _ z => nomatch z) (fun _ _ z => nomatch z) kp_put
  have ha1 : (upd H a (.ins C.Account dx (accF cr r (u - m) w))) a = some (.ins C.Account dx (accF cr r (u - m) w)) := upd_same
  have k1 : Kp a H (upd H a (.ins C.Account dx (accF cr r (u - m) w))) := kp_put
  show tSeq _ _ _ _ (upd H a (.ins C.Account dx (accF cr r (u - m) w)))
  generalize upd H a (.ins C.Account dx (accF cr r (u - m) w)) = G at hr1 ha1 k1 ⊢
  obtain ⟨ra, rd, ru, rfl, hra, _⟩ := id hr1
  refine ⟨_, rfl, a, _, dx, _, _, rfl, ha1, fa.cl, fa.n2, lk_ru, ra, rd, _, rfl, hra, lk_tree (by decide +kernel), ?_⟩
  refine ⟨_, rfl, a, _, dx, _, _, rfl, ha1, fa.cl, fa.n4, lk_wi, _, rfl, .inl ⟨_, _, rfl, rfl, ?_⟩⟩
  refine ⟨_, T, _, rfl, hr1, _, rfl, a, _, dx, _, rfl, ha1, fa.cl, fa.n4, rfl4, ?_⟩
  rw [put_wi]
  exact ⟨_, rfl, k _ k1.put (AccAt.put ha1 hr1 fa)⟩
def sp_Account_passes (K : PySem.W.Frag) (C : Cs) : Sp := fun vs H Q _ => ∃ a cr T u w z m, vs = [.ref a, .int z, .int m] ∧ AccAt K C H (.ref a) cr T u w ∧ 0 ≤ w ∧ w < T.top ∧ 1 ≤ z ∧ z ≤ 10 ^ 40 ∧ 0 ≤ m ∧ m ≤ 10 ^ 40 ∧ z * m ≤ u ∧
  ∀ H', Kp a H H' → AccAt K C H' (.ref a) cr T (u - z * m) (T.kp z w m.toNat) → Q (.int (w + m * z - T.kp z w m.toNat)) H'
def sp_Account_flows (K : PySem.W.Frag) (C : Cs) : Sp := fun vs H Q _ => ∃ a cr T u w z m, vs = [.ref a, .int z, .int m] ∧ AccAt K C H (.ref a) cr T u w ∧ 0 ≤ w ∧ w < T.top ∧ 1 ≤ z ∧ z ≤ 10 ^ 40 ∧ 0 ≤ m ∧ m ≤ 10 ^ 40 ∧ z ≤ cr - u - max w (T.pk z w m.toNat) ∧
  ∀ H', Kp a H H' → AccAt K C H' (.ref a) cr T u (T.kp z w m.toNat) → Q (.int (w + m * z - T.kp z w m.toNat)) H'
def t_Account_passes (K : PySem.W.Frag) (C : Cs) : TS :=
  (tSeq (tIfS (tTest (tOp (rGtI) (tOp (rMulU K) (tVar 1) (tVar 2)) (tFld K (tVar 0) "_unpassed"))) tNever tNext)
    (tSeq (tAsg (tCall (sp_repeated K C) [] E0 (tCons (tFld K (tVar 0) "_rule") (tCons (tFld K (tVar 0) "_withheld") (tCons (tVar 1) (tCons (tVar 2) tNil))))) (gTup K 3 (gCons (gName 3) (gCons (gName 4) (gCons (gName 5) gNil)))))
    (tSeq (sFld K (tVar 0) (tOp (rSubI) (tFld K (tVar 0) "_unpassed") (tOp (rMulU K) (tVar 1) (tVar 2))) "_unpassed")
    (tSeq (sFld K (tVar 0) (tVar 3) "_withheld")
    (tRet (tVar 4))))))
def t_Account_flows (K : PySem.W.Frag) (C : Cs) : TS :=
  (tSeq (tAsg (tCall (sp_repeated K C) [] E0 (tCons (tFld K (tVar 0) "_rule") (tCons (tFld K (tVar 0) "_withheld") (tCons (tVar 1) (tCons (tVar 2) tNil))))) (gTup K 3 (gCons (gName 3) (gCons (gName 4) (gCons (gName 5) gNil)))))
    (tSeq (tIfS (tTest (tOp (rLtI) (tOp (rSubI) (tOp (rSubI) (tFld K (tVar 0) "_credit") (tFld K (tVar 0) "_unpassed")) (tVar 5)) (tVar 1))) tNever tNext)
    (tSeq (sFld K (tVar 0) (tVar 3) "_withheld")
    (tRet (tVar 4)))))
theorem ln_Account_passes (h : sp_Account_passes K C vs H Q E) : vs.length = 3 := by obtain ⟨_, _, _, _, _, _, _, rfl, _⟩ := h; rfl
theorem ln_Account_flows (h : sp_Account_flows K C vs H Q E) : vs.length = 3 := by obtain ⟨_, _, _, _, _, _, _, rfl, _⟩ := h; rfl
theorem RuleAt.okk {r : V} (h : RuleAt K C H r T) : T.ok := by obtain ⟨_, _, _, _, _, _, ok, _⟩ := h; exact ok
theorem rd_Account_passes (h : sp_Account_passes K C vs H Q E) : t_Account_passes K C (EndsOf Q) (start ["", "", "", "", "", ""] vs) H := by
  obtain ⟨a, cr, T, u, w, z, m, rfl, A, w0, w1, z1, z2, m0, m2, hm, k⟩ := h
  obtain ⟨_, dx, r, e, ha, hr, fa⟩ := id A
  cases e
  have lim : (10 : Int) ^ 40 ≤ 10 ^ 100 := by decide
  have mk := mul_ok (i := z) (j := m) (by omega) (by omega)
  refine ⟨_, rfl, _, rfl, .inl ⟨_, _, rfl, rfl, mk, _, rfl, a, _, dx, _, _, rfl, ha, fa.cl, fa.n3, lk_un, _, _, rfl, rfl, _, rfl, ?_⟩⟩
  refine iteF' (decide_eq_false (by omega)) ?_
  refine ⟨_, rfl, a, _, dx, _, _, rfl, ha, fa.cl, fa.n2, lk_ru, _, rfl, a, _, dx, _, _, rfl, ha, fa.cl, fa.n4, lk_wi, _, rfl, _, rfl, ?_⟩
  refine ⟨r, T, w, z, m, rfl, hr, w0, w1, z1, z2, m0, m2, fun p G hp s hq => g3 hq ?_⟩
  have ha1 := s _ _ ha
  have hr1 := hr.same s
  refine ⟨_, rfl, a, _, dx, _, _, rfl, ha1, fa.cl, fa.n3, lk_un, _, rfl, _, rfl, .inl ⟨_, _, rfl, rfl, mk, _, _, rfl, rfl, _, rfl, a, _, dx, _, rfl, ha1, fa.cl, fa.n3, rfl4, ?_⟩⟩
  rw [put_un]
  have hr2 := hr1.keep (H' := upd G a (.ins C.Account dx (accF cr r (u - z * m) w))) ha1 (fun d x z => no_tree rfl z) (fun _ z => nomatch z) (fun _ _ z => nomatch z) kp_put
  have ha2 : (upd G a (.ins C.Account dx (accF cr r (u - z * m) w))) a = some (.ins C.Account dx (accF cr r (u - z * m) w)) := upd_same
  have k2 : Kp a H (upd G a (.ins C.Account dx (accF cr r (u - z * m) w))) := (Kp.of s).put
  show tSeq _ _ _ _ (upd G a (.ins C.Account dx (accF cr r (u - z * m) w)))
  generalize upd G a (.ins C.Account dx (accF cr r (u - z * m) w)) = G2 at hr2 ha2 k2 ⊢
  refine ⟨_, rfl, _, rfl, a, _, dx, _, rfl, ha2, fa.cl, fa.n4, rfl4, ?_⟩
  rw [put_wi]
  exact ⟨_, rfl, k _ k2.put (AccAt.put ha2 hr2 fa)⟩
theorem rd_Account_flows (h : sp_Account_flows K C vs H Q E) : t_Account_flows K C (EndsOf Q) (start ["", "", "", "", "", ""] vs) H := by
  obtain ⟨a, cr, T, u, w, z, m, rfl, A, w0, w1, z1, z2, m0, m2, hm, k⟩ := h
  obtain ⟨_, dx, r, e, ha, hr, fa⟩ := id A
  cases e
  refine ⟨_, rfl, a, _, dx, _, _, rfl, ha, fa.cl, fa.n2, lk_ru, _, rfl, a, _, dx, _, _, rfl, ha, fa.cl, fa.n4, lk_wi, _, rfl, _, rfl, ?_⟩
  refine ⟨r, T, w, z, m, rfl, hr, w0, w1, z1, z2, m0, m2, fun p G hp s hq => g3 hq ?_⟩
  have ha1 := s _ _ ha
  have hr1 := hr.same s
  refine ⟨_, rfl, a, _, dx, _, _, rfl, ha1, fa.cl, fa.n1, lk_cr, _, rfl, a, _, dx, _, _, rfl, ha1, fa.cl, fa.n3, lk_un, _, _, rfl, rfl, _, rfl, _, _, rfl, rfl, _, rfl, _, _, rfl, rfl, _, rfl, ?_⟩
  refine iteF' (decide_eq_false (by omega)) ?_
  refine ⟨_, rfl, _, rfl, a, _, dx, _, rfl, ha1, fa.cl, fa.n4, rfl4, ?_⟩
  rw [put_wi]
  exact ⟨_, rfl, k _ (Kp.of s).put (AccAt.put ha1 hr1 fa)⟩
def sp_Account___init__ (K : PySem.W.Frag) (C : Cs) : Sp := fun vs H Q _ => ∃ p dx cr r T, vs = [.ref p, .int cr, r] ∧ H p = some (.ins C.Account dx []) ∧ RuleAt K C H r T ∧ 1 ≤ cr ∧ FxAccount K C ∧ ∀ H', Kp p H H' → AccAt K C H' (.ref p) cr T 0 0 → Q .non H'
def t_Account___init__ (K : PySem.W.Frag) (C : Cs) : TS :=
  (tSeq (tIfS (tNot (tB (tCall (sp_is_number K) [] E0 (tCons (tC (.int 1)) (tCons (tVar 1) tNil))))) tNever tNext)
    (tSeq (tIfS (tNot (tB (tCB (rIsi K) (tCons (tVar 2) (tCons (tC (.ref C.Rule)) tNil))))) tNever tNext)
    (tSeq (sFld K (tVar 0) (tVar 1) "_credit")
    (tSeq (sFld K (tVar 0) (tVar 2) "_rule")
    (tSeq (sFld K (tVar 0) (tC (.int 0)) "_unpassed")
    (sFld K (tVar 0) (tC (.int 0)) "_withheld"))))))
theorem ln_Account___init__ (h : sp_Account___init__ K C vs H Q E) : vs.length = 3 := by obtain ⟨_, _, _, _, _, rfl, _⟩ := h; rfl
theorem rd_Account___init__ (h : sp_Account___init__ K C vs H Q E) : t_Account___init__ K C (EndsOf Q) (start ["", "", ""] vs) H := by
  obtain ⟨p, dx, cr, r, T, rfl, hp, hr, c1, fa, k⟩ := h
  obtain ⟨ra, rd, ru, rfl, hra, hru⟩ := id hr
  refine ⟨_, rfl, 1, cr, rfl, _, rfl, ?_⟩
  rw [decide_eq_true c1]
  have ic := hru.2.2.2.ic
  refine ⟨_, rfl, _, _, _, _, true, rfl, .own _, .base (.ins hra ic.cl ic.ha ic.hn ic.htk ic.hm), ic.me, true, rfl, ?_⟩
  refine ⟨_, rfl, _, rfl, p, _, dx, _, rfl, hp, fa.cl, fa.n1, by show 0 < 1000; decide, ?_⟩
  refine ⟨_, rfl, _, rfl, p, _, dx, _, rfl, upd_same, fa.cl, fa.n2, by show 1 < 1000; decide, ?_⟩
  refine ⟨_, rfl, p, _, dx, _, rfl, upd_same, fa.cl, fa.n3, by show 2 < 1000; decide, ?_⟩
  refine ⟨_, rfl, p, _, dx, _, rfl, upd_same, fa.cl, fa.n4, by show 3 < 1000; decide, ?_⟩
  rw [put_all]
  have kk : Kp p H (upd (upd (upd (upd H p (.ins C.Account dx (putF "_credit" (.int cr) []))) p (.ins C.Account dx (putF "_rule" (.ref ra) (putF "_credit" (.int cr) [])))) p (.ins C.Account dx (putF "_unpassed" (.int 0) (putF "_rule" (.ref ra) (putF "_credit" (.int cr) []))))) p (.ins C.Account dx (accF cr (.ref ra) 0 0))) := kp_put.put.put.put
  refine k _ kk ⟨p, dx, _, rfl, upd_same, hr.keep hp (fun d x z => ?_) (fun _ z => nomatch z) (fun _ _ z => nomatch z) kk, fa⟩
  exact nomatch (HO.ins.inj z).2.2
/-- Account(credit, rule) -/
theorem make_acc {u : V} (fa : FxAccount K C) (c1 : 1 ≤ cr) (hr : RuleAt K C G u T) (k : ∀ x H', G x = none → Same G H' → AccAt K C H' (.ref x) cr T 0 0 → Q (.ref x) H') :
    ∀ x dx, G x = none → G dx = none → dx ≠ x → sp_Account___init__ K C (.ref x :: ([.int cr, u] ++ [])) (upd (upd G dx (.own x)) x (.ins C.Account dx [])) (fun v H2 => v = .non ∧ Q (.ref x) H2) E := by
  intro x dx hx hd ne
  have s : Same G (upd (upd G dx (.own x)) x (.ins C.Account dx [])) := fun b o e => by
    rw [upd_ne (ne_of_none e hx), upd_ne (ne_of_none e hd)]
    exact e
  refine ⟨x, dx, cr, u, T, rfl, upd_same, hr.same s, c1, fa, fun H' k1 A => ⟨rfl, k x H' hx (fun b o e => k1 b o (s b o e) (ne_of_none e hx)) A⟩⟩
def sp_Rule___eq__ (K : PySem.W.Frag) (C : Cs) : Sp := fun vs H Q _ => ∃ x y T, vs = [x, y] ∧ RuleAt K C H x T ∧ RuleAt K C H y T ∧ Q (.bl true) H
def sp_Account___eq__ (K : PySem.W.Frag) (C : Cs) : Sp := fun vs H Q _ => ∃ x y cr T u w, vs = [x, y] ∧ AccAt K C H x cr T u w ∧ AccAt K C H y cr T u w ∧ 0 ≤ cr ∧ cr ≤ 10 ^ 100 ∧ 0 ≤ u ∧ u ≤ 10 ^ 100 ∧ 0 ≤ w ∧ w ≤ 10 ^ 100 ∧ ∀ H', Same H H' → Q (.bl true) H'
def t_Rule___eq__ (K : PySem.W.Frag) (C : Cs) : TS :=
  (tSeq (tIfS (tNot (tB (tCB (rIsi K) (tCons (tVar 1) (tCons (tC (.ref C.Rule)) tNil))))) (tRet (tC (.bl false))) tNext)
    (tRet (tOrV (tOp (rEqU K) (tFld K (tVar 0) "_tree") (tFld K (tVar 1) "_tree")) tNone)))
def t_Account___eq__ (K : PySem.W.Frag) (C : Cs) : TS :=
  (tSeq (tIfS (tNot (tB (tCB (rIsi K) (tCons (tVar 1) (tCons (tC (.ref C.Account)) tNil))))) (tRet (tC (.bl false))) tNext)
    (tSeq (tAsg (tTup (tCons (tFld K (tVar 0) "_credit") (tCons (tFld K (tVar 0) "_unpassed") (tCons (tFld K (tVar 0) "_withheld") tNil)))) (gName 2))
    (tRet (tAndV (tOp (rEqU K) (tVar 2) (tTup (tCons (tFld K (tVar 1) "_credit") (tCons (tFld K (tVar 1) "_unpassed") (tCons (tFld K (tVar 1) "_withheld") tNil))))) (tOp (rOwnEq C.Rule (sp_Rule___eq__ K C) E0) (tFld K (tVar 0) "_rule") (tFld K (tVar 1) "_rule"))))))
theorem ln_Rule___eq__ (h : sp_Rule___eq__ K C vs H Q E) : vs.length = 2 := by obtain ⟨_, _, _, rfl, _⟩ := h; rfl
theorem ln_Account___eq__ (h : sp_Account___eq__ K C vs H Q E) : vs.length = 2 := by obtain ⟨_, _, _, _, _, _, rfl, _⟩ := h; rfl
theorem rd_Rule___eq__ (h : sp_Rule___eq__ K C vs H Q E) : t_Rule___eq__ K C (EndsOf Q) (start ["", ""] vs) H := by
  obtain ⟨x, y, T, rfl, ⟨a, dx, u, rfl, ha, hT, ok, l6, fx⟩, ⟨b, dy, z, rfl, hb, hZ, _, _, _⟩, k⟩ := h
  refine ⟨_, rfl, _, _, _, _, true, rfl, .own _, .base (.ins hb fx.ic.cl fx.ic.ha fx.ic.hn fx.ic.htk fx.ic.hm), fx.ic.me, true, rfl, ?_⟩
  have g := (gt_tree ok).good (by omega) (by omega)
  refine ⟨_, rfl, a, _, dx, _, u, rfl, ha, fx.cl, fx.no, rfl, _, rfl, b, _, dy, _, z, rfl, hb, fx.cl, fx.no, rfl, .inr ⟨T.pd, T.pd, hT.dp, hZ.dp, g.sh, g.sh, ?_⟩⟩
  rw [g.same]
  exact ⟨true, rfl, k⟩
theorem dp3' {p : Addr} {x y z : Int} (h : SqT K H p [.int x, .int y, .int z]) : Dp K H (.ref p) (.tuple [.int x, .int y, .int z]) := .tup h (.cons (.int _) (.cons (.int _) (.cons (.int _) .nil)))
theorem rd_Account___eq__ (h : sp_Account___eq__ K C vs H Q E) : t_Account___eq__ K C (EndsOf Q) (start ["", "", ""] vs) H := by
  obtain ⟨x, y, cr, T, u, w, rfl, ⟨a, dx, r, rfl, ha, hr, fa⟩, ⟨b, dy, r2, rfl, hb, hr2, _⟩, c0, c1, u0, u1, w0, w1, k⟩ := h
  refine ⟨_, rfl, _, _, _, _, true, rfl, .own _, .base (.ins hb fa.ic.cl fa.ic.ha fa.ic.hn fa.ic.htk fa.ic.hm), fa.ic.me, true, rfl, ?_⟩
  refine ⟨_, rfl, a, _, dx, _, _, rfl, ha, fa.cl, fa.n1, lk_cr, _, rfl, a, _, dx, _, _, rfl, ha, fa.cl, fa.n3, lk_un, _, rfl, a, _, dx, _, _, rfl, ha, fa.cl, fa.n4, lk_wi, two_fit.2.2.1, fun p hp => ?_⟩
  have s1 := same_new (o := .tup [.int cr, .int u, .int w]) hp
  have hb1 := s1 _ _ hb
  refine ⟨_, rfl, _, rfl, b, _, dy, _, _, rfl, hb1, fa.cl, fa.n1, lk_cr, _, rfl, b, _, dy, _, _, rfl, hb1, fa.cl, fa.n3, lk_un, _, rfl, b, _, dy, _, _, rfl, hb1, fa.cl, fa.n4, lk_wi, two_fit.2.2.1, fun q hq => ?_⟩
  have s2 := same_new (o := .tup [.int cr, .int u, .int w]) hq
  have s := s1.trans s2
  have g : Good (.tuple [.int cr, .int u, .int w]) := (gt_tuple (at_cons (gt_int (by omega)) (at_cons (gt_int (by omega)) (at_cons (gt_int (by omega)) at_nil)))).good
  refine .inr ⟨_, _, dp3' (SqT.of (s2 _ _ upd_same)), dp3' (SqT.of upd_same), g.sh, g.sh, ?_⟩
  rw [g.same]
  obtain ⟨ra, rd, ru, rfl, hra, _⟩ := id (hr.same s)
  obtain ⟨rb, re, rv, rfl, hrb, _⟩ := id (hr2.same s)
  refine ⟨true, rfl, ?_⟩
  refine ⟨_, rfl, a, _, dx, _, _, rfl, s _ _ ha, fa.cl, fa.n2, lk_ru, _, rfl, b, _, dy, _, _, rfl, s _ _ hb, fa.cl, fa.n2, lk_ru, ?_⟩
  exact ⟨ra, rb, rd, _, re, _, rfl, rfl, hra, hrb, _, _, T, rfl, hr.same s, hr2.same s, true, rfl, k _ s⟩
end
end Pk
set_option Elab.async false
set_option linter.all false
set_option maxRecDepth 100000
set_option maxHeartbeats 2000000
namespace Pk
open PySem PySem.Spec L2 PyProof.Rows
/-! ### what laws over Accounts share -/
section
variable {K : PySem.W.Frag} {C : Cs} {vs : List V} {H H' G G' : Hp} {Q : VK} {E : XK} {n : Nat} {v : V} {cr u w : Int} {T : Tr} {a b l : Addr}
theorem Tups.kpi {D dx : Addr} {fs : List (Str × V)} (k : Kp a G G') (ha : G a = some (.ins D dx fs)) : Tups K G G' := fun c xs q => by
  rcases q with (q | ⟨ob, q⟩) | q
  · exact .inl (.inl (k _ _ q (ne_of q ha fun z => nomatch z)))
  · exact .inl (.inr ⟨ob, k _ _ q (ne_of q ha fun z => nomatch z)⟩)
  · exact .inr q
theorem Bag.kpi {D dx : Addr} {fs : List (Str × V)} (B : Bag G b l) (k : Kp a G G') (ha : G a = some (.ins D dx fs)) : Bag G' b l := by
  obtain ⟨x, m, p, xs, h1, h2, r⟩ := B.ex
  exact ⟨x, m, p, xs, k _ _ h1 (ne_of h1 ha fun z => nomatch z), k _ _ h2 (ne_of h2 ha fun z => nomatch z), r⟩
theorem AccAt.ins (h : AccAt K C H (.ref a) cr T u w) : ∃ dx r, H a = some (.ins C.Account dx (accF cr r u w)) := by
  obtain ⟨_, dx, r, e, h1, _⟩ := h
  cases e
  exact ⟨dx, r, h1⟩
theorem AccAt.kpB {c : Addr} (h : AccAt K C H (.ref a) cr T u w) (B : Bag H b c) (k : Kp b H H') : AccAt K C H' (.ref a) cr T u w := by
  obtain ⟨ys, hb⟩ := B.at
  exact h.kp k hb
def sp_law_one_by_one (K : PySem.W.Frag) (C : Cs) : Sp := fun vs H Q _ => ∃ a cr T u w z, ∃ (m : Nat) (f : Bool), vs = [.ref a, .int z, .int m, .bl f] ∧ AccAt K C H (.ref a) cr T u w ∧ 0 ≤ w ∧ w < T.top ∧ 1 ≤ z ∧ m ≤ 100 ∧ 0 ≤ u ∧
  ((f = true ∧ z ≤ cr - u - max w (T.pk z w m)) ∨ (f = false ∧ m * z ≤ u)) ∧ ∀ H', Kp a H H' → AccAt K C H' (.ref a) cr T (if f then u else u - m * z) (T.kp z w m) → Q .non H'
def t_law_one_by_one (K : PySem.W.Frag) (C : Cs) : TS :=
  (tFor (iRng1 (tCons (tVar 2) tNil)) (gName 4) (Evl.tCut (tIfS (tB (tVar 3)) (tAug 0 (tVar 1) (ipOwn C.Account (sp_Account___isub__ K C) E0)) tNext)
    (tAug 0 (tVar 1) (ipOwn C.Account (sp_Account___iadd__ K C) E0))))
theorem ln_law_one_by_one (h : sp_law_one_by_one K C vs H Q E) : vs.length = 4 := by obtain ⟨_, _, _, _, _, _, _, _, rfl, _⟩ := h; rfl
theorem Tr.kp_pk {z : Int} : ∀ {i m : Nat}, i < m → T.kp z w i ≤ T.pk z w m
  | i, m + 1, h => by
    rw [Tr.pk_s]
    by_cases e : i = m
    · subst e; omega
    · have := Tr.kp_pk (z := z) (show i < m by omega)
      omega
theorem rd_law_one_by_one (h : sp_law_one_by_one K C vs H Q E) : t_law_one_by_one K C (EndsOf Q) (start ["", "", "", "", ""] vs) H := by
  obtain ⟨a, cr, T, u, w, z, m, f, rfl, A, w0, w1, z1, m1, u0, hf, k⟩ := h
  refine ⟨_, rfl, m, rfl, by omega, by omega, ?_⟩
  have eM : (m : Int).toNat = m := by omega
  rw [eM]
  have ok : T.ok := by
    obtain ⟨_, _, _, _, _, hr, _⟩ := id A
    exact hr.okk
  refine for_range (lo := 0) (n := m) (fun i σ' G => ∃ s4, σ' = [some (.ref a), some (.int z), some (.int m), some (.bl f), s4] ∧ Kp a H G ∧ AccAt K C G (.ref a) cr T (if f then u else u - i * z) (T.kp z w i))
    ⟨none, rfl, Kp.refl, ?_⟩ ?_ (fun σ' G ⟨_, _, kk, A'⟩ => k G kk A')
  · have : (if f = true then u else u - ((0 : Nat) : Int) * z) = u := by split <;> simp
    rw [this]
    exact A
  rintro i σ' G hi ⟨s4, rfl, kk, A1⟩
  obtain ⟨q0, q1⟩ := Tr.kp_ok ok z1 w0 w1 i
  have hk : T.kp z w i ≤ T.pk z w m := Tr.kp_pk hi
  have e : ((i + 1 : Nat) : Int) * z = i * z + z := by rw [Int.natCast_add, Int.add_mul]; omega
  have mz : ((i + 1 : Nat) : Int) * z ≤ m * z := Int.mul_le_mul_of_nonneg_right (by omega) (by omega)
  refine ⟨fun σ2 G2 => σ2 = [some (.ref a), some (.int z), some (.int m), some (.bl f), some (.int (0 + i))] ∧ Kp a H G2 ∧ AccAt K C G2 (.ref a) cr T ((if f then u else u - ((i + 1 : Nat) : Int) * z) + z) (T.kp z w i), ?_, ?_⟩
  · refine ⟨_, rfl, _, rfl, ?_⟩
    rcases hf with ⟨rfl, hf⟩ | ⟨rfl, hf⟩
    · refine iteT' rfl ?_
      obtain ⟨dx, r, ha⟩ := A1.ins
      refine ⟨_, rfl, _, rfl, a, dx, _, rfl, ha, a, cr, T, _, _, z, rfl, A1, ?_, fun G2 k2 A2 => ⟨rfl, kk.trans k2, A2⟩⟩
      show z ≤ cr - u - T.kp z w i
      omega
    · refine iteF' rfl ⟨rfl, kk, ?_⟩
      have : (if false = true then u else u - ((i + 1 : Nat) : Int) * z) + z = (if false = true then u else u - (i : Int) * z) := by
        rw [if_neg (by decide), if_neg (by decide), e]
        omega
      rw [this]
      exact A1
  · rintro σ2 G2 ⟨rfl, k2, A2⟩
    obtain ⟨dx, r, ha⟩ := A2.ins
    refine ⟨_, rfl, _, rfl, a, dx, _, rfl, ha, a, cr, T, _, _, z, rfl, A2, ?_, fun G3 k3 A3 => ⟨_, rfl, k2.trans k3, ?_⟩⟩
    · have un : 0 ≤ (if f = true then u else u - ((i + 1 : Nat) : Int) * z) := by
        rcases hf with ⟨rfl, hf⟩ | ⟨rfl, hf⟩
        · rw [if_pos rfl]
          exact u0
        · rw [if_neg (by decide)]
          omega
      omega
    · have e2 : (if f = true then u else u - ((i + 1 : Nat) : Int) * z) + z - z = (if f = true then u else u - ((i + 1 : Nat) : Int) * z) := by omega
      rw [e2] at A3
      exact A3
/-! ### a tree drawn by its depth -/
def sp_law_draw_tree (K : PySem.W.Frag) (n : Nat) : Sp := fun vs H Q _ => ∃ b l top sc, ∃ d : Nat, vs = [.ref b, .int top, .int sc, .int d] ∧ Bag H b l ∧ 1 ≤ top ∧ top ≤ 1000 ∧ 1 ≤ sc ∧ top * sc ≤ 10 ^ 50 ∧ d + 1 ≤ n ∧
  ∀ v T H', TrAt K H' v T → T.ok → T.le (top * sc) → T.lv ≤ 2 ^ d → Bag H' b l → Kp b H H' → Q v H'
def t_law_draw_tree (K : PySem.W.Frag) (n : Nat) : TS :=
  (tSeq (tAsg (tCall (sp_law_take K) [] E0 (tCons (tVar 0) (tCons (tC (.int 4)) tNil))) (gName 4))
    (tSeq (tIfS (tOr (tTest (tOp (rEqU K) (tVar 3) (tC (.int 0)))) (tTest (tOp (rLtI) (tVar 4) (tC (.int 2))))) (tRet (tTup (tCons (tC (.str "at")) (tCons (tCall (sp_law_draw_size K) [] E0 (tCons (tVar 0) (tCons (tVar 1) (tCons (tVar 2) tNil)))) (tCons (tOp (rAddU K) (tC (.int 1)) (tCall (sp_law_take K) [] E0 (tCons (tVar 0) (tCons (tC (.int 6)) tNil)))) tNil))))) tNext)
    (tSeq (tAsg (tLc (iRng1 (tCons (tC (.int 2)) tNil)) (gName 7) tYes (tCall (sp_law_draw_tree K n) [] E0 (tCons (tVar 0) (tCons (tVar 1) (tCons (tVar 2) (tCons (tOp (rSubI) (tVar 3) (tC (.int 1))) tNil))))) [7]) (gLst K 2 (gCons (gName 5) (gCons (gName 6) gNil))))
    (tRet (tTup (tCons (tOp (rIx K) (tLst (tCons (tC (.str "or")) (tCons (tC (.str "and")) tNil))) (tOp (rSubI) (tVar 4) (tC (.int 2)))) (tCons (tVar 5) (tCons (tVar 6) tNil))))))))
theorem no_law_draw_tree (h : sp_law_draw_tree K 0 vs H Q E) : False := by
  obtain ⟨_, _, _, _, _, _, _, _, _, _, _, h, _⟩ := h
  omega
theorem ln_law_draw_tree (h : sp_law_draw_tree K n vs H Q E) : vs.length = 4 := by obtain ⟨_, _, _, _, _, rfl, _⟩ := h; rfl
theorem rd_law_draw_tree (h : sp_law_draw_tree K (n + 1) vs H Q E) : t_law_draw_tree K n (EndsOf Q) (start ["", "", "", "", "", "", "", ""] vs) H := by
  obtain ⟨b, l, top, sc, d, rfl, B, t1, t2, s1, ts, hd, k⟩ := h
  refine ⟨_, rfl, b, l, 4, rfl, B, by decide, by decide, fun r G r0 r1 B1 k1 => ?_⟩
  refine ⟨_, rfl, .inl ⟨rfl, _, rfl, ?_⟩⟩
  have leaf : tRet (tTup (tCons (tC (.str "at")) (tCons (tCall (sp_law_draw_size K) [] E0 (tCons (tVar 0) (tCons (tVar 1) (tCons (tVar 2) tNil)))) (tCons (tOp (rAddU K) (tC (.int 1)) (tCall (sp_law_take K) [] E0 (tCons (tVar 0) (tCons (tC (.int 6)) tNil)))) tNil))))
      (EndsOf Q) [some (.ref b), some (.int top), some (.int sc), some (.int d), some (.int r), none, none, none] G := by
    refine ⟨_, rfl, _, rfl, _, rfl, b, l, top, sc, rfl, B1, t1, t2, s1, fun t G1 a0 a1 B2 k2 => ?_⟩
    refine ⟨_, rfl, b, l, 6, rfl, B2, by decide, by decide, fun q G2 q0 q1 B3 k3 => .inl ⟨_, _, rfl, rfl, two_fit.2.2.1, fun p hp => ?_⟩⟩
    have s4 := same_new (o := .tup [.str "at", .int t, .int (1 + q)]) hp
    exact k (.ref p) (.at t (1 + q)) _ ⟨p, rfl, SqT.of upd_same⟩ ⟨a0, by omega, by omega, by omega⟩ a1 (Nat.pow_pos (by decide)) (B3.same s4) (k1.trans (k2.trans (k3.trans (Kp.of s4))))
  refine ifI (fun _ => leaf) (fun e => ?_)
  refine ⟨_, rfl, _, _, rfl, rfl, _, rfl, ?_⟩
  refine ifD (fun _ => leaf) (fun hr => ?_)
  clear leaf
  obtain ⟨e', rfl⟩ : ∃ e' : Nat, d = e' + 1 := ⟨d - 1, by omega⟩
  refine ⟨2, rfl, by decide, by decide, fun D hD => ?_⟩
  have f1 : H D = none := k1.freeB B1 hD
  refine lc_range (lo := 0) (n := 2) (fun i G' => Bag G' b l ∧ Kp b H G' ∧ ∃ zs : Ps, zs.length = i ∧ G' D = some (.lst (zs.map (·.1))) ∧ ∀ z ∈ zs, TrAt K G' z.1 z.2 ∧ z.2.ok ∧ z.2.le (top * sc) ∧ z.2.lv ≤ 2 ^ e') ⟨B1.same (same_new hD), k1.laid hD, [], rfl, upd_same, fun z hz => nomatch hz⟩ ?_ ?_
  · rintro i G' hi ⟨B2, k2, zs, hl, hz, ok⟩
    refine ⟨rfl, ?_⟩
    refine ⟨_, rfl, _, rfl, _, rfl, _, rfl, _, _, rfl, rfl, b, l, top, sc, e', ?_, B2, t1, t2, s1, ts, by omega, fun v T G1 a1 a2 a3 a4 B3 k3 => ?_⟩
    · show [V.ref b, .int top, .int sc, .int (((e' + 1 : Nat) : Int) - 1)] = _
      rw [show ((e' + 1 : Nat) : Int) - 1 = (e' : Int) by omega]
    have hz2 := k3 D _ hz (B.nb f1)
    refine ⟨_, hz2, small1000 (by rw [List.length_map]; omega), B3.put (B.nb f1).symm (B.nl f1).symm, (k2.trans k3).other f1, zs ++ [(v, T)], by rw [List.length_append, hl]; rfl, by rw [upd_same, List.map_append]; rfl, fun z q => ?_⟩
    have tp : Tups K G1 _ := lst_tups (o := .lst (zs.map (·.1) ++ [v])) hz2
    rcases List.mem_append.mp q with q | q
    · exact ⟨((ok z q).1.mono (B2.tups k3)).mono tp, (ok z q).2⟩
    · rw [List.mem_singleton.mp q]
      exact ⟨a1.mono tp, a2, a3, a4⟩
  rintro G' ⟨B2, k2, zs, hl, hz, ok⟩
  obtain ⟨⟨v1, T1⟩, ⟨v2, T2⟩, rfl⟩ : ∃ z1 z2, zs = [z1, z2] := by
    match zs, hl with
    | [z1, z2], _ => exact ⟨z1, z2, rfl⟩
  obtain ⟨o1, o2, o3, o4⟩ := ok _ (List.mem_cons_self ..)
  obtain ⟨p1, p2, p3, p4⟩ := ok _ (List.mem_cons_of_mem _ (List.mem_cons_self ..))
  refine ⟨D, _, rfl, SqL.of hz, rfl, _, _, rfl, _, _, rfl, rfl, ?_⟩
  refine ⟨two_fit.2.1, fun p hp => ?_⟩
  have s3 := same_new (o := .lst [.str "or", .str "and"]) hp
  obtain ⟨wd, hw, cw⟩ := pick2 (x := .str "or") (y := .str "and") (v := r - 2) (by omega) (by omega)
  refine ⟨_, rfl, _, _, rfl, rfl, .inl ⟨p, _, r - 2, wd, rfl, rfl, SqL.of upd_same, hw, ?_⟩⟩
  refine ⟨_, rfl, _, rfl, two_fit.2.2.1, fun q hq => ?_⟩
  have s4 := same_new (o := .tup [wd, v1, v2]) hq
  have s5 := s3.trans s4
  have lv : T1.lv + T2.lv ≤ 2 ^ (e' + 1) := by
    have : 2 ^ (e' + 1) = 2 ^ e' + 2 ^ e' := by rw [Nat.pow_succ]; omega
    have q1 : T1.lv ≤ 2 ^ e' := o4
    have q2 : T2.lv ≤ 2 ^ e' := p4
    omega
  rcases cw with ⟨_, rfl⟩ | ⟨_, rfl⟩
  · exact k (.ref q) (.or T1 T2) _ ⟨q, v1, v2, rfl, SqT.of upd_same, o1.mono (Tups.same s5), p1.mono (Tups.same s5)⟩ ⟨o2, p2⟩ ⟨o3, p3⟩ lv (B2.same s5) (k2.trans (Kp.of s5))
  · exact k (.ref q) (.and T1 T2) _ ⟨q, v1, v2, rfl, SqT.of upd_same, o1.mono (Tups.same s5), p1.mono (Tups.same s5)⟩ ⟨o2, p2⟩ ⟨o3, p3⟩ lv (B2.same s5) (k2.trans (Kp.of s5))
end
end Pk
set_option Elab.async false
set_option linter.all false
set_option maxRecDepth 100000
set_option maxHeartbeats 2000000
namespace Pk
open PySem PySem.Spec L2 PyProof.Rows
section
variable {K : PySem.W.Frag} {C : Cs} {vs : List V} {H H' G G' : Hp} {Q : VK} {E : XK} {n : Nat} {v : V} {cr u1 w1 u2 w2 : Int} {T : Tr} {a1 a2 b l : Addr}
/-- a tree, two Accounts of it -/
structure St22 (K : PySem.W.Frag) (C : Cs) (G : Hp) (b l : Addr) (v : V) (T : Tr) (cr : Int) (a1 : Addr) (u1 w1 : Int) (a2 : Addr) (u2 w2 : Int) : Prop where
  bag : Bag G b l
  tr : TrAt K G v T
  A1 : AccAt K C G (.ref a1) cr T u1 w1
  A2 : AccAt K C G (.ref a2) cr T u2 w2
  ne : a1 ≠ a2
theorem St22.step (S : St22 K C G b l v T cr a1 u1 w1 a2 u2 w2) (k : Kp b G G') (B : Bag G' b l) : St22 K C G' b l v T cr a1 u1 w1 a2 u2 w2 :=
  ⟨B, S.tr.mono (S.bag.tups k), S.A1.kpB S.bag k, S.A2.kpB S.bag k, S.ne⟩
theorem St22.same (S : St22 K C G b l v T cr a1 u1 w1 a2 u2 w2) (s : Same G G') : St22 K C G' b l v T cr a1 u1 w1 a2 u2 w2 := S.step (Kp.of s) (S.bag.same s)
theorem St22.one (S : St22 K C G b l v T cr a1 u1 w1 a2 u2 w2) (k : Kp a1 G G') {u w : Int} (A : AccAt K C G' (.ref a1) cr T u w) : St22 K C G' b l v T cr a1 u w a2 u2 w2 := by
  obtain ⟨dx, r, h⟩ := S.A1.ins
  exact ⟨S.bag.kpi k h, S.tr.mono (Tups.kpi k h), A, S.A2.kpA k h rfl S.ne.symm, S.ne⟩
theorem St22.two (S : St22 K C G b l v T cr a1 u1 w1 a2 u2 w2) (k : Kp a2 G G') {u w : Int} (A : AccAt K C G' (.ref a2) cr T u w) : St22 K C G' b l v T cr a1 u1 w1 a2 u w := by
  obtain ⟨dx, r, h⟩ := S.A2.ins
  exact ⟨S.bag.kpi k h, S.tr.mono (Tups.kpi k h), S.A1.kpA k h rfl S.ne, A, S.ne⟩
theorem lk_meth {u w : Int} {r : V} : List.lookup ("flows" : Str) (accF cr r u w) = none ∧ List.lookup ("passes" : Str) (accF cr r u w) = none :=
  ⟨lk_no (by decide +kernel) (by decide +kernel) (by decide +kernel) (by decide +kernel), lk_no (by decide +kernel) (by decide +kernel) (by decide +kernel) (by decide +kernel)⟩
theorem laid_same {x dx D : Addr} (hx : G x = none) (hd : G dx = none) : Same G (upd (upd G dx (.own x)) x (.ins D dx [])) := fun b o e => by
  rw [upd_ne (ne_of_none e hx), upd_ne (ne_of_none e hd)]
  exact e
theorem made_same {x dx D : Addr} (hx : G x = none) (hd : G dx = none) (h2 : ∀ b o, (upd (upd G dx (.own x)) x (.ins D dx [])) b = some o → b ≠ x → H b = some o) : Same G H :=
  fun b o e => h2 b o (laid_same hx hd b o e) (ne_of_none e hx)
/-- where a turn ends: both alike -/
structure At22 (K : PySem.W.Frag) (C : Cs) (G : Hp) (b l : Addr) (v : V) (T : Tr) (cr : Int) (a1 a2 : Addr) (u w : Int) : Prop where
  st : St22 K C G b l v T cr a1 u w a2 u w
  u0 : 0 ≤ u
  w0 : 0 ≤ w
  w1 : w < T.top
  le : u + w ≤ cr
def t_law (K : PySem.W.Frag) (C : Cs) : TS :=
  (tSeq (tAsg (tCall (sp_law_bag K) [] E0 (tCons (tVar 0) tNil)) (gName 1))
    (tSeq (tFor (iRng1 (tCons (tC (.int 2)) tNil)) (gName 2) (tSeq (tPar 3 4 (tCons (tCall (sp_law_draw_tree K 3) [] E0 (tCons (tVar 1) (tCons (tC (.int 20)) (tCons (tC (.int 1)) (tCons (tC (.int 2)) tNil))))) (tCons (tOp (rAddU K) (tC (.int 60)) (tCall (sp_law_take K) [] E0 (tCons (tVar 1) (tCons (tC (.int 61)) tNil)))) tNil)))
    (tSeq (tPar 5 6 (tCons (tMake C.Account (sp_Account___init__ K C) [] E0 (tCons (tVar 4) (tCons (tMake C.Rule (sp_Rule___init__ K C) [] E0 (tCons (tVar 3) tNil)) tNil))) (tCons (tMake C.Account (sp_Account___init__ K C) [] E0 (tCons (tVar 4) (tCons (tMake C.Rule (sp_Rule___init__ K C) [] E0 (tCons (tVar 3) tNil)) tNil))) tNil)))
    (tFor (iRng1 (tCons (tC (.int 10)) tNil)) (gName 7) (tSeq (tPar 8 9 (tCons (tOp (rAddU K) (tC (.int 1)) (tCall (sp_law_take K) [] E0 (tCons (tVar 1) (tCons (tC (.int 9)) tNil)))) (tCons (tOp (rAddU K) (tC (.int 1)) (tCall (sp_law_take K) [] E0 (tCons (tVar 1) (tCons (tC (.int 9)) tNil)))) tNil)))
    (tSeq (tAsg (tOp (rEqU K) (tCall (sp_law_take K) [] E0 (tCons (tVar 1) (tCons (tC (.int 2)) tNil))) (tC (.int 0))) (gName 10))
    (Evl.tCut (tIfS (tB (tVar 10)) (tIfS (tTest (tOp (rGeI) (tProp C.Account (sp_Account_left K C) [] E0 (tVar 5)) (tOp (rAddU K) (tVar 8) (tCall (sp_law_threshold K 7) [] E0 (tCons (tVar 3) tNil))))) (tSeq (tPar 11 12 (tCons (tMeth C.Account "flows" (sp_Account_flows K C) [] E0 (tVar 5) (tCons (tVar 8) (tCons (tVar 9) tNil))) (tCons (tProp C.Account (sp_Account_left K C) [] E0 (tVar 6)) tNil)))
    (tSeq (tDrop (tCall (sp_law_one_by_one K C) [] E0 (tCons (tVar 6) (tCons (tVar 8) (tCons (tVar 9) (tCons (tC (.bl true)) tNil))))))
    (tSeq (tAsg (tOp (rAddU K) (tOp (rAddU K) (tVar 11) (tProp C.Account (sp_Account_withheld K C) [] E0 (tVar 6))) (tProp C.Account (sp_Account_unpassed K C) [] E0 (tVar 6))) (gName 13))
    (tIfS (tTest (tOp (rNeU K) (tOp (rAddU K) (tVar 13) (tVar 12)) (tOp (rAddU K) (tOp (rMulU K) (tVar 8) (tVar 9)) (tVar 4)))) (tRet (tC (.bl false))) tNext)))) tNext) (tIfS (tTest (tOp (rGtI) (tProp C.Account (sp_Account_left K C) [] E0 (tVar 5)) (tC (.int 0)))) (tSeq (tAsg (tOp (rAddU K) (tC (.int 1)) (tCall (sp_law_take K) [] E0 (tCons (tVar 1) (tCons (tProp C.Account (sp_Account_left K C) [] E0 (tVar 5)) tNil)))) (gName 14))
    (tSeq (tAug 5 (tVar 14) (ipOwn C.Account (sp_Account___isub__ K C) E0))
    (tSeq (tAug 6 (tVar 14) (ipOwn C.Account (sp_Account___isub__ K C) E0))
    (tSeq (tAsg (tCB (rMin2) (tCons (tVar 9) (tCons (tOp (rDivI) (tProp C.Account (sp_Account_unpassed K C) [] E0 (tVar 5)) (tVar 8)) tNil))) (gName 9))
    (tIfS (tTest (tOp (rGtI) (tVar 9) (tC (.int 0)))) (tSeq (tAsg (tProp C.Account (sp_Account_left K C) [] E0 (tVar 5)) (gName 12))
    (tSeq (tAsg (tMeth C.Account "passes" (sp_Account_passes K C) [] E0 (tVar 5) (tCons (tVar 8) (tCons (tVar 9) tNil))) (gName 11))
    (tSeq (tDrop (tCall (sp_law_one_by_one K C) [] E0 (tCons (tVar 6) (tCons (tVar 8) (tCons (tVar 9) (tCons (tC (.bl false)) tNil))))))
    (tIfS (tTest (tOp (rNeU K) (tVar 11) (tOp (rSubI) (tProp C.Account (sp_Account_left K C) [] E0 (tVar 5)) (tVar 12)))) (tRet (tC (.bl false))) tNext)))) tNext))))) tNext))
    (tSeq (tIfS (tOr (tTest (tOp (rOwnNe C.Account (sp_Account___eq__ K C) E0) (tVar 5) (tVar 6))) (tNot (tTest (tOp (rOwnEq C.Account (sp_Account___eq__ K C) E0) (tVar 5) (tVar 6))))) (tRet (tC (.bl false))) tNext)
    (tSeq (tIfS (tTest (tOp (rNeU K) (tOp (rAddU K) (tOp (rAddU K) (tProp C.Account (sp_Account_left K C) [] E0 (tVar 5)) (tProp C.Account (sp_Account_unpassed K C) [] E0 (tVar 5))) (tProp C.Account (sp_Account_withheld K C) [] E0 (tVar 5))) (tVar 4))) (tRet (tC (.bl false))) tNext)
    (tIfS (tTest (tOp (rGeI) (tProp C.Account (sp_Account_withheld K C) [] E0 (tVar 5)) (tCall (sp_law_threshold K 7) [] E0 (tCons (tVar 3) tNil)))) (tRet (tC (.bl false))) tNext))))))))))
    (tRet (tC (.bl true)))))
theorem rd_law (fx : FxRule K C) (fa : FxAccount K C) (h : sp_law K vs H Q E) : t_law K C (EndsOf Q) (start ["", "", "", "", "", "", "", "", "", "", "", "", "", "", ""] vs) H := by
  obtain ⟨a, ns, rfl, hS, _, k⟩ := h
  refine ⟨_, rfl, a, ns, rfl, hS, fun b l H1 hb hl B s1 => ?_⟩
  clear hS hb hl s1
  refine ⟨2, rfl, by decide, by decide, ?_⟩
  refine for_range (lo := 0) (n := 2) (fun i σ' G => ∃ s2 s3 s4 s5 s6 s7 s8 s9 s10 s11 s12 s13 s14, σ' = [some (.ref a), some (.ref b), s2, s3, s4, s5, s6, s7, s8, s9, s10, s11, s12, s13, s14] ∧ Bag G b l) ⟨_, _, _, _, _, _, _, _, _, _, _, _, _, rfl, B⟩ ?_ (fun σ' G _ => k G)
  clear B
  rintro i σ' G hi ⟨s2, s3, s4, s5, s6, s7, s8, s9, s10, s11, s12, s13, s14, rfl, B⟩
  refine ⟨_, rfl, b, l, 20, 1, 2, rfl, B, by decide, by decide, by decide, by decide, by decide, fun v T G1 t0 ok _ lv B1 k1 => ?_⟩
  refine ⟨_, rfl, b, l, 61, rfl, B1, by decide, by decide, fun c G2 c0 c1 B2 k2 => .inl ⟨_, _, rfl, rfl, _, _, rfl, ?_⟩⟩
  have tr2 := t0.mono (B1.tups k2)
  have l6 : T.lv ≤ 6 := by
    have : T.lv ≤ 4 := lv
    omega
  obtain ⟨t1, t2⟩ := Tr.top_ok ok
  -- two Accounts
  refine ⟨_, rfl, _, rfl, ?_⟩
  intro r1 d1 h3 h3' _
  refine ⟨r1, d1, v, T, rfl, upd_same, tr2.mono (Tups.same (laid_same h3 h3')), ok, l6, fx, fun G3 e3 o3 => ⟨rfl, ?_⟩⟩
  have s3' := made_same h3 h3' o3
  have R1 : RuleAt K C G3 (.ref r1) T := ⟨r1, d1, v, rfl, e3, tr2.mono (Tups.same s3'), ok, l6, fx⟩
  intro a1 d2 h4 h4' _
  refine ⟨a1, d2, _, _, T, rfl, upd_same, R1.same (laid_same h4 h4'), by omega, fa, fun G4 k4 A1 => ⟨rfl, ?_⟩⟩
  have s4' := made_same h4 h4' k4
  have s24 := s3'.trans s4'
  refine ⟨_, rfl, _, rfl, ?_⟩
  have tr4 := tr2.mono (Tups.same s24)
  intro r2 d3 h5 h5' _
  refine ⟨r2, d3, v, T, rfl, upd_same, tr4.mono (Tups.same (laid_same h5 h5')), ok, l6, fx, fun G5 e5 o5 => ⟨rfl, ?_⟩⟩
  have s5' := made_same h5 h5' o5
  have R2 : RuleAt K C G5 (.ref r2) T := ⟨r2, d3, v, rfl, e5, tr4.mono (Tups.same s5'), ok, l6, fx⟩
  intro a2 d4 h6 h6' _
  refine ⟨a2, d4, _, _, T, rfl, upd_same, R2.same (laid_same h6 h6'), by omega, fa, fun G6 k6 A2 => ⟨rfl, _, _, rfl, ?_⟩⟩
  have s6' := made_same h6 h6' k6
  have s46 := s5'.trans s6'
  have ne : a1 ≠ a2 := by
    obtain ⟨dx, r, h⟩ := A1.ins
    exact ne_of_none (s5' _ _ h) h6
  have S : At22 K C G6 b l v T (60 + c) a1 a2 0 0 := ⟨⟨(B2.same s24).same s46, (tr2.mono (Tups.same s24)).mono (Tups.same s46), A1.same s46, A2, ne⟩, by omega, by omega, by omega, by omega⟩
  dsimp only
  generalize hcr : 60 + c = cr at S ⊢
  have cr0 : 60 ≤ cr := by omega
  have cr1 : cr ≤ 120 := by omega
  clear hcr c0 c1 B B1 B2 k1 k2 t0 tr2 tr4 s3' s4' s5' s6' s24 s46 A1 A2 R1 R2 ne h3 h4 h5 h6 h3' h4' h5' h6' lv e3 o3 k4 e5 o5 k6
  -- ten turns
  refine ⟨10, rfl, by decide, by decide, ?_⟩
  refine for_range (lo := 0) (n := 10) (fun j σ' G => ∃ s7 s8 s9 s10 s11 s12 s13 s14 u w, σ' = [some (.ref a), some (.ref b), some (.int (0 + i)), some v, some (.int cr), some (.ref a1), some (.ref a2), s7, s8, s9, s10, s11, s12, s13, s14] ∧ At22 K C G b l v T cr a1 a2 u w)
    ⟨_, _, _, _, _, _, _, _, _, _, rfl, S⟩ ?_ (fun σ' G ⟨_, _, _, _, _, _, _, _, _, _, e, S⟩ => ⟨_, _, _, _, _, _, _, _, _, _, _, _, _, e, S.st.bag⟩)
  clear S s2 s3 s4 s5 s6 s7 s8 s9 s10 s11 s12 s13 s14
  rintro j σ' G hj ⟨s7, s8, s9, s10, s11, s12, s13, s14, u, w, rfl, P⟩
  obtain ⟨S, u0, w0, w1, le⟩ := P
  refine ⟨_, rfl, b, l, 9, rfl, S.bag, by decide, by decide, fun z' G1 z0 z1 B1 k1 => .inl ⟨_, _, rfl, rfl, ?_⟩⟩
  have S1 := S.step k1 B1
  refine ⟨_, rfl, b, l, 9, rfl, S1.bag, by decide, by decide, fun m' G2 m0 m1 B2 k2 => .inl ⟨_, _, rfl, rfl, _, _, rfl, ?_⟩⟩
  have S2 := S1.step k2 B2
  refine ⟨_, rfl, b, l, 2, rfl, S2.bag, by decide, by decide, fun x G3 x0 x1 B3 k3 => .inl ⟨rfl, ?_⟩⟩
  have S3 := S2.step k3 B3
  obtain ⟨z, hz, z1', z2'⟩ : ∃ z, 1 + z' = z ∧ 1 ≤ z ∧ z ≤ 9 := ⟨_, rfl, by omega, by omega⟩
  obtain ⟨m, hm, hm1, hm2⟩ : ∃ m : Nat, 1 + m' = m ∧ 1 ≤ m ∧ m ≤ 9 := ⟨(1 + m').toNat, by omega, by omega, by omega⟩
  generalize hxx : decide (V.int x = V.int 0) = f
  show Evl.tCut _ _ _ [some (.ref a), some (.ref b), some (.int (0 + i)), some v, some (.int cr), some (.ref a1), some (.ref a2), some (.int (0 + j)), some (.int (1 + z')), some (.int (1 + m')), some (.bl f), s11, s12, s13, s14] G3
  rw [hz, hm]
  clear hz hm z0 z1 m0 m1 x0 x1 hxx S S1 S2 B1 B2 B3 k1 k2 k3
  refine ⟨fun σ2 G2 => ∃ s9 s11 s12 s13 s14 u w, σ2 = [some (.ref a), some (.ref b), some (.int (0 + i)), some v, some (.int cr), some (.ref a1), some (.ref a2), some (.int (0 + j)), some (.int z), s9, some (.bl f), s11, s12, s13, s14] ∧ At22 K C G2 b l v T cr a1 a2 u w, ?_, ?_⟩
  · obtain ⟨dx1, r1, ha1⟩ := S3.A1.ins
    refine ⟨_, rfl, f, rfl, ?_⟩
    cases f with
    | true =>
      refine iteT' rfl ?_
      refine ⟨_, rfl, a1, dx1, _, rfl, ha1, _, cr, T, u, w, rfl, S3.A1, _, rfl, _, rfl, v, T, rfl, S3.tr, Tr.dp6 l6, fun G4 g4 => .inl ⟨_, _, rfl, rfl, _, _, rfl, rfl, _, rfl, ?_⟩⟩
      have S4 := S3.same g4
      refine ifD (fun cc => ?_) (fun cc => ⟨_, _, _, _, _, u, w, rfl, S4, u0, w0, w1, le⟩)
      -- flows at once, and one by one
      have pl := Tr.pk_lt ok z1' w0 w1 m
      obtain ⟨q0, q1⟩ := Tr.kp_ok ok z1' w0 w1 m
      have em : (m : Int).toNat = m := by omega
      refine ⟨_, rfl, a1, dx1, _, rfl, g4 _ _ ha1, lk_meth.1, _, rfl, _, rfl, a1, cr, T, u, w, z, m, rfl, S4.A1, w0, w1, z1', by omega, by omega, by omega, by rw [em]; omega, fun G5 k5 A5 => ?_⟩
      rw [em] at A5 ⊢
      have S5 := S4.one k5 A5
      obtain ⟨dx2, r2, ha2⟩ := S5.A2.ins
      refine ⟨_, rfl, a2, dx2, _, rfl, ha2, _, cr, T, u, w, rfl, S5.A2, _, _, rfl, ?_⟩
      refine ⟨_, rfl, _, rfl, _, rfl, a2, cr, T, u, w, z, m, true, rfl, S5.A2, w0, w1, z1', by omega, u0, .inl ⟨rfl, by omega⟩, fun G6 k6 A6 => ?_⟩
      have S6 := S5.two k6 A6
      obtain ⟨dx3, r3, ha3⟩ := S6.A2.ins
      refine ⟨_, rfl, _, rfl, a2, dx3, _, rfl, ha3, _, cr, T, _, _, rfl, S6.A2, .inl ⟨_, _, rfl, rfl, ?_⟩⟩
      refine ⟨_, rfl, a2, dx3, _, rfl, ha3, _, cr, T, _, _, rfl, S6.A2, .inl ⟨_, _, rfl, rfl, ?_⟩⟩
      refine ⟨_, rfl, _, rfl, .inl ⟨_, _, rfl, rfl, _, rfl, _, rfl, .inl ⟨_, _, rfl, rfl, mul_ok (by omega) (by omega), _, rfl, .inl ⟨_, _, rfl, rfl, .inl ⟨rfl, _, rfl, ?_⟩⟩⟩⟩⟩
      have ec : z * (m : Int) = m * z := Int.mul_comm _ _
      refine iteF' ?_ ⟨_, _, _, _, _, u, _, rfl, S6, u0, q0, q1, ?_⟩
      · simp
        omega
      · omega
    | false =>
      refine iteF' rfl ?_
      refine ⟨_, rfl, a1, dx1, _, rfl, ha1, _, cr, T, u, w, rfl, S3.A1, _, _, rfl, rfl, _, rfl, ?_⟩
      refine ifD (fun cc => ?_) (fun cc => ⟨_, _, _, _, _, u, w, rfl, S3, u0, w0, w1, le⟩)
      -- letters are sent
      refine ⟨_, rfl, _, rfl, a1, dx1, _, rfl, ha1, _, cr, T, u, w, rfl, S3.A1, ?_⟩
      refine ⟨b, l, _, rfl, S3.bag, by omega, by omega, fun y G4 y0 y1 B4 k4 => .inl ⟨_, _, rfl, rfl, ?_⟩⟩
      have S4 := S3.step k4 B4
      obtain ⟨dx2, r2, ha2⟩ := S4.A1.ins
      refine ⟨_, rfl, _, rfl, a1, dx2, _, rfl, ha2, a1, cr, T, u, w, _, rfl, S4.A1, by omega, fun G5 k5 A5 => ?_⟩
      have S5 := S4.one k5 A5
      obtain ⟨dx3, r3, ha3⟩ := S5.A2.ins
      refine ⟨_, rfl, _, rfl, a2, dx3, _, rfl, ha3, a2, cr, T, u, w, _, rfl, S5.A2, by omega, fun G6 k6 A6 => ?_⟩
      have S6 := S5.two k6 A6
      clear S3 S4 S5 A5 A6 k4 k5 k6 B4 ha2 ha3
      obtain ⟨un, hun, un0⟩ : ∃ un, u + (1 + y) = un ∧ 0 ≤ un := ⟨_, rfl, by omega⟩
      have le2 : un + w ≤ cr := by omega
      rw [hun] at S6
      clear hun
      obtain ⟨dx4, r4, ha4⟩ := S6.A1.ins
      refine ⟨_, rfl, _, rfl, a1, dx4, _, rfl, ha4, _, cr, T, _, _, rfl, S6.A1, _, rfl, _, _, rfl, rfl, div_ok (by omega) (by omega), _, _, rfl, ?_⟩
      have d0 : 0 ≤ un / z := Int.ediv_nonneg un0 (by omega)
      have d1 : z * (un / z) ≤ un := Int.mul_ediv_self_le (by omega)
      obtain ⟨mm, hmm, hm0, hm1', hmz⟩ : ∃ mm : Nat, (if un / z < (m : Int) then un / z else (m : Int)) = mm ∧ mm ≤ 9 ∧ (mm : Int) ≤ un / z ∧ z * (mm : Int) ≤ un := by
        refine ⟨(if un / z < (m : Int) then un / z else (m : Int)).toNat, by split <;> omega, by split <;> omega, by split <;> omega, ?_⟩
        have : z * (((if un / z < (m : Int) then un / z else (m : Int)).toNat : Nat) : Int) ≤ z * (un / z) := Int.mul_le_mul_of_nonneg_left (by split <;> omega) (by omega)
        omega
      refine ⟨_, rfl, _, _, rfl, rfl, _, rfl, ?_⟩
      refine ifD (fun c2 => ?_) (fun c2 => ⟨_, _, _, _, _, un, w, rfl, S6, un0, w0, w1, le2⟩)
      rw [hmm] at c2 ⊢
      -- they pass, at once and one by one
      obtain ⟨q0, q1⟩ := Tr.kp_ok ok z1' w0 w1 mm
      have em : (mm : Int).toNat = mm := by omega
      refine ⟨_, rfl, a1, dx4, _, rfl, ha4, _, cr, T, _, _, rfl, S6.A1, ?_⟩
      refine ⟨_, rfl, a1, dx4, _, rfl, ha4, lk_meth.2, _, rfl, _, rfl, a1, cr, T, un, w, z, mm, rfl, S6.A1, w0, w1, z1', by omega, by omega, by omega, hmz, fun G7 k7 A7 => ?_⟩
      rw [em] at A7 ⊢
      have S7 := S6.one k7 A7
      have ec : z * (mm : Int) = mm * z := Int.mul_comm _ _
      refine ⟨_, rfl, _, rfl, _, rfl, a2, cr, T, un, w, z, mm, false, rfl, S7.A2, w0, w1, z1', by omega, un0, .inr ⟨rfl, by omega⟩, fun G8 k8 A8 => ?_⟩
      have S8 := S7.two k8 A8
      rw [if_neg (by decide), ← ec] at S8
      obtain ⟨dx5, r5, ha5⟩ := S8.A1.ins
      refine ⟨_, rfl, _, rfl, a1, dx5, _, rfl, ha5, _, cr, T, _, _, rfl, S8.A1, _, rfl, _, _, rfl, rfl, .inl ⟨rfl, _, rfl, ?_⟩⟩
      have kl := (Tr.kp_le ok z1' w0 mm).2
      refine iteF' ?_ ⟨_, _, _, _, _, _, _, rfl, S8, by omega, q0, q1, by omega⟩
      simp
      omega
  · clear S3 u0 w0 w1 le hm1 hm2
    rintro σ2 G2 ⟨s9, s11, s12, s13, s14, u, w, rfl, S, u0, w0, w1, le⟩
    -- equal all the time
    obtain ⟨dx1, r1, ha1⟩ := S.A1.ins
    obtain ⟨dx2, r2, ha2⟩ := S.A2.ins
    refine ⟨_, rfl, _, rfl, a1, a2, dx1, _, dx2, _, rfl, rfl, ha1, ha2, _, _, cr, T, u, w, rfl, S.A1, S.A2, by omega, by omega, by omega, by omega, by omega, by omega, fun G3 g3 => ⟨true, rfl, _, rfl, iteF' rfl ?_⟩⟩
    have S3 := S.same g3
    refine ⟨_, rfl, _, rfl, a1, a2, dx1, _, dx2, _, rfl, rfl, g3 _ _ ha1, g3 _ _ ha2, _, _, cr, T, u, w, rfl, S3.A1, S3.A2, by omega, by omega, by omega, by omega, by omega, by omega, fun G4 g4 => ⟨true, rfl, _, rfl, iteF' rfl ?_⟩⟩
    have S4 := S3.same g4
    have ha4 := g4 _ _ (g3 _ _ ha1)
    -- the credit in all
    refine ⟨_, rfl, a1, dx1, _, rfl, ha4, _, cr, T, u, w, rfl, S4.A1, _, rfl, a1, dx1, _, rfl, ha4, _, cr, T, u, w, rfl, S4.A1, .inl ⟨_, _, rfl, rfl, ?_⟩⟩
    refine ⟨_, rfl, a1, dx1, _, rfl, ha4, _, cr, T, u, w, rfl, S4.A1, .inl ⟨_, _, rfl, rfl, _, rfl, .inl ⟨rfl, _, rfl, iteF' (by simp; omega) ?_⟩⟩⟩
    refine ⟨_, rfl, a1, dx1, _, rfl, ha4, _, cr, T, u, w, rfl, S4.A1, _, rfl, v, T, rfl, S4.tr, Tr.dp6 l6, fun G5 g5 => ⟨_, _, rfl, rfl, _, rfl, iteF' (decide_eq_false (by omega)) ?_⟩⟩
    exact ⟨_, _, _, _, _, _, _, _, u, w, rfl, S4.same g5, u0, w0, w1, le⟩
end
end Pk
set_option maxHeartbeats 4000000
namespace Lw
open PySem PySem.Spec L2 PyProof.Rows Pk
def top (i : Nat) : Stmt := PySem.Challenge.pw_sharedpipe_k22_whole_many_amounts_in_acc.main.body.getD i (.Pass ⟨0, 0, 0, 0⟩)
abbrev s_Rule___eq__ : Stmt := (inClass (top 28) 7)
abbrev N_Rule___eq__ : List Str := ["self", "other"]
abbrev P_Rule___eq__ : List Str := ["self", "other"]
theorem sc_Rule___eq__ : FnScope N_Rule___eq__ P_Rule___eq__ (defScope s_Rule___eq__) := ⟨rfl, rfl, rfl, by decide +kernel, rfl, by decide +kernel, by decide +kernel⟩
abbrev s_Account___eq__ : Stmt := (inClass (top 31) 7)
abbrev N_Account___eq__ : List Str := ["self", "other", "mine"]
abbrev P_Account___eq__ : List Str := ["self", "other"]
theorem sc_Account___eq__ : FnScope N_Account___eq__ P_Account___eq__ (defScope s_Account___eq__) := ⟨rfl, rfl, rfl, by decide +kernel, rfl, by decide +kernel, by decide +kernel⟩
abbrev s_is_integer : Stmt := (top 8)
abbrev N_is_integer : List Str := ["thing"]
abbrev P_is_integer : List Str := ["thing"]
theorem sc_is_integer : FnScope N_is_integer P_is_integer (defScope s_is_integer) := ⟨rfl, rfl, rfl, by decide +kernel, rfl, by decide +kernel, by decide +kernel⟩
abbrev s_is_number : Stmt := (top 9)
abbrev N_is_number : List Str := ["least", "thing"]
abbrev P_is_number : List Str := ["least", "thing"]
theorem sc_is_number : FnScope N_is_number P_is_number (defScope s_is_number) := ⟨rfl, rfl, rfl, by decide +kernel, rfl, by decide +kernel, by decide +kernel⟩
abbrev s_Account___init__ : Stmt := (inClass (top 31) 0)
abbrev N_Account___init__ : List Str := ["self", "credit", "rule"]
abbrev P_Account___init__ : List Str := ["self", "credit", "rule"]
theorem sc_Account___init__ : FnScope N_Account___init__ P_Account___init__ (defScope s_Account___init__) := ⟨rfl, rfl, rfl, by decide +kernel, rfl, by decide +kernel, by decide +kernel⟩
abbrev s_Account_left : Stmt := (inClass (top 31) 3)
abbrev N_Account_left : List Str := ["self"]
abbrev P_Account_left : List Str := ["self"]
theorem sc_Account_left : FnScope N_Account_left P_Account_left (defScope s_Account_left) := ⟨rfl, rfl, rfl, by decide +kernel, rfl, by decide +kernel, by decide +kernel⟩
abbrev s_Account___isub__ : Stmt := (inClass (top 31) 8)
abbrev N_Account___isub__ : List Str := ["self", "many"]
abbrev P_Account___isub__ : List Str := ["self", "many"]
theorem sc_Account___isub__ : FnScope N_Account___isub__ P_Account___isub__ (defScope s_Account___isub__) := ⟨rfl, rfl, rfl, by decide +kernel, rfl, by decide +kernel, by decide +kernel⟩
abbrev s_given : Stmt := (top 21)
abbrev N_given : List Str := ["tree", "amount", "word", "one", "other"]
abbrev P_given : List Str := ["tree", "amount"]
theorem sc_given : FnScope N_given P_given (defScope s_given) := ⟨rfl, rfl, rfl, by decide +kernel, rfl, by decide +kernel, by decide +kernel⟩
abbrev s_Rule_rest : Stmt := (inClass (top 28) 2)
abbrev N_Rule_rest : List Str := ["self", "amount"]
abbrev P_Rule_rest : List Str := ["self", "amount"]
theorem sc_Rule_rest : FnScope N_Rule_rest P_Rule_rest (defScope s_Rule_rest) := ⟨rfl, rfl, rfl, by decide +kernel, rfl, by decide +kernel, by decide +kernel⟩
abbrev s_threshold_of : Stmt := (top 22)
abbrev N_threshold_of : List Str := ["tree", "word", "one", "other"]
abbrev P_threshold_of : List Str := ["tree"]
theorem sc_threshold_of : FnScope N_threshold_of P_threshold_of (defScope s_threshold_of) := ⟨rfl, rfl, rfl, by decide +kernel, rfl, by decide +kernel, by decide +kernel⟩
abbrev s_Rule_threshold : Stmt := (inClass (top 28) 3)
abbrev N_Rule_threshold : List Str := ["self"]
abbrev P_Rule_threshold : List Str := ["self"]
theorem sc_Rule_threshold : FnScope N_Rule_threshold P_Rule_threshold (defScope s_Rule_threshold) := ⟨rfl, rfl, rfl, by decide +kernel, rfl, by decide +kernel, by decide +kernel⟩
abbrev s_steps_to_give : Stmt := (top 12)
abbrev N_steps_to_give : List Str := ["rule", "withheld", "size"]
abbrev P_steps_to_give : List Str := ["rule", "withheld", "size"]
theorem sc_steps_to_give : FnScope N_steps_to_give P_steps_to_give (defScope s_steps_to_give) := ⟨rfl, rfl, rfl, by decide +kernel, rfl, by decide +kernel, by decide +kernel⟩
abbrev s_repeated : Stmt := (top 11)
abbrev N_repeated : List Str := ["rule", "withheld", "size", "many", "seen", "left", "total", "peak", "steps", "amount", "left_then", "total_then", "turns"]
abbrev P_repeated : List Str := ["rule", "withheld", "size", "many"]
theorem sc_repeated : FnScope N_repeated P_repeated (defScope s_repeated) := ⟨rfl, rfl, rfl, by decide +kernel, rfl, by decide +kernel, by decide +kernel⟩
abbrev s_Account_flows : Stmt := (inClass (top 31) 11)
abbrev N_Account_flows : List Str := ["self", "size", "many", "withheld", "total", "peak"]
abbrev P_Account_flows : List Str := ["self", "size", "many"]
theorem sc_Account_flows : FnScope N_Account_flows P_Account_flows (defScope s_Account_flows) := ⟨rfl, rfl, rfl, by decide +kernel, rfl, by decide +kernel, by decide +kernel⟩
abbrev s_Account_passes : Stmt := (inClass (top 31) 10)
abbrev N_Account_passes : List Str := ["self", "size", "many", "withheld", "total", "_"]
abbrev P_Account_passes : List Str := ["self", "size", "many"]
theorem sc_Account_passes : FnScope N_Account_passes P_Account_passes (defScope s_Account_passes) := ⟨rfl, rfl, rfl, by decide +kernel, rfl, by decide +kernel, by decide +kernel⟩
abbrev s_Account_unpassed : Stmt := (inClass (top 31) 4)
abbrev N_Account_unpassed : List Str := ["self"]
abbrev P_Account_unpassed : List Str := ["self"]
theorem sc_Account_unpassed : FnScope N_Account_unpassed P_Account_unpassed (defScope s_Account_unpassed) := ⟨rfl, rfl, rfl, by decide +kernel, rfl, by decide +kernel, by decide +kernel⟩
abbrev s_Account_withheld : Stmt := (inClass (top 31) 5)
abbrev N_Account_withheld : List Str := ["self"]
abbrev P_Account_withheld : List Str := ["self"]
theorem sc_Account_withheld : FnScope N_Account_withheld P_Account_withheld (defScope s_Account_withheld) := ⟨rfl, rfl, rfl, by decide +kernel, rfl, by decide +kernel, by decide +kernel⟩
abbrev s_has_word : Stmt := (top 17)
abbrev N_has_word : List Str := ["thing", "words"]
abbrev P_has_word : List Str := ["thing", "words"]
theorem sc_has_word : FnScope N_has_word P_has_word (defScope s_has_word) := ⟨rfl, rfl, rfl, by decide +kernel, rfl, by decide +kernel, by decide +kernel⟩
abbrev s_is_by : Stmt := (top 19)
abbrev N_is_by : List Str := ["thing"]
abbrev P_is_by : List Str := ["thing"]
theorem sc_is_by : FnScope N_is_by P_is_by (defScope s_is_by) := ⟨rfl, rfl, rfl, by decide +kernel, rfl, by decide +kernel, by decide +kernel⟩
abbrev s_is_leaf : Stmt := (top 18)
abbrev N_is_leaf : List Str := ["thing"]
abbrev P_is_leaf : List Str := ["thing"]
theorem sc_is_leaf : FnScope N_is_leaf P_is_leaf (defScope s_is_leaf) := ⟨rfl, rfl, rfl, by decide +kernel, rfl, by decide +kernel, by decide +kernel⟩
abbrev s_is_tree : Stmt := (top 20)
abbrev N_is_tree : List Str := ["thing", "waiting", "leaves", "part"]
abbrev P_is_tree : List Str := ["thing"]
theorem sc_is_tree : FnScope N_is_tree P_is_tree (defScope s_is_tree) := ⟨rfl, rfl, rfl, by decide +kernel, rfl, by decide +kernel, by decide +kernel⟩
abbrev s_Rule___init__ : Stmt := (inClass (top 28) 0)
abbrev N_Rule___init__ : List Str := ["self", "tree"]
abbrev P_Rule___init__ : List Str := ["self", "tree"]
theorem sc_Rule___init__ : FnScope N_Rule___init__ P_Rule___init__ (defScope s_Rule___init__) := ⟨rfl, rfl, rfl, by decide +kernel, rfl, by decide +kernel, by decide +kernel⟩
abbrev s__law_bag : Stmt := (top 33)
abbrev N__law_bag : List Str := ["_law_script", "_law_cell"]
abbrev P__law_bag : List Str := ["_law_script"]
theorem sc__law_bag : FnScope N__law_bag P__law_bag (defScope s__law_bag) := ⟨rfl, rfl, rfl, by decide +kernel, rfl, by decide +kernel, by decide +kernel⟩
abbrev s__law_take : Stmt := (top 34)
abbrev N__law_take : List Str := ["_law_bag_here", "_law_many", "_law_cell", "_law_mixed", "_law_value", "_law_begin", "_law_second"]
abbrev P__law_take : List Str := ["_law_bag_here", "_law_many"]
theorem sc__law_take : FnScope N__law_take P__law_take (defScope s__law_take) := ⟨rfl, rfl, rfl, by decide +kernel, rfl, by decide +kernel, by decide +kernel⟩
abbrev s__law_draw_size : Stmt := (top 35)
abbrev N__law_draw_size : List Str := ["_law_bag_here", "_law_top", "_law_scale"]
abbrev P__law_draw_size : List Str := ["_law_bag_here", "_law_top", "_law_scale"]
theorem sc__law_draw_size : FnScope N__law_draw_size P__law_draw_size (defScope s__law_draw_size) := ⟨rfl, rfl, rfl, by decide +kernel, rfl, by decide +kernel, by decide +kernel⟩
abbrev s__law_draw_tree : Stmt := (top 36)
abbrev N__law_draw_tree : List Str := ["_law_bag_here", "_law_top", "_law_scale", "_law_depth", "_law_way", "_law_one", "_law_other", "_law_k"]
abbrev P__law_draw_tree : List Str := ["_law_bag_here", "_law_top", "_law_scale", "_law_depth"]
theorem sc__law_draw_tree : FnScope N__law_draw_tree P__law_draw_tree (defScope s__law_draw_tree) := ⟨rfl, rfl, rfl, by decide +kernel, rfl, by decide +kernel, by decide +kernel⟩
abbrev s_Account___iadd__ : Stmt := (inClass (top 31) 9)
abbrev N_Account___iadd__ : List Str := ["self", "many"]
abbrev P_Account___iadd__ : List Str := ["self", "many"]
theorem sc_Account___iadd__ : FnScope N_Account___iadd__ P_Account___iadd__ (defScope s_Account___iadd__) := ⟨rfl, rfl, rfl, by decide +kernel, rfl, by decide +kernel, by decide +kernel⟩
abbrev s__law_one_by_one : Stmt := (top 38)
abbrev N__law_one_by_one : List Str := ["_law_account", "_law_size", "_law_many", "_law_is_flow", "_law_k"]
abbrev P__law_one_by_one : List Str := ["_law_account", "_law_size", "_law_many", "_law_is_flow"]
theorem sc__law_one_by_one : FnScope N__law_one_by_one P__law_one_by_one (defScope s__law_one_by_one) := ⟨rfl, rfl, rfl, by decide +kernel, rfl, by decide +kernel, by decide +kernel⟩
abbrev s__law_threshold : Stmt := (top 37)
abbrev N__law_threshold : List Str := ["_law_tree", "_law_word", "_law_one", "_law_other", "_law_pair"]
abbrev P__law_threshold : List Str := ["_law_tree"]
theorem sc__law_threshold : FnScope N__law_threshold P__law_threshold (defScope s__law_threshold) := ⟨rfl, rfl, rfl, by decide +kernel, rfl, by decide +kernel, by decide +kernel⟩
abbrev s_law : Stmt := (top 39)
abbrev N_law : List Str := ["_law_script", "_law_bag_here", "_law_turn", "_law_tree", "_law_credit", "_law_one", "_law_other", "_law_k", "_law_size", "_law_many", "_law_is_flow", "_law_back", "_law_elder", "_law_total", "_law_sent"]
abbrev P_law : List Str := ["_law_script"]
theorem sc_law : FnScope N_law P_law (defScope s_law) := ⟨rfl, rfl, rfl, by decide +kernel, rfl, by decide +kernel, by decide +kernel⟩
structure Bl (mg : Str → Option Value) : Prop where
  none_ : True
  b_abs : mg "abs" = none
  b_bool : mg "bool" = none
  b_int : mg "int" = none
  b_isinstance : mg "isinstance" = none
  b_len : mg "len" = none
  b_max : mg "max" = none
  b_min : mg "min" = none
  b_range : mg "range" = none
  b_str : mg "str" = none
  b_tuple : mg "tuple" = none
  g_MOST_BY : ∃ t, mg "MOST_BY" = some (.int 6 t)
  g_MOST_LEAVES : ∃ t, mg "MOST_LEAVES" = some (.int 6 t)
section
variable {P : Program} {w : World} {K : PySem.W.Frag} {mg : Str → Option Value} {base : Heap} {C : Cs}
theorem ok_Rule___eq__ {f : Addr} {fd : FuncData} (F : Fun K "__eq__" "Rule.__eq__" s_Rule___eq__ f fd) (T : Bl mg)  (K_Rule : Kls K mg "Rule" C.Rule) : FnOk P w K mg base CX0 1 f fd P_Rule___eq__ (sp_Rule___eq__ K C) := by
  obtain ⟨t_MOST_BY, g_MOST_BY⟩ := T.g_MOST_BY
  obtain ⟨t_MOST_LEAVES, g_MOST_LEAVES⟩ := T.g_MOST_LEAVES
  refine F.ok sc_Rule___eq__ (fun vs H Q E h => ln_Rule___eq__ h) (fun cdv A outer s H vs Q E hr h => ⟨t_Rule___eq__ K C, ?_, rd_Rule___eq__  h⟩)
  exact (pss_cons (ps_if (pt_not (pt_val (pe_callB call_isi rfl T.b_isinstance Pk.boot_isinstance (pa_cons (pv 1) (pa_cons (pe_glob rfl K_Rule.at_ rfl) pa_nil))))) (pss_one (ps_ret pe_bl)) pss_nil)
    (pss_one (ps_ret (pe_or (pe_cmpR (opEq hr.units) (pe_fld (pv 0) rfl) (pe_fld (pv 1) rfl) (nomark _)) (pe_one pe_none)))))
theorem ok_Account___eq__ {f : Addr} {fd : FuncData} (F : Fun K "__eq__" "Account.__eq__" s_Account___eq__ f fd) (T : Bl mg)  (o_Rule___eq__ : Own P w K mg base CX0 1 C.Rule "__eq__" P_Rule___eq__ (sp_Rule___eq__ K C)) (K_Rule : Kls K mg "Rule" C.Rule) (K_Account : Kls K mg "Account" C.Account) : FnOk P w K mg base CX0 3 f fd P_Account___eq__ (sp_Account___eq__ K C) := by
  obtain ⟨t_MOST_BY, g_MOST_BY⟩ := T.g_MOST_BY
  obtain ⟨t_MOST_LEAVES, g_MOST_LEAVES⟩ := T.g_MOST_LEAVES
  refine F.ok sc_Account___eq__ (fun vs H Q E h => ln_Account___eq__ h) (fun cdv A outer s H vs Q E hr h => ⟨t_Account___eq__ K C, ?_, rd_Account___eq__  h⟩)
  exact (pss_cons (ps_if (pt_not (pt_val (pe_callB call_isi rfl T.b_isinstance Pk.boot_isinstance (pa_cons (pv 1) (pa_cons (pe_glob rfl K_Account.at_ rfl) pa_nil))))) (pss_one (ps_ret pe_bl)) pss_nil)
    (pss_cons (ps_set (i := 2) sc_Account___eq__.nd rfl (Or.inl rfl) (pe_tup (pa_cons (pe_fld (pv 0) rfl) (pa_cons (pe_fld (pv 0) rfl) (pa_cons (pe_fld (pv 0) rfl) pa_nil)))))
    (pss_one (ps_ret (pe_and (pe_cmpR (opEq hr.units) (pv 2) (pe_tup (pa_cons (pe_fld (pv 1) rfl) (pa_cons (pe_fld (pv 1) rfl) (pa_cons (pe_fld (pv 1) rfl) pa_nil)))) (nomark _)) (pe_one (pe_cmpR (op_eqOwn K_Rule o_Rule___eq__ hr pass0) (pe_fld (pv 0) rfl) (pe_fld (pv 1) rfl) (nomark _))))))))
theorem ok_is_integer {f : Addr} {fd : FuncData} (F : Fun K "is_integer" "is_integer" s_is_integer f fd) (T : Bl mg)   : FnOk P w K mg base CX0 1 f fd P_is_integer (sp_is_integer K) := by
  obtain ⟨t_MOST_BY, g_MOST_BY⟩ := T.g_MOST_BY
  obtain ⟨t_MOST_LEAVES, g_MOST_LEAVES⟩ := T.g_MOST_LEAVES
  refine F.ok sc_is_integer (fun vs H Q E h => ln_is_integer h) (fun cdv A outer s H vs Q E hr h => ⟨t_is_integer K, ?_, rd_is_integer  h⟩)
  exact (pss_one (ps_ret (pe_and (pe_callB call_isi rfl T.b_isinstance Pk.boot_isinstance (pa_cons (pv 0) (pa_cons (pe_bltn (v := .ty "int") rfl T.b_int Pk.boot_t_int rfl) pa_nil))) (pe_one (pe_not (pe_callB call_isi rfl T.b_isinstance Pk.boot_isinstance (pa_cons (pv 0) (pa_cons (pe_bltn (v := .ty "bool") rfl T.b_bool Pk.boot_t_bool rfl) pa_nil))))))))
theorem ok_is_number {f : Addr} {fd : FuncData} (F : Fun K "is_number" "is_number" s_is_number f fd) (T : Bl mg)  (f_is_integer : Cal P w K mg base CX0 1 "is_integer" P_is_integer [] (sp_is_integer K)) : FnOk P w K mg base CX0 2 f fd P_is_number (sp_is_number K) := by
  obtain ⟨t_MOST_BY, g_MOST_BY⟩ := T.g_MOST_BY
  obtain ⟨t_MOST_LEAVES, g_MOST_LEAVES⟩ := T.g_MOST_LEAVES
  refine F.ok sc_is_number (fun vs H Q E h => ln_is_number h) (fun cdv A outer s H vs Q E hr h => ⟨t_is_number K, ?_, rd_is_number  h⟩)
  exact (pss_one (ps_ret (pe_and (pe_cal f_is_integer hr pass0 (pa_cons (pv 1) pa_nil)) (pe_one (pe_cmpR opGe (pv 1) (pv 0) (nomark _))))))
theorem ok_Account___init__ {f : Addr} {fd : FuncData} (F : Fun K "__init__" "Account.__init__" s_Account___init__ f fd) (T : Bl mg)  (K_Rule : Kls K mg "Rule" C.Rule) (f_is_number : Cal P w K mg base CX0 2 "is_number" P_is_number [] (sp_is_number K)) : FnOk P w K mg base CX0 3 f fd P_Account___init__ (sp_Account___init__ K C) := by
  obtain ⟨t_MOST_BY, g_MOST_BY⟩ := T.g_MOST_BY
  obtain ⟨t_MOST_LEAVES, g_MOST_LEAVES⟩ := T.g_MOST_LEAVES
  refine F.ok sc_Account___init__ (fun vs H Q E h => ln_Account___init__ h) (fun cdv A outer s H vs Q E hr h => ⟨t_Account___init__ K C, ?_, rd_Account___init__  h⟩)
  exact (pss_cons (ps_if (pt_not (pt_val (pe_cal f_is_number hr pass0 (pa_cons pe_int (pa_cons (pv 1) pa_nil))))) (pss_one ps_never) pss_nil)
    (pss_cons (ps_if (pt_not (pt_val (pe_callB call_isi rfl T.b_isinstance Pk.boot_isinstance (pa_cons (pv 2) (pa_cons (pe_glob rfl K_Rule.at_ rfl) pa_nil))))) (pss_one ps_never) pss_nil)
    (pss_cons (ps_fld (pv 0) (pv 1) rfl)
    (pss_cons (ps_fld (pv 0) (pv 2) rfl)
    (pss_cons (ps_fld (pv 0) pe_int rfl)
    (pss_one (ps_fld (pv 0) pe_int rfl)))))))
theorem ok_Account_left {f : Addr} {fd : FuncData} (F : Fun K "left" "Account.left" s_Account_left f fd) (T : Bl mg)   : FnOk P w K mg base CX0 1 f fd P_Account_left (sp_Account_left K C) := by
  obtain ⟨t_MOST_BY, g_MOST_BY⟩ := T.g_MOST_BY
  obtain ⟨t_MOST_LEAVES, g_MOST_LEAVES⟩ := T.g_MOST_LEAVES
  refine F.ok sc_Account_left (fun vs H Q E h => ln_Account_left h) (fun cdv A outer s H vs Q E hr h => ⟨t_Account_left K, ?_, rd_Account_left  h⟩)
  exact (pss_one (ps_ret (pe_op opSub (pe_op opSub (pe_fld (pv 0) rfl) (pe_fld (pv 0) rfl)) (pe_fld (pv 0) rfl))))
theorem ok_Account___isub__ {f : Addr} {fd : FuncData} (F : Fun K "__isub__" "Account.__isub__" s_Account___isub__ f fd) (T : Bl mg)  (o_Account_left : Pro P w K mg base CX0 1 C.Account "left" P_Account_left (sp_Account_left K C)) (K_Account : Kls K mg "Account" C.Account) : FnOk P w K mg base CX0 3 f fd P_Account___isub__ (sp_Account___isub__ K C) := by
  obtain ⟨t_MOST_BY, g_MOST_BY⟩ := T.g_MOST_BY
  obtain ⟨t_MOST_LEAVES, g_MOST_LEAVES⟩ := T.g_MOST_LEAVES
  refine F.ok sc_Account___isub__ (fun vs H Q E h => ln_Account___isub__ h) (fun cdv A outer s H vs Q E hr h => ⟨t_Account___isub__ K C, ?_, rd_Account___isub__  h⟩)
  exact (pss_cons (ps_if (pt_cmpR opGt (pv 1) (pe_pr K_Account o_Account_left (pv 0) hr pass0) (nomark _)) (pss_one ps_never) pss_nil)
    (pss_cons (ps_fld (pv 0) (pe_op opAdd (pe_fld (pv 0) rfl) (pv 1)) rfl)
    (pss_one (ps_ret (pv 0)))))
theorem ok_given {n : Nat} {f : Addr} {fd : FuncData} (F : Fun K "given" "given" s_given f fd) (T : Bl mg)  (f_given : Cal P w K mg base CX0 (0 + n) "given" P_given [] (sp_given K n)) : FnOk P w K mg base CX0 (0 + n + 1) f fd P_given (sp_given K (n + 1)) := by
  obtain ⟨t_MOST_BY, g_MOST_BY⟩ := T.g_MOST_BY
  obtain ⟨t_MOST_LEAVES, g_MOST_LEAVES⟩ := T.g_MOST_LEAVES
  refine F.ok sc_given (fun vs H Q E h => ln_given h) (fun cdv A outer s H vs Q E hr h => ⟨t_given K n, ?_, rd_given  h⟩)
  exact (pss_cons (ps_asg (pv 0) (pg_tup rfl (pgs_cons (pg_name (i := 2) sc_given.nd rfl (Or.inl rfl)) (pgs_cons (pg_name (i := 3) sc_given.nd rfl (Or.inl rfl)) (pgs_cons (pg_name (i := 4) sc_given.nd rfl (Or.inl rfl)) pgs_nil)))))
    (pss_cons (ps_if (pt_cmpR (opEq hr.units) (pv 2) pe_str (nomark _)) (pss_one (ps_ret (pe_ifExp (pt_cmpR opGe (pv 1) (pv 3) (nomark _)) (pe_op opSub (pv 1) (pe_op opMod (pv 1) (pv 4))) pe_int))) pss_nil)
    (pss_cons (ps_if (pt_cmpR (opEq hr.units) (pv 2) pe_str (nomark _)) (pss_one (ps_ret (pe_callB (call_max2 rfl) rfl T.b_max Pk.boot_max (pa_cons (pe_cal f_given hr pass0 (pa_cons (pv 3) (pa_cons (pv 1) pa_nil))) (pa_cons (pe_cal f_given hr pass0 (pa_cons (pv 4) (pa_cons (pv 1) pa_nil))) pa_nil))))) pss_nil)
    (pss_one (ps_ret (pe_callB (call_min2 rfl) rfl T.b_min Pk.boot_min (pa_cons (pe_cal f_given hr pass0 (pa_cons (pv 3) (pa_cons (pv 1) pa_nil))) (pa_cons (pe_cal f_given hr pass0 (pa_cons (pv 4) (pa_cons (pv 1) pa_nil))) pa_nil))))))))
theorem all_given {f : Addr} {fd : FuncData} (F : Fun K "given" "given" s_given f fd) (T : Bl mg)   (hm : mg "given" = some (.ref f)) (hk : PySem.W.keepIn K (.ref f) = true) (hb : Binds K fd P_given []) : ∀ n : Nat, FnOk P w K mg base CX0 (0 + n) f fd P_given (sp_given K n)
  | 0 => ⟨fun vs H Q E h => (no_given h).elim, fun A outer s H args us vs Q E _ _ _ _ h => (no_given h).elim⟩
  | n + 1 => ok_given F T  ⟨_, _, all_given F T   hm hk hb n, hm, hk, hb⟩
theorem ok_Rule_rest {f : Addr} {fd : FuncData} (F : Fun K "rest" "Rule.rest" s_Rule_rest f fd) (T : Bl mg)  (f_given : Cal P w K mg base CX0 7 "given" P_given [] (sp_given K 7)) : FnOk P w K mg base CX0 8 f fd P_Rule_rest (sp_Rule_rest K C) := by
  obtain ⟨t_MOST_BY, g_MOST_BY⟩ := T.g_MOST_BY
  obtain ⟨t_MOST_LEAVES, g_MOST_LEAVES⟩ := T.g_MOST_LEAVES
  refine F.ok sc_Rule_rest (fun vs H Q E h => ln_Rule_rest h) (fun cdv A outer s H vs Q E hr h => ⟨t_Rule_rest K, ?_, rd_Rule_rest  h⟩)
  exact (pss_one (ps_ret (pe_op opSub (pv 1) (pe_cal f_given hr pass0 (pa_cons (pe_fld (pv 0) rfl) (pa_cons (pv 1) pa_nil))))))
theorem ok_threshold_of {n : Nat} {f : Addr} {fd : FuncData} (F : Fun K "threshold_of" "threshold_of" s_threshold_of f fd) (T : Bl mg)  (f_threshold_of : Cal P w K mg base CX0 (0 + n) "threshold_of" P_threshold_of [] (sp_threshold_of K n)) : FnOk P w K mg base CX0 (0 + n + 1) f fd P_threshold_of (sp_threshold_of K (n + 1)) := by
  obtain ⟨t_MOST_BY, g_MOST_BY⟩ := T.g_MOST_BY
  obtain ⟨t_MOST_LEAVES, g_MOST_LEAVES⟩ := T.g_MOST_LEAVES
  refine F.ok sc_threshold_of (fun vs H Q E h => ln_threshold_of h) (fun cdv A outer s H vs Q E hr h => ⟨t_threshold_of K n, ?_, rd_threshold_of  h⟩)
  exact (pss_cons (ps_asg (pv 0) (pg_tup rfl (pgs_cons (pg_name (i := 1) sc_threshold_of.nd rfl (Or.inl rfl)) (pgs_cons (pg_name (i := 2) sc_threshold_of.nd rfl (Or.inl rfl)) (pgs_cons (pg_name (i := 3) sc_threshold_of.nd rfl (Or.inl rfl)) pgs_nil)))))
    (pss_cons (ps_if (pt_cmpR (opEq hr.units) (pv 1) pe_str (nomark _)) (pss_one (ps_ret (pe_callB (call_max2 rfl) rfl T.b_max Pk.boot_max (pa_cons (pv 2) (pa_cons (pv 3) pa_nil))))) pss_nil)
    (pss_cons (ps_if (pt_cmpR (opEq hr.units) (pv 1) pe_str (nomark _)) (pss_one (ps_ret (pe_callB (call_min2 rfl) rfl T.b_min Pk.boot_min (pa_cons (pe_cal f_threshold_of hr pass0 (pa_cons (pv 2) pa_nil)) (pa_cons (pe_cal f_threshold_of hr pass0 (pa_cons (pv 3) pa_nil)) pa_nil))))) pss_nil)
    (pss_one (ps_ret (pe_callB (call_max2 rfl) rfl T.b_max Pk.boot_max (pa_cons (pe_cal f_threshold_of hr pass0 (pa_cons (pv 2) pa_nil)) (pa_cons (pe_cal f_threshold_of hr pass0 (pa_cons (pv 3) pa_nil)) pa_nil))))))))
theorem all_threshold_of {f : Addr} {fd : FuncData} (F : Fun K "threshold_of" "threshold_of" s_threshold_of f fd) (T : Bl mg)   (hm : mg "threshold_of" = some (.ref f)) (hk : PySem.W.keepIn K (.ref f) = true) (hb : Binds K fd P_threshold_of []) : ∀ n : Nat, FnOk P w K mg base CX0 (0 + n) f fd P_threshold_of (sp_threshold_of K n)
  | 0 => ⟨fun vs H Q E h => (no_threshold_of h).elim, fun A outer s H args us vs Q E _ _ _ _ h => (no_threshold_of h).elim⟩
  | n + 1 => ok_threshold_of F T  ⟨_, _, all_threshold_of F T   hm hk hb n, hm, hk, hb⟩
theorem ok_Rule_threshold {f : Addr} {fd : FuncData} (F : Fun K "threshold" "Rule.threshold" s_Rule_threshold f fd) (T : Bl mg)  (f_threshold_of : Cal P w K mg base CX0 7 "threshold_of" P_threshold_of [] (sp_threshold_of K 7)) : FnOk P w K mg base CX0 8 f fd P_Rule_threshold (sp_Rule_threshold K C) := by
  obtain ⟨t_MOST_BY, g_MOST_BY⟩ := T.g_MOST_BY
  obtain ⟨t_MOST_LEAVES, g_MOST_LEAVES⟩ := T.g_MOST_LEAVES
  refine F.ok sc_Rule_threshold (fun vs H Q E h => ln_Rule_threshold h) (fun cdv A outer s H vs Q E hr h => ⟨t_Rule_threshold K, ?_, rd_Rule_threshold  h⟩)
  exact (pss_one (ps_ret (pe_cal f_threshold_of hr pass0 (pa_cons (pe_fld (pv 0) rfl) pa_nil))))
theorem ok_steps_to_give {f : Addr} {fd : FuncData} (F : Fun K "steps_to_give" "steps_to_give" s_steps_to_give f fd) (T : Bl mg)  (o_Rule_threshold : Pro P w K mg base CX0 8 C.Rule "threshold" P_Rule_threshold (sp_Rule_threshold K C)) (K_Rule : Kls K mg "Rule" C.Rule) : FnOk P w K mg base CX0 10 f fd P_steps_to_give (sp_steps_to_give K C) := by
  obtain ⟨t_MOST_BY, g_MOST_BY⟩ := T.g_MOST_BY
  obtain ⟨t_MOST_LEAVES, g_MOST_LEAVES⟩ := T.g_MOST_LEAVES
  refine F.ok sc_steps_to_give (fun vs H Q E h => ln_steps_to_give h) (fun cdv A outer s H vs Q E hr h => ⟨t_steps_to_give K C, ?_, rd_steps_to_give  h⟩)
  exact (pss_one (ps_ret (pe_op opDiv (pe_op opSub (pe_op opAdd (pe_op opSub (pe_pr K_Rule o_Rule_threshold (pv 0) hr pass0) (pv 1)) (pv 2)) pe_int) (pv 2))))
theorem ok_repeated {f : Addr} {fd : FuncData} (F : Fun K "repeated" "repeated" s_repeated f fd) (T : Bl mg)  (f_steps_to_give : Cal P w K mg base CX0 10 "steps_to_give" P_steps_to_give [] (sp_steps_to_give K C)) (o_Rule_rest : Own P w K mg base CX0 8 C.Rule "rest" P_Rule_rest (sp_Rule_rest K C)) (K_Rule : Kls K mg "Rule" C.Rule) : FnOk P w K mg base CX0 11 f fd P_repeated (sp_repeated K C) := by
  obtain ⟨t_MOST_BY, g_MOST_BY⟩ := T.g_MOST_BY
  obtain ⟨t_MOST_LEAVES, g_MOST_LEAVES⟩ := T.g_MOST_LEAVES
  refine F.ok sc_repeated (fun vs H Q E h => ln_repeated h) (fun cdv A outer s H vs Q E hr h => ⟨t_repeated K C, ?_, rd_repeated  h⟩)
  exact (pss_cons (ps_set (i := 4) sc_repeated.nd rfl (Or.inl rfl) pe_dnewK)
    (pss_cons (ps_par3 (i := 5) (j := 6) (l := 7) (by rfl) sc_repeated.nd rfl rfl rfl (by decide) (by decide) (by decide) rfl rfl rfl (pa_cons (pv 3) (pa_cons pe_int (pa_cons (pv 1) pa_nil))) (by rfl))
    (pss_cons (ps_set (i := 8) sc_repeated.nd rfl (Or.inl rfl) (pe_cal f_steps_to_give hr pass0 (pa_cons (pv 0) (pa_cons (pv 1) (pa_cons (pv 2) pa_nil)))))
    (pss_cons (ps_while PassesOwn.never (pt_cmpR opGe (pv 5) (pv 8) (nomark _)) (pss_cons (ps_set (i := 7) sc_repeated.nd rfl (Or.inl rfl) (pe_callB (call_max2 rfl) rfl T.b_max Pk.boot_max (pa_cons (pv 7) (pa_cons (pe_op opAdd (pv 1) (pe_op opMul (pe_op opSub (pv 8) pe_int) (pv 2))) pa_nil))))
    (pss_cons (ps_set (i := 9) sc_repeated.nd rfl (Or.inl rfl) (pe_op opAdd (pv 1) (pe_op opMul (pv 8) (pv 2))))
    (pss_cons (ps_set (i := 1) sc_repeated.nd rfl (Or.inl rfl) (pe_mt K_Rule o_Rule_rest (pv 0) hr pass0 (pa_cons (pv 9) pa_nil)))
    (pss_cons (ps_par (i := 5) (j := 6) (by rfl) sc_repeated.nd rfl rfl (by decide) rfl rfl (pa_cons (pe_op opSub (pv 5) (pv 8)) (pa_cons (pe_op opSub (pe_op opAdd (pv 6) (pv 9)) (pv 1)) pa_nil)) (by rfl))
    (Evl.pss_cut (ps_if (pt_cmp (pc_din (hu_of hr) (pv 1) (pv 4))) (pss_cons (ps_asg (pe_dget (hu_of hr) (pv 4) (pv 1) (fun _ _ => rfl)) (pg_tup rfl (pgs_cons (pg_name (i := 10) sc_repeated.nd rfl (Or.inl rfl)) (pgs_cons (pg_name (i := 11) sc_repeated.nd rfl (Or.inl rfl)) pgs_nil))))
    (pss_cons (ps_set (i := 12) sc_repeated.nd rfl (Or.inl rfl) (pe_op opDiv (pv 5) (pe_op opSub (pv 10) (pv 5))))
    (pss_one (ps_par (i := 5) (j := 6) (by rfl) sc_repeated.nd rfl rfl (by decide) rfl rfl (pa_cons (pe_op opSub (pv 5) (pe_op opMul (pv 12) (pe_op opSub (pv 10) (pv 5)))) (pa_cons (pe_op opAdd (pv 6) (pe_op opMul (pv 12) (pe_op opSub (pv 6) (pv 11)))) pa_nil)) (by rfl))))) (pss_one (ps_asg (pe_tup (pa_cons (pv 5) (pa_cons (pv 6) pa_nil))) (pg_sub (pv 4) (pv 1) (set_dict (hu_of hr))))))
    (pss_one (ps_set (i := 8) sc_repeated.nd rfl (Or.inl rfl) (pe_cal f_steps_to_give hr pass0 (pa_cons (pv 0) (pa_cons (pv 1) (pa_cons (pv 2) pa_nil))))))))))))
    (Evl.pss_cut (ps_if (pt_cmpR opGt (pv 5) pe_int (nomark _)) (pss_one (ps_set (i := 7) sc_repeated.nd rfl (Or.inl rfl) (pe_callB (call_max2 rfl) rfl T.b_max Pk.boot_max (pa_cons (pv 7) (pa_cons (pe_op opAdd (pv 1) (pe_op opMul (pe_op opSub (pv 5) pe_int) (pv 2))) pa_nil))))) pss_nil)
    (pss_one (ps_ret (pe_tup (pa_cons (pe_op opAdd (pv 1) (pe_op opMul (pv 5) (pv 2))) (pa_cons (pv 6) (pa_cons (pv 7) pa_nil)))))))))))
theorem ok_Account_flows {f : Addr} {fd : FuncData} (F : Fun K "flows" "Account.flows" s_Account_flows f fd) (T : Bl mg)  (f_repeated : Cal P w K mg base CX0 11 "repeated" P_repeated [] (sp_repeated K C)) : FnOk P w K mg base CX0 12 f fd P_Account_flows (sp_Account_flows K C) := by
  obtain ⟨t_MOST_BY, g_MOST_BY⟩ := T.g_MOST_BY
  obtain ⟨t_MOST_LEAVES, g_MOST_LEAVES⟩ := T.g_MOST_LEAVES
  refine F.ok sc_Account_flows (fun vs H Q E h => ln_Account_flows h) (fun cdv A outer s H vs Q E hr h => ⟨t_Account_flows K C, ?_, rd_Account_flows  h⟩)
  exact (pss_cons (ps_asg (pe_cal f_repeated hr pass0 (pa_cons (pe_fld (pv 0) rfl) (pa_cons (pe_fld (pv 0) rfl) (pa_cons (pv 1) (pa_cons (pv 2) pa_nil))))) (pg_tup rfl (pgs_cons (pg_name (i := 3) sc_Account_flows.nd rfl (Or.inl rfl)) (pgs_cons (pg_name (i := 4) sc_Account_flows.nd rfl (Or.inl rfl)) (pgs_cons (pg_name (i := 5) sc_Account_flows.nd rfl (Or.inl rfl)) pgs_nil)))))
    (pss_cons (ps_if (pt_cmpR opLt (pe_op opSub (pe_op opSub (pe_fld (pv 0) rfl) (pe_fld (pv 0) rfl)) (pv 5)) (pv 1) (nomark _)) (pss_one ps_never) pss_nil)
    (pss_cons (ps_fld (pv 0) (pv 3) rfl)
    (pss_one (ps_ret (pv 4))))))
theorem ok_Account_passes {f : Addr} {fd : FuncData} (F : Fun K "passes" "Account.passes" s_Account_passes f fd) (T : Bl mg)  (f_repeated : Cal P w K mg base CX0 11 "repeated" P_repeated [] (sp_repeated K C)) : FnOk P w K mg base CX0 12 f fd P_Account_passes (sp_Account_passes K C) := by
  obtain ⟨t_MOST_BY, g_MOST_BY⟩ := T.g_MOST_BY
  obtain ⟨t_MOST_LEAVES, g_MOST_LEAVES⟩ := T.g_MOST_LEAVES
  refine F.ok sc_Account_passes (fun vs H Q E h => ln_Account_passes h) (fun cdv A outer s H vs Q E hr h => ⟨t_Account_passes K C, ?_, rd_Account_passes  h⟩)
  exact (pss_cons (ps_if (pt_cmpR opGt (pe_op opMul (pv 1) (pv 2)) (pe_fld (pv 0) rfl) (nomark _)) (pss_one ps_never) pss_nil)
    (pss_cons (ps_asg (pe_cal f_repeated hr pass0 (pa_cons (pe_fld (pv 0) rfl) (pa_cons (pe_fld (pv 0) rfl) (pa_cons (pv 1) (pa_cons (pv 2) pa_nil))))) (pg_tup rfl (pgs_cons (pg_name (i := 3) sc_Account_passes.nd rfl (Or.inl rfl)) (pgs_cons (pg_name (i := 4) sc_Account_passes.nd rfl (Or.inl rfl)) (pgs_cons (pg_name (i := 5) sc_Account_passes.nd rfl (Or.inl rfl)) pgs_nil)))))
    (pss_cons (ps_fld (pv 0) (pe_op opSub (pe_fld (pv 0) rfl) (pe_op opMul (pv 1) (pv 2))) rfl)
    (pss_cons (ps_fld (pv 0) (pv 3) rfl)
    (pss_one (ps_ret (pv 4)))))))
theorem ok_Account_unpassed {f : Addr} {fd : FuncData} (F : Fun K "unpassed" "Account.unpassed" s_Account_unpassed f fd) (T : Bl mg)   : FnOk P w K mg base CX0 1 f fd P_Account_unpassed (sp_Account_unpassed K C) := by
  obtain ⟨t_MOST_BY, g_MOST_BY⟩ := T.g_MOST_BY
  obtain ⟨t_MOST_LEAVES, g_MOST_LEAVES⟩ := T.g_MOST_LEAVES
  refine F.ok sc_Account_unpassed (fun vs H Q E h => ln_Account_unpassed h) (fun cdv A outer s H vs Q E hr h => ⟨t_Account_unpassed K, ?_, rd_Account_unpassed  h⟩)
  exact (pss_one (ps_ret (pe_fld (pv 0) rfl)))
theorem ok_Account_withheld {f : Addr} {fd : FuncData} (F : Fun K "withheld" "Account.withheld" s_Account_withheld f fd) (T : Bl mg)   : FnOk P w K mg base CX0 1 f fd P_Account_withheld (sp_Account_withheld K C) := by
  obtain ⟨t_MOST_BY, g_MOST_BY⟩ := T.g_MOST_BY
  obtain ⟨t_MOST_LEAVES, g_MOST_LEAVES⟩ := T.g_MOST_LEAVES
  refine F.ok sc_Account_withheld (fun vs H Q E h => ln_Account_withheld h) (fun cdv A outer s H vs Q E hr h => ⟨t_Account_withheld K, ?_, rd_Account_withheld  h⟩)
  exact (pss_one (ps_ret (pe_fld (pv 0) rfl)))
theorem ok_has_word {f : Addr} {fd : FuncData} (F : Fun K "has_word" "has_word" s_has_word f fd) (T : Bl mg)   : FnOk P w K mg base CX0 1 f fd P_has_word (sp_has_word K) := by
  obtain ⟨t_MOST_BY, g_MOST_BY⟩ := T.g_MOST_BY
  obtain ⟨t_MOST_LEAVES, g_MOST_LEAVES⟩ := T.g_MOST_LEAVES
  refine F.ok sc_has_word (fun vs H Q E h => ln_has_word h) (fun cdv A outer s H vs Q E hr h => ⟨t_has_word K, ?_, rd_has_word  h⟩)
  exact (pss_cons (ps_if (PW.pt (pw_or (pt_not (pt_val (pe_callB call_isi rfl T.b_isinstance Pk.boot_isinstance (pa_cons (pv 0) (pa_cons (pe_bltn (v := .ty "tuple") rfl T.b_tuple Pk.boot_t_tuple rfl) pa_nil))))) (pw_or1 (pt_cmpR (opNe hr.units) (pe_callB callLen rfl T.b_len Pk.boot_len (pa_cons (pv 0) pa_nil)) pe_int (nomark _))))) (pss_one (ps_ret pe_bl)) pss_nil)
    (pss_one (ps_ret (pe_and (pe_callB call_isi rfl T.b_isinstance Pk.boot_isinstance (pa_cons (pe_ix ix_seq (pv 0) pe_int (fun _ _ => rfl)) (pa_cons (pe_bltn (v := .ty "str") rfl T.b_str Pk.boot_t_str rfl) pa_nil))) (pe_one (pe_cmpR opIn (pe_ix ix_seq (pv 0) pe_int (fun _ _ => rfl)) (pv 1) rfl))))))
theorem ok_is_by {f : Addr} {fd : FuncData} (F : Fun K "is_by" "is_by" s_is_by f fd) (T : Bl mg)  (f_is_number : Cal P w K mg base CX0 2 "is_number" P_is_number [] (sp_is_number K)) : FnOk P w K mg base CX0 3 f fd P_is_by (sp_is_by K) := by
  obtain ⟨t_MOST_BY, g_MOST_BY⟩ := T.g_MOST_BY
  obtain ⟨t_MOST_LEAVES, g_MOST_LEAVES⟩ := T.g_MOST_LEAVES
  refine F.ok sc_is_by (fun vs H Q E h => ln_is_by h) (fun cdv A outer s H vs Q E hr h => ⟨t_is_by K, ?_, rd_is_by  h⟩)
  exact (pss_one (ps_ret (pe_and (pe_cal f_is_number hr pass0 (pa_cons pe_int (pa_cons (pv 0) pa_nil))) (pe_one (pe_cmpR opLe (pv 0) (pe_glob rfl g_MOST_BY ⟨_, rfl⟩) (nomark _))))))
theorem ok_is_leaf {f : Addr} {fd : FuncData} (F : Fun K "is_leaf" "is_leaf" s_is_leaf f fd) (T : Bl mg)  (f_has_word : Cal P w K mg base CX0 1 "has_word" P_has_word [] (sp_has_word K)) (f_is_number : Cal P w K mg base CX0 2 "is_number" P_is_number [] (sp_is_number K)) (f_is_by : Cal P w K mg base CX0 3 "is_by" P_is_by [] (sp_is_by K)) : FnOk P w K mg base CX0 4 f fd P_is_leaf (sp_is_leaf K) := by
  obtain ⟨t_MOST_BY, g_MOST_BY⟩ := T.g_MOST_BY
  obtain ⟨t_MOST_LEAVES, g_MOST_LEAVES⟩ := T.g_MOST_LEAVES
  refine F.ok sc_is_leaf (fun vs H Q E h => ln_is_leaf h) (fun cdv A outer s H vs Q E hr h => ⟨t_is_leaf K, ?_, rd_is_leaf  h⟩)
  exact (pss_one (ps_ret (pe_and (pe_cal f_has_word hr pass0 (pa_cons (pv 0) (pa_cons (pe_tup (pa_cons pe_str pa_nil)) pa_nil))) (pe_and (pe_cal f_is_number hr pass0 (pa_cons pe_int (pa_cons (pe_ix ix_seq (pv 0) pe_int (fun _ _ => rfl)) pa_nil))) (pe_one (pe_cal f_is_by hr pass0 (pa_cons (pe_ix ix_seq (pv 0) pe_int (fun _ _ => rfl)) pa_nil)))))))
theorem ok_is_tree {f : Addr} {fd : FuncData} (F : Fun K "is_tree" "is_tree" s_is_tree f fd) (T : Bl mg)  (f_is_leaf : Cal P w K mg base CX0 4 "is_leaf" P_is_leaf [] (sp_is_leaf K)) (f_has_word : Cal P w K mg base CX0 1 "has_word" P_has_word [] (sp_has_word K)) : FnOk P w K mg base CX0 5 f fd P_is_tree (sp_is_tree K) := by
  obtain ⟨t_MOST_BY, g_MOST_BY⟩ := T.g_MOST_BY
  obtain ⟨t_MOST_LEAVES, g_MOST_LEAVES⟩ := T.g_MOST_LEAVES
  refine F.ok sc_is_tree (fun vs H Q E h => ln_is_tree h) (fun cdv A outer s H vs Q E hr h => ⟨t_is_tree K, ?_, rd_is_tree  h⟩)
  exact (pss_cons (ps_set (i := 1) sc_is_tree.nd rfl (Or.inl rfl) (pe_lst (pa_cons (pv 0) pa_nil)))
    (pss_cons (ps_set (i := 2) sc_is_tree.nd rfl (Or.inl rfl) pe_int)
    (pss_cons (ps_while PassesOwn.never (pt_cmpR opGt (pe_callB callLen rfl T.b_len Pk.boot_len (pa_cons (pv 1) pa_nil)) pe_int (nomark _)) (pss_cons (ps_set (i := 3) sc_is_tree.nd rfl (Or.inl rfl) (pe_bm0 PySem.F.plainAttrs_list PySem.F.slot_list_pop PySem.F.type_list_pop mt_pop (pv 1)))
    (Evl.pss_cut (ps_if (pt_val (pe_cal f_is_leaf hr pass0 (pa_cons (pv 3) pa_nil))) (pss_one (ps_set (i := 2) sc_is_tree.nd rfl (Or.inl rfl) (pe_op opAdd (pv 2) pe_int))) (pss_one (ps_if (pt_val (pe_cal f_has_word hr pass0 (pa_cons (pv 3) (pa_cons (pe_tup (pa_cons pe_str (pa_cons pe_str pa_nil))) pa_nil)))) (pss_cons (ps_expr (pe_bm PySem.F.plainAttrs_list PySem.F.slot_list_append PySem.F.type_list_append mt_append (pv 1) (pa_cons (pe_ix ix_seq (pv 3) pe_int (fun _ _ => rfl)) pa_nil)))
    (pss_one (ps_expr (pe_bm PySem.F.plainAttrs_list PySem.F.slot_list_append PySem.F.type_list_append mt_append (pv 1) (pa_cons (pe_ix ix_seq (pv 3) pe_int (fun _ _ => rfl)) pa_nil))))) (pss_one (ps_ret pe_bl)))))
    (pss_one (ps_if (pt_cmpR opGt (pe_op opAdd (pv 2) (pe_callB callLen rfl T.b_len Pk.boot_len (pa_cons (pv 1) pa_nil))) (pe_glob rfl g_MOST_LEAVES ⟨_, rfl⟩) (nomark _)) (pss_one (ps_ret pe_bl)) pss_nil)))))
    (pss_one (ps_ret pe_bl)))))
theorem ok_Rule___init__ {f : Addr} {fd : FuncData} (F : Fun K "__init__" "Rule.__init__" s_Rule___init__ f fd) (T : Bl mg)  (f_is_tree : Cal P w K mg base CX0 5 "is_tree" P_is_tree [] (sp_is_tree K)) : FnOk P w K mg base CX0 6 f fd P_Rule___init__ (sp_Rule___init__ K C) := by
  obtain ⟨t_MOST_BY, g_MOST_BY⟩ := T.g_MOST_BY
  obtain ⟨t_MOST_LEAVES, g_MOST_LEAVES⟩ := T.g_MOST_LEAVES
  refine F.ok sc_Rule___init__ (fun vs H Q E h => ln_Rule___init__ h) (fun cdv A outer s H vs Q E hr h => ⟨t_Rule___init__ K, ?_, rd_Rule___init__  h⟩)
  exact (pss_cons (ps_if (pt_not (pt_val (pe_cal f_is_tree hr pass0 (pa_cons (pv 1) pa_nil)))) (pss_one ps_never) pss_nil)
    (pss_one (ps_fld (pv 0) (pv 1) rfl)))
theorem ok__law_bag {f : Addr} {fd : FuncData} (F : Fun K "_law_bag" "_law_bag" s__law_bag f fd) (T : Bl mg)   : FnOk P w K mg base CX0 1 f fd P__law_bag (sp_law_bag K) := by
  obtain ⟨t_MOST_BY, g_MOST_BY⟩ := T.g_MOST_BY
  obtain ⟨t_MOST_LEAVES, g_MOST_LEAVES⟩ := T.g_MOST_LEAVES
  refine F.ok sc__law_bag (fun vs H Q E h => ln_law_bag h) (fun cdv A outer s H vs Q E hr h => ⟨t_law_bag K, ?_, rd_law_bag  h⟩)
  exact (pss_one (ps_ret (pe_lst (pa_cons pe_int (pa_cons pe_int (pa_cons pe_int (pa_cons (pe_lc (own := [("_law_cell", 1)]) (g := (gName 1)) (tt := tYes) rfl sc__law_bag.nd (pi_list (pe_slice slU (pv 0) po_none (po_some pe_int))) (blkOk_by (N := N__law_bag) (own := [("_law_cell", 1)]) (sc := defScope s__law_bag) (by decide +kernel)) (fun _ _ _ _ _ => (pg_name (i := 1) sc__law_bag.nd rfl (Or.inl rfl))) (fun _ _ _ _ _ => pts_nil) (fun _ _ _ _ _ => (pe_callB call_abs rfl T.b_abs Pk.boot_abs (pa_cons (pv 1) pa_nil)))) pa_nil)))))))
theorem ok__law_take {f : Addr} {fd : FuncData} (F : Fun K "_law_take" "_law_take" s__law_take f fd) (T : Bl mg)   : FnOk P w K mg base CX0 1 f fd P__law_take (sp_law_take K) := by
  obtain ⟨t_MOST_BY, g_MOST_BY⟩ := T.g_MOST_BY
  obtain ⟨t_MOST_LEAVES, g_MOST_LEAVES⟩ := T.g_MOST_LEAVES
  refine F.ok sc__law_take (fun vs H Q E h => ln_law_take h) (fun cdv A outer s H vs Q E hr h => ⟨t_law_take K, ?_, rd_law_take  h⟩)
  exact (Evl.pss_cut (ps_if (pt_cmpR (opEq hr.units) (pe_ix ix_seq (pv 0) pe_int (fun _ _ => rfl)) pe_int (nomark _)) (pss_cons (ps_set (i := 2) sc__law_take.nd rfl (Or.inl rfl) pe_int)
    (Evl.pss_cut (ps_if (pt_cmpR opLt (pe_ix ix_seq (pv 0) pe_int (fun _ _ => rfl)) (pe_callB callLen rfl T.b_len Pk.boot_len (pa_cons (pe_ix ix_seq (pv 0) pe_int (fun _ _ => rfl)) pa_nil)) (nomark _)) (pss_one (ps_set (i := 2) sc__law_take.nd rfl (Or.inl rfl) (pe_ix ix_seq (pe_ix ix_seq (pv 0) pe_int (fun _ _ => rfl)) (pe_ix ix_seq (pv 0) pe_int (fun _ _ => rfl)) (fun _ _ => rfl)))) pss_nil)
    (pss_cons (ps_augS (pv 0) pe_int get_list pe_int ip_add set_list)
    (Evl.pss_cut (ps_if (pt_cmpR opGe (pv 2) pe_int (nomark _)) (pss_one (ps_asg (pv 2) (pg_sub (pv 0) pe_int set_list))) pss_nil)
    (pss_cons (ps_set (i := 3) sc__law_take.nd rfl (Or.inl rfl) (pe_op opAdd (pe_op opAdd (pe_op opMul (pe_ix ix_seq (pv 0) pe_int (fun _ _ => rfl)) pe_int) (pe_op opMod (pe_callTy callInt rfl T.b_int Pk.boot_t_int (pa_cons (pv 2) pa_nil)) pe_int)) (pe_op opMul pe_int (pe_ix ix_seq (pv 0) pe_int (fun _ _ => rfl)))))
    (pss_one (ps_asg (pe_op opMod (pe_callTy callInt rfl T.b_int Pk.boot_t_int (pa_cons (pv 3) pa_nil)) pe_int) (pg_sub (pv 0) pe_int set_list)))))))) pss_nil)
    (pss_cons (ps_if (pt_cmpR opGt (pe_ix ix_seq (pv 0) pe_int (fun _ _ => rfl)) pe_int (nomark _)) (pss_cons (ps_set (i := 4) sc__law_take.nd rfl (Or.inl rfl) (pe_op opMod (pe_callTy callInt rfl T.b_int Pk.boot_t_int (pa_cons (pe_ix ix_seq (pv 0) pe_int (fun _ _ => rfl)) pa_nil)) (pv 1)))
    (pss_cons (ps_asg (pe_op opDiv (pe_ix ix_seq (pv 0) pe_int (fun _ _ => rfl)) (pv 1)) (pg_sub (pv 0) pe_int set_list))
    (pss_one (ps_ret (pv 4))))) pss_nil)
    (pss_cons (ps_set (i := 5) sc__law_take.nd rfl (Or.inl rfl) (pe_op opMod (pe_callTy callInt rfl T.b_int Pk.boot_t_int (pa_cons (pe_op opMul (pe_op opAdd (pe_ix ix_seq (pv 0) pe_int (fun _ _ => rfl)) pe_int) pe_int) pa_nil)) pe_int))
    (pss_cons (ps_set (i := 6) sc__law_take.nd rfl (Or.inl rfl) (pe_op opMod (pe_callTy callInt rfl T.b_int Pk.boot_t_int (pa_cons (pe_op opMul (pe_op opMod (pe_callTy callInt rfl T.b_int Pk.boot_t_int (pa_cons (pe_op opMul (pv 5) (pv 5)) pa_nil)) pe_int) pe_int) pa_nil)) pe_int))
    (pss_cons (ps_if (pt_cmpR opGt (pv 1) pe_int (nomark _)) (pss_one (ps_ret (pe_op opMod (pe_callTy callInt rfl T.b_int Pk.boot_t_int (pa_cons (pe_op opAdd (pe_op opMul (pv 6) pe_int) (pv 5)) pa_nil)) (pv 1)))) pss_nil)
    (pss_one (ps_ret (pe_op opMod (pe_callTy callInt rfl T.b_int Pk.boot_t_int (pa_cons (pe_op opDiv (pv 6) pe_int) pa_nil)) (pv 1)))))))))
theorem ok__law_draw_size {f : Addr} {fd : FuncData} (F : Fun K "_law_draw_size" "_law_draw_size" s__law_draw_size f fd) (T : Bl mg)  (f__law_take : Cal P w K mg base CX0 1 "_law_take" P__law_take [] (sp_law_take K)) : FnOk P w K mg base CX0 2 f fd P__law_draw_size (sp_law_draw_size K) := by
  obtain ⟨t_MOST_BY, g_MOST_BY⟩ := T.g_MOST_BY
  obtain ⟨t_MOST_LEAVES, g_MOST_LEAVES⟩ := T.g_MOST_LEAVES
  refine F.ok sc__law_draw_size (fun vs H Q E h => ln_law_draw_size h) (fun cdv A outer s H vs Q E hr h => ⟨t_law_draw_size K, ?_, rd_law_draw_size  h⟩)
  exact (pss_one (ps_ret (pe_op opMul (pe_op opAdd pe_int (pe_cal f__law_take hr pass0 (pa_cons (pv 0) (pa_cons (pv 1) pa_nil)))) (pe_ix ix_seq (pe_lst (pa_cons pe_int (pa_cons (pv 2) pa_nil))) (pe_cal f__law_take hr pass0 (pa_cons (pv 0) (pa_cons pe_int pa_nil))) (fun _ _ => rfl)))))
theorem ok__law_draw_tree {n : Nat} {f : Addr} {fd : FuncData} (F : Fun K "_law_draw_tree" "_law_draw_tree" s__law_draw_tree f fd) (T : Bl mg)  (f__law_draw_tree : Cal P w K mg base CX0 (2 + n) "_law_draw_tree" P__law_draw_tree [] (sp_law_draw_tree K n)) (f__law_take : Cal P w K mg base CX0 1 "_law_take" P__law_take [] (sp_law_take K)) (f__law_draw_size : Cal P w K mg base CX0 2 "_law_draw_size" P__law_draw_size [] (sp_law_draw_size K)) : FnOk P w K mg base CX0 (2 + n + 1) f fd P__law_draw_tree (sp_law_draw_tree K (n + 1)) := by
  obtain ⟨t_MOST_BY, g_MOST_BY⟩ := T.g_MOST_BY
  obtain ⟨t_MOST_LEAVES, g_MOST_LEAVES⟩ := T.g_MOST_LEAVES
  refine F.ok sc__law_draw_tree (fun vs H Q E h => ln_law_draw_tree h) (fun cdv A outer s H vs Q E hr h => ⟨t_law_draw_tree K n, ?_, rd_law_draw_tree  h⟩)
  exact (pss_cons (ps_set (i := 4) sc__law_draw_tree.nd rfl (Or.inl rfl) (pe_cal f__law_take hr pass0 (pa_cons (pv 0) (pa_cons pe_int pa_nil))))
    (pss_cons (ps_if (PW.pt (pw_or (pt_cmpR (opEq hr.units) (pv 3) pe_int (nomark _)) (pw_or1 (pt_cmpR opLt (pv 4) pe_int (nomark _))))) (pss_one (ps_ret (pe_tup (pa_cons pe_str (pa_cons (pe_cal f__law_draw_size hr pass0 (pa_cons (pv 0) (pa_cons (pv 1) (pa_cons (pv 2) pa_nil)))) (pa_cons (pe_op opAdd pe_int (pe_cal f__law_take hr pass0 (pa_cons (pv 0) (pa_cons pe_int pa_nil)))) pa_nil)))))) pss_nil)
    (pss_cons (ps_asg (pe_lc (own := [("_law_k", 7)]) (g := (gName 7)) (tt := tYes) rfl sc__law_draw_tree.nd (pi_range1 rfl T.b_range (pa_cons pe_int pa_nil)) (blkOk_by (N := N__law_draw_tree) (own := [("_law_k", 7)]) (sc := defScope s__law_draw_tree) (by decide +kernel)) (fun _ _ _ _ _ => (pg_name (i := 7) sc__law_draw_tree.nd rfl (Or.inl rfl))) (fun _ _ _ _ _ => pts_nil) (fun _ _ _ _ _ => (pe_cal f__law_draw_tree hr pass0 (pa_cons (pv 0) (pa_cons (pv 1) (pa_cons (pv 2) (pa_cons (pe_op opSub (pv 3) pe_int) pa_nil))))))) (pg_lst rfl (pgs_cons (pg_name (i := 5) sc__law_draw_tree.nd rfl (Or.inl rfl)) (pgs_cons (pg_name (i := 6) sc__law_draw_tree.nd rfl (Or.inl rfl)) pgs_nil))))
    (pss_one (ps_ret (pe_tup (pa_cons (pe_ix ix_seq (pe_lst (pa_cons pe_str (pa_cons pe_str pa_nil))) (pe_op opSub (pv 4) pe_int) (fun _ _ => rfl)) (pa_cons (pv 5) (pa_cons (pv 6) pa_nil)))))))))
theorem all__law_draw_tree {f : Addr} {fd : FuncData} (F : Fun K "_law_draw_tree" "_law_draw_tree" s__law_draw_tree f fd) (T : Bl mg)  (f__law_take : Cal P w K mg base CX0 1 "_law_take" P__law_take [] (sp_law_take K)) (f__law_draw_size : Cal P w K mg base CX0 2 "_law_draw_size" P__law_draw_size [] (sp_law_draw_size K)) (hm : mg "_law_draw_tree" = some (.ref f)) (hk : PySem.W.keepIn K (.ref f) = true) (hb : Binds K fd P__law_draw_tree []) : ∀ n : Nat, FnOk P w K mg base CX0 (2 + n) f fd P__law_draw_tree (sp_law_draw_tree K n)
  | 0 => ⟨fun vs H Q E h => (no_law_draw_tree h).elim, fun A outer s H args us vs Q E _ _ _ _ h => (no_law_draw_tree h).elim⟩
  | n + 1 => ok__law_draw_tree F T  ⟨_, _, all__law_draw_tree F T  f__law_take f__law_draw_size hm hk hb n, hm, hk, hb⟩ f__law_take f__law_draw_size
theorem ok_Account___iadd__ {f : Addr} {fd : FuncData} (F : Fun K "__iadd__" "Account.__iadd__" s_Account___iadd__ f fd) (T : Bl mg)  (o_Rule_rest : Own P w K mg base CX0 8 C.Rule "rest" P_Rule_rest (sp_Rule_rest K C)) (K_Rule : Kls K mg "Rule" C.Rule) : FnOk P w K mg base CX0 9 f fd P_Account___iadd__ (sp_Account___iadd__ K C) := by
  obtain ⟨t_MOST_BY, g_MOST_BY⟩ := T.g_MOST_BY
  obtain ⟨t_MOST_LEAVES, g_MOST_LEAVES⟩ := T.g_MOST_LEAVES
  refine F.ok sc_Account___iadd__ (fun vs H Q E h => ln_Account___iadd__ h) (fun cdv A outer s H vs Q E hr h => ⟨t_Account___iadd__ K C, ?_, rd_Account___iadd__  h⟩)
  exact (pss_cons (ps_if (pt_cmpR opGt (pv 1) (pe_fld (pv 0) rfl) (nomark _)) (pss_one ps_never) pss_nil)
    (pss_cons (ps_fld (pv 0) (pe_op opSub (pe_fld (pv 0) rfl) (pv 1)) rfl)
    (pss_cons (ps_fld (pv 0) (pe_mt K_Rule o_Rule_rest (pe_fld (pv 0) rfl) hr pass0 (pa_cons (pe_op opAdd (pe_fld (pv 0) rfl) (pv 1)) pa_nil)) rfl)
    (pss_one (ps_ret (pv 0))))))
theorem ok__law_one_by_one {f : Addr} {fd : FuncData} (F : Fun K "_law_one_by_one" "_law_one_by_one" s__law_one_by_one f fd) (T : Bl mg)  (o_Account___iadd__ : Own P w K mg base CX0 9 C.Account "__iadd__" P_Account___iadd__ (sp_Account___iadd__ K C)) (K_Account : Kls K mg "Account" C.Account) (o_Account___isub__ : Own P w K mg base CX0 3 C.Account "__isub__" P_Account___isub__ (sp_Account___isub__ K C)) : FnOk P w K mg base CX0 10 f fd P__law_one_by_one (sp_law_one_by_one K C) := by
  obtain ⟨t_MOST_BY, g_MOST_BY⟩ := T.g_MOST_BY
  obtain ⟨t_MOST_LEAVES, g_MOST_LEAVES⟩ := T.g_MOST_LEAVES
  refine F.ok sc__law_one_by_one (fun vs H Q E h => ln_law_one_by_one h) (fun cdv A outer s H vs Q E hr h => ⟨t_law_one_by_one K C, ?_, rd_law_one_by_one  h⟩)
  exact (pss_one (ps_for PassesOwn.never rfl (pi_range1 rfl T.b_range (pa_cons (pv 2) pa_nil)) (pg_name (i := 4) sc__law_one_by_one.nd rfl (Or.inl rfl)) (Evl.pss_cut (ps_if (pt_val (pv 3)) (pss_one (ps_aug (i := 0) sc__law_one_by_one.nd rfl (Or.inl rfl) (pv 1) (ip_own K_Account o_Account___isub__ hr pass0))) pss_nil)
    (pss_one (ps_aug (i := 0) sc__law_one_by_one.nd rfl (Or.inl rfl) (pv 1) (ip_own K_Account o_Account___iadd__ hr pass0))))))
theorem ok__law_threshold {n : Nat} {f : Addr} {fd : FuncData} (F : Fun K "_law_threshold" "_law_threshold" s__law_threshold f fd) (T : Bl mg)  (f__law_threshold : Cal P w K mg base CX0 (0 + n) "_law_threshold" P__law_threshold [] (sp_law_threshold K n)) : FnOk P w K mg base CX0 (0 + n + 1) f fd P__law_threshold (sp_law_threshold K (n + 1)) := by
  obtain ⟨t_MOST_BY, g_MOST_BY⟩ := T.g_MOST_BY
  obtain ⟨t_MOST_LEAVES, g_MOST_LEAVES⟩ := T.g_MOST_LEAVES
  refine F.ok sc__law_threshold (fun vs H Q E h => ln_law_threshold h) (fun cdv A outer s H vs Q E hr h => ⟨t_law_threshold K n, ?_, rd_law_threshold  h⟩)
  exact (pss_cons (ps_asg (pv 0) (pg_tup rfl (pgs_cons (pg_name (i := 1) sc__law_threshold.nd rfl (Or.inl rfl)) (pgs_cons (pg_name (i := 2) sc__law_threshold.nd rfl (Or.inl rfl)) (pgs_cons (pg_name (i := 3) sc__law_threshold.nd rfl (Or.inl rfl)) pgs_nil)))))
    (pss_cons (ps_if (pt_cmpR (opEq hr.units) (pv 1) pe_str (nomark _)) (pss_one (ps_ret (pe_callB (call_max2 rfl) rfl T.b_max Pk.boot_max (pa_cons (pv 2) (pa_cons (pv 3) pa_nil))))) pss_nil)
    (pss_cons (ps_set (i := 4) sc__law_threshold.nd rfl (Or.inl rfl) (pe_lst (pa_cons (pe_cal f__law_threshold hr pass0 (pa_cons (pv 2) pa_nil)) (pa_cons (pe_cal f__law_threshold hr pass0 (pa_cons (pv 3) pa_nil)) pa_nil))))
    (pss_one (ps_ret (pe_ifExp (pt_cmpR (opEq hr.units) (pv 1) pe_str (nomark _)) (pe_callB (cr_min rfl) rfl T.b_min Pk.boot_min (pa_cons (pv 4) pa_nil)) (pe_callB (cr_max rfl) rfl T.b_max Pk.boot_max (pa_cons (pv 4) pa_nil))))))))
theorem all__law_threshold {f : Addr} {fd : FuncData} (F : Fun K "_law_threshold" "_law_threshold" s__law_threshold f fd) (T : Bl mg)   (hm : mg "_law_threshold" = some (.ref f)) (hk : PySem.W.keepIn K (.ref f) = true) (hb : Binds K fd P__law_threshold []) : ∀ n : Nat, FnOk P w K mg base CX0 (0 + n) f fd P__law_threshold (sp_law_threshold K n)
  | 0 => ⟨fun vs H Q E h => (no_law_threshold h).elim, fun A outer s H args us vs Q E _ _ _ _ h => (no_law_threshold h).elim⟩
  | n + 1 => ok__law_threshold F T  ⟨_, _, all__law_threshold F T   hm hk hb n, hm, hk, hb⟩
theorem ok_law {f : Addr} {fd : FuncData} (F : Fun K "law" "law" s_law f fd) (T : Bl mg) (fx_FxRule : FxRule K C) (fx_FxAccount : FxAccount K C) (o_Account_withheld : Pro P w K mg base CX0 1 C.Account "withheld" P_Account_withheld (sp_Account_withheld K C)) (K_Account : Kls K mg "Account" C.Account) (f__law_threshold : Cal P w K mg base CX0 7 "_law_threshold" P__law_threshold [] (sp_law_threshold K 7)) (o_Account_left : Pro P w K mg base CX0 1 C.Account "left" P_Account_left (sp_Account_left K C)) (o_Account_unpassed : Pro P w K mg base CX0 1 C.Account "unpassed" P_Account_unpassed (sp_Account_unpassed K C)) (o_Account___eq__ : Own P w K mg base CX0 3 C.Account "__eq__" P_Account___eq__ (sp_Account___eq__ K C)) (f__law_one_by_one : Cal P w K mg base CX0 10 "_law_one_by_one" P__law_one_by_one [] (sp_law_one_by_one K C)) (o_Account_flows : Own P w K mg base CX0 12 C.Account "flows" P_Account_flows (sp_Account_flows K C)) (o_Account_passes : Own P w K mg base CX0 12 C.Account "passes" P_Account_passes (sp_Account_passes K C)) (o_Account___isub__ : Own P w K mg base CX0 3 C.Account "__isub__" P_Account___isub__ (sp_Account___isub__ K C)) (f__law_take : Cal P w K mg base CX0 1 "_law_take" P__law_take [] (sp_law_take K)) (o_Rule___init__ : Own P w K mg base CX0 6 C.Rule "__init__" P_Rule___init__ (sp_Rule___init__ K C)) (K_Rule : Kls K mg "Rule" C.Rule) (o_Account___init__ : Own P w K mg base CX0 3 C.Account "__init__" P_Account___init__ (sp_Account___init__ K C)) (f__law_draw_tree : Cal P w K mg base CX0 5 "_law_draw_tree" P__law_draw_tree [] (sp_law_draw_tree K 3)) (f__law_bag : Cal P w K mg base CX0 1 "_law_bag" P__law_bag [] (sp_law_bag K)) : FnOk P w K mg base CX0 13 f fd P_law (sp_law K) := by
  obtain ⟨t_MOST_BY, g_MOST_BY⟩ := T.g_MOST_BY
  obtain ⟨t_MOST_LEAVES, g_MOST_LEAVES⟩ := T.g_MOST_LEAVES
  refine F.ok sc_law (fun vs H Q E h => ln_law h) (fun cdv A outer s H vs Q E hr h => ⟨t_law K C, ?_, rd_law fx_FxRule fx_FxAccount h⟩)
  exact (pss_cons (ps_set (i := 1) sc_law.nd rfl (Or.inl rfl) (pe_cal f__law_bag hr pass0 (pa_cons (pv 0) pa_nil)))
    (pss_cons (ps_for PassesOwn.never rfl (pi_range1 rfl T.b_range (pa_cons pe_int pa_nil)) (pg_name (i := 2) sc_law.nd rfl (Or.inl rfl)) (pss_cons (ps_par (i := 3) (j := 4) (by rfl) sc_law.nd rfl rfl (by decide) rfl rfl (pa_cons (pe_cal f__law_draw_tree hr pass0 (pa_cons (pv 1) (pa_cons pe_int (pa_cons pe_int (pa_cons pe_int pa_nil))))) (pa_cons (pe_op opAdd pe_int (pe_cal f__law_take hr pass0 (pa_cons (pv 1) (pa_cons pe_int pa_nil)))) pa_nil)) (by rfl))
    (pss_cons (ps_par (i := 5) (j := 6) (by rfl) sc_law.nd rfl rfl (by decide) rfl rfl (pa_cons (pe_mk K_Account o_Account___init__ hr pass0 (pa_cons (pv 4) (pa_cons (pe_mk K_Rule o_Rule___init__ hr pass0 (pa_cons (pv 3) pa_nil)) pa_nil))) (pa_cons (pe_mk K_Account o_Account___init__ hr pass0 (pa_cons (pv 4) (pa_cons (pe_mk K_Rule o_Rule___init__ hr pass0 (pa_cons (pv 3) pa_nil)) pa_nil))) pa_nil)) (by rfl))
    (pss_one (ps_for PassesOwn.never rfl (pi_range1 rfl T.b_range (pa_cons pe_int pa_nil)) (pg_name (i := 7) sc_law.nd rfl (Or.inl rfl)) (pss_cons (ps_par (i := 8) (j := 9) (by rfl) sc_law.nd rfl rfl (by decide) rfl rfl (pa_cons (pe_op opAdd pe_int (pe_cal f__law_take hr pass0 (pa_cons (pv 1) (pa_cons pe_int pa_nil)))) (pa_cons (pe_op opAdd pe_int (pe_cal f__law_take hr pass0 (pa_cons (pv 1) (pa_cons pe_int pa_nil)))) pa_nil)) (by rfl))
    (pss_cons (ps_set (i := 10) sc_law.nd rfl (Or.inl rfl) (pe_cmpR (opEq hr.units) (pe_cal f__law_take hr pass0 (pa_cons (pv 1) (pa_cons pe_int pa_nil))) pe_int (nomark _)))
    (Evl.pss_cut (ps_if (pt_val (pv 10)) (pss_one (ps_if (pt_cmpR opGe (pe_pr K_Account o_Account_left (pv 5) hr pass0) (pe_op opAdd (pv 8) (pe_cal f__law_threshold hr pass0 (pa_cons (pv 3) pa_nil))) (nomark _)) (pss_cons (ps_par (i := 11) (j := 12) (by rfl) sc_law.nd rfl rfl (by decide) rfl rfl (pa_cons (pe_mt K_Account o_Account_flows (pv 5) hr pass0 (pa_cons (pv 8) (pa_cons (pv 9) pa_nil))) (pa_cons (pe_pr K_Account o_Account_left (pv 6) hr pass0) pa_nil)) (by rfl))
    (pss_cons (ps_expr (pe_cal f__law_one_by_one hr pass0 (pa_cons (pv 6) (pa_cons (pv 8) (pa_cons (pv 9) (pa_cons pe_bl pa_nil))))))
    (pss_cons (ps_set (i := 13) sc_law.nd rfl (Or.inl rfl) (pe_op opAdd (pe_op opAdd (pv 11) (pe_pr K_Account o_Account_withheld (pv 6) hr pass0)) (pe_pr K_Account o_Account_unpassed (pv 6) hr pass0)))
    (pss_one (ps_if (pt_cmpR (opNe hr.units) (pe_op opAdd (pv 13) (pv 12)) (pe_op opAdd (pe_op opMul (pv 8) (pv 9)) (pv 4)) (nomark _)) (pss_one (ps_ret pe_bl)) pss_nil))))) pss_nil)) (pss_one (ps_if (pt_cmpR opGt (pe_pr K_Account o_Account_left (pv 5) hr pass0) pe_int (nomark _)) (pss_cons (ps_set (i := 14) sc_law.nd rfl (Or.inl rfl) (pe_op opAdd pe_int (pe_cal f__law_take hr pass0 (pa_cons (pv 1) (pa_cons (pe_pr K_Account o_Account_left (pv 5) hr pass0) pa_nil)))))
    (pss_cons (ps_aug (i := 5) sc_law.nd rfl (Or.inl rfl) (pv 14) (ip_own K_Account o_Account___isub__ hr pass0))
    (pss_cons (ps_aug (i := 6) sc_law.nd rfl (Or.inl rfl) (pv 14) (ip_own K_Account o_Account___isub__ hr pass0))
    (pss_cons (ps_set (i := 9) sc_law.nd rfl (Or.inl rfl) (pe_callB (call_min2 rfl) rfl T.b_min Pk.boot_min (pa_cons (pv 9) (pa_cons (pe_op opDiv (pe_pr K_Account o_Account_unpassed (pv 5) hr pass0) (pv 8)) pa_nil))))
    (pss_one (ps_if (pt_cmpR opGt (pv 9) pe_int (nomark _)) (pss_cons (ps_set (i := 12) sc_law.nd rfl (Or.inl rfl) (pe_pr K_Account o_Account_left (pv 5) hr pass0))
    (pss_cons (ps_set (i := 11) sc_law.nd rfl (Or.inl rfl) (pe_mt K_Account o_Account_passes (pv 5) hr pass0 (pa_cons (pv 8) (pa_cons (pv 9) pa_nil))))
    (pss_cons (ps_expr (pe_cal f__law_one_by_one hr pass0 (pa_cons (pv 6) (pa_cons (pv 8) (pa_cons (pv 9) (pa_cons pe_bl pa_nil))))))
    (pss_one (ps_if (pt_cmpR (opNe hr.units) (pv 11) (pe_op opSub (pe_pr K_Account o_Account_left (pv 5) hr pass0) (pv 12)) (nomark _)) (pss_one (ps_ret pe_bl)) pss_nil))))) pss_nil)))))) pss_nil)))
    (pss_cons (ps_if (PW.pt (pw_or (pt_cmpR (op_neOwn K_Account o_Account___eq__ hr pass0) (pv 5) (pv 6) (nomark _)) (pw_or1 (pt_not (pt_cmpR (op_eqOwn K_Account o_Account___eq__ hr pass0) (pv 5) (pv 6) (nomark _)))))) (pss_one (ps_ret pe_bl)) pss_nil)
    (pss_cons (ps_if (pt_cmpR (opNe hr.units) (pe_op opAdd (pe_op opAdd (pe_pr K_Account o_Account_left (pv 5) hr pass0) (pe_pr K_Account o_Account_unpassed (pv 5) hr pass0)) (pe_pr K_Account o_Account_withheld (pv 5) hr pass0)) (pv 4) (nomark _)) (pss_one (ps_ret pe_bl)) pss_nil)
    (pss_one (ps_if (pt_cmpR opGe (pe_pr K_Account o_Account_withheld (pv 5) hr pass0) (pe_cal f__law_threshold hr pass0 (pa_cons (pv 3) pa_nil)) (nomark _)) (pss_one (ps_ret pe_bl)) pss_nil))))))))))))
    (pss_one (ps_ret pe_bl))))
end
theorem all_mk {l : PySem.W.OpenLaw} {w : World} {K : PySem.W.Frag} {h : Heap} {mg : Str → Option Value} {fa : Addr} (X : K.In h) (G : h.Ns mainGlobals mg) (hfa : mg "law" = some (.ref fa))
    {c_Account : Addr}
    {c_Rule : Addr}
    {f0 : Addr} {od0 an0 : Option Addr} {oc0 kV0 dc0 pm0 cd0 ct0 : Value} {sl0 : Array (Option Value)}
    {f1 : Addr} {od1 an1 : Option Addr} {oc1 kV1 dc1 pm1 cd1 ct1 : Value} {sl1 : Array (Option Value)}
    {f2 : Addr} {od2 an2 : Option Addr} {oc2 kV2 dc2 pm2 cd2 ct2 : Value} {sl2 : Array (Option Value)}
    {f3 : Addr} {od3 an3 : Option Addr} {oc3 kV3 dc3 pm3 cd3 ct3 : Value} {sl3 : Array (Option Value)}
    {f4 : Addr} {od4 an4 : Option Addr} {oc4 kV4 dc4 pm4 cd4 ct4 : Value} {sl4 : Array (Option Value)}
    {f5 : Addr} {od5 an5 : Option Addr} {oc5 kV5 dc5 pm5 cd5 ct5 : Value} {sl5 : Array (Option Value)}
    {p5 : Addr} {rp5 : List Value}
    {f6 : Addr} {od6 an6 : Option Addr} {oc6 kV6 dc6 pm6 cd6 ct6 : Value} {sl6 : Array (Option Value)}
    {f7 : Addr} {od7 an7 : Option Addr} {oc7 kV7 dc7 pm7 cd7 ct7 : Value} {sl7 : Array (Option Value)}
    {f8 : Addr} {od8 an8 : Option Addr} {oc8 kV8 dc8 pm8 cd8 ct8 : Value} {sl8 : Array (Option Value)}
    {f9 : Addr} {od9 an9 : Option Addr} {oc9 kV9 dc9 pm9 cd9 ct9 : Value} {sl9 : Array (Option Value)}
    {f10 : Addr} {od10 an10 : Option Addr} {oc10 kV10 dc10 pm10 cd10 ct10 : Value} {sl10 : Array (Option Value)}
    {p10 : Addr} {rp10 : List Value}
    {f11 : Addr} {od11 an11 : Option Addr} {oc11 kV11 dc11 pm11 cd11 ct11 : Value} {sl11 : Array (Option Value)}
    {f12 : Addr} {od12 an12 : Option Addr} {oc12 kV12 dc12 pm12 cd12 ct12 : Value} {sl12 : Array (Option Value)}
    {f13 : Addr} {od13 an13 : Option Addr} {oc13 kV13 dc13 pm13 cd13 ct13 : Value} {sl13 : Array (Option Value)}
    {f14 : Addr} {od14 an14 : Option Addr} {oc14 kV14 dc14 pm14 cd14 ct14 : Value} {sl14 : Array (Option Value)}
    {f15 : Addr} {od15 an15 : Option Addr} {oc15 kV15 dc15 pm15 cd15 ct15 : Value} {sl15 : Array (Option Value)}
    {p15 : Addr} {rp15 : List Value}
    {f16 : Addr} {od16 an16 : Option Addr} {oc16 kV16 dc16 pm16 cd16 ct16 : Value} {sl16 : Array (Option Value)}
    {p16 : Addr} {rp16 : List Value}
    {f17 : Addr} {od17 an17 : Option Addr} {oc17 kV17 dc17 pm17 cd17 ct17 : Value} {sl17 : Array (Option Value)}
    {f18 : Addr} {od18 an18 : Option Addr} {oc18 kV18 dc18 pm18 cd18 ct18 : Value} {sl18 : Array (Option Value)}
    {f19 : Addr} {od19 an19 : Option Addr} {oc19 kV19 dc19 pm19 cd19 ct19 : Value} {sl19 : Array (Option Value)}
    {f20 : Addr} {od20 an20 : Option Addr} {oc20 kV20 dc20 pm20 cd20 ct20 : Value} {sl20 : Array (Option Value)}
    {f21 : Addr} {od21 an21 : Option Addr} {oc21 kV21 dc21 pm21 cd21 ct21 : Value} {sl21 : Array (Option Value)}
    {f22 : Addr} {od22 an22 : Option Addr} {oc22 kV22 dc22 pm22 cd22 ct22 : Value} {sl22 : Array (Option Value)}
    {f23 : Addr} {od23 an23 : Option Addr} {oc23 kV23 dc23 pm23 cd23 ct23 : Value} {sl23 : Array (Option Value)}
    {f24 : Addr} {od24 an24 : Option Addr} {oc24 kV24 dc24 pm24 cd24 ct24 : Value} {sl24 : Array (Option Value)}
    {f25 : Addr} {od25 an25 : Option Addr} {oc25 kV25 dc25 pm25 cd25 ct25 : Value} {sl25 : Array (Option Value)}
    {f26 : Addr} {od26 an26 : Option Addr} {oc26 kV26 dc26 pm26 cd26 ct26 : Value} {sl26 : Array (Option Value)}
    {f27 : Addr} {od27 an27 : Option Addr} {oc27 kV27 dc27 pm27 cd27 ct27 : Value} {sl27 : Array (Option Value)}
    {f28 : Addr} {od28 an28 : Option Addr} {oc28 kV28 dc28 pm28 cd28 ct28 : Value} {sl28 : Array (Option Value)}
    {f29 : Addr} {od29 an29 : Option Addr} {oc29 kV29 dc29 pm29 cd29 ct29 : Value} {sl29 : Array (Option Value)}
    {tk_MOST_BY : Tok}
    {tk_MOST_LEAVES : Tok}
    (aC_Account : PySem.W.nsIn K mainGlobals "Account" = some (some (.ref c_Account)))
    (pg_Account : PySem.W.plainGet K c_Account Str.empty = true)
    (hd_Account : PySem.W.hasDictIn K c_Account = true)
    (po_Account : PySem.W.plainOver K c_Account = true)
    (sa_Account : PySem.W.findIn K (.ref c_Account) "__setattr__" = some (some (.builtin "object.__setattr__")))
    (mk_Account : PySem.W.makesIn K c_Account = true)
    (kc_Account : PySem.W.keepIn K (.ref c_Account) = true)
    (sf_Account : PySem.W.selfFirst K c_Account = true)
    (ha_Account : PySem.W.findIn K (.ref c_Account) "__class__" = some (some (.builtin "object.__class__")))
    (hn_Account : PySem.W.specialIn K (.builtin "object.__class__") "__get__" = some (some (.builtin "getset_descriptor.__get__")))
    (ht_Account : PySem.W.takesIn K (.builtin "object.__class__") = some true)
    (hm_Account : PySem.W.mroIn K c_Account (.type "object") = some true)
    (ne_Account : PySem.W.findIn K (.ref c_Account) "__ne__" = some (some (.builtin "object.__ne__")))
    (na_Account__credit : PySem.W.findIn K (.ref c_Account) "_credit" = some none)
    (na_Account__rule : PySem.W.findIn K (.ref c_Account) "_rule" = some none)
    (na_Account__unpassed : PySem.W.findIn K (.ref c_Account) "_unpassed" = some none)
    (na_Account__withheld : PySem.W.findIn K (.ref c_Account) "_withheld" = some none)
    (aC_Rule : PySem.W.nsIn K mainGlobals "Rule" = some (some (.ref c_Rule)))
    (pg_Rule : PySem.W.plainGet K c_Rule Str.empty = true)
    (hd_Rule : PySem.W.hasDictIn K c_Rule = true)
    (po_Rule : PySem.W.plainOver K c_Rule = true)
    (sa_Rule : PySem.W.findIn K (.ref c_Rule) "__setattr__" = some (some (.builtin "object.__setattr__")))
    (mk_Rule : PySem.W.makesIn K c_Rule = true)
    (kc_Rule : PySem.W.keepIn K (.ref c_Rule) = true)
    (sf_Rule : PySem.W.selfFirst K c_Rule = true)
    (ha_Rule : PySem.W.findIn K (.ref c_Rule) "__class__" = some (some (.builtin "object.__class__")))
    (hn_Rule : PySem.W.specialIn K (.builtin "object.__class__") "__get__" = some (some (.builtin "getset_descriptor.__get__")))
    (ht_Rule : PySem.W.takesIn K (.builtin "object.__class__") = some true)
    (hm_Rule : PySem.W.mroIn K c_Rule (.type "object") = some true)
    (ne_Rule : PySem.W.findIn K (.ref c_Rule) "__ne__" = some (some (.builtin "object.__ne__")))
    (na_Rule__tree : PySem.W.findIn K (.ref c_Rule) "_tree" = some none)
    (a0 : PySem.W.findIn K (.ref c_Rule) "__eq__" = some (some (.ref f0)))
    (i0 : PySem.W.isFn K (.ref f0) = true)
    (h0 : PySem.W.fnIn K f0 = true)
    (l0 : K.lookup f0 = some ⟨oc0, od0, .func (PySem.W.fnOf "__eq__" "Rule.__eq__" (defArgs s_Rule___eq__) (defBody s_Rule___eq__) (defScope s_Rule___eq__) .none kV0 dc0 pm0 an0 cd0 ct0), sl0⟩)
    (c0 : PySem.W.codeIn K cd0 "Rule.__eq__" = true)
    (k0 : PySem.W.keepIn K (.ref f0) = true)
    (a1 : PySem.W.findIn K (.ref c_Account) "__eq__" = some (some (.ref f1)))
    (i1 : PySem.W.isFn K (.ref f1) = true)
    (h1 : PySem.W.fnIn K f1 = true)
    (l1 : K.lookup f1 = some ⟨oc1, od1, .func (PySem.W.fnOf "__eq__" "Account.__eq__" (defArgs s_Account___eq__) (defBody s_Account___eq__) (defScope s_Account___eq__) .none kV1 dc1 pm1 an1 cd1 ct1), sl1⟩)
    (c1 : PySem.W.codeIn K cd1 "Account.__eq__" = true)
    (k1 : PySem.W.keepIn K (.ref f1) = true)
    (a2 : PySem.W.nsIn K mainGlobals "is_integer" = some (some (.ref f2)))
    (l2 : K.lookup f2 = some ⟨oc2, od2, .func (PySem.W.fnOf "is_integer" "is_integer" (defArgs s_is_integer) (defBody s_is_integer) (defScope s_is_integer) .none kV2 dc2 pm2 an2 cd2 ct2), sl2⟩)
    (c2 : PySem.W.codeIn K cd2 "is_integer" = true)
    (k2 : PySem.W.keepIn K (.ref f2) = true)
    (a3 : PySem.W.nsIn K mainGlobals "is_number" = some (some (.ref f3)))
    (l3 : K.lookup f3 = some ⟨oc3, od3, .func (PySem.W.fnOf "is_number" "is_number" (defArgs s_is_number) (defBody s_is_number) (defScope s_is_number) .none kV3 dc3 pm3 an3 cd3 ct3), sl3⟩)
    (c3 : PySem.W.codeIn K cd3 "is_number" = true)
    (k3 : PySem.W.keepIn K (.ref f3) = true)
    (a4 : PySem.W.findIn K (.ref c_Account) "__init__" = some (some (.ref f4)))
    (i4 : PySem.W.isFn K (.ref f4) = true)
    (h4 : PySem.W.fnIn K f4 = true)
    (l4 : K.lookup f4 = some ⟨oc4, od4, .func (PySem.W.fnOf "__init__" "Account.__init__" (defArgs s_Account___init__) (defBody s_Account___init__) (defScope s_Account___init__) .none kV4 dc4 pm4 an4 cd4 ct4), sl4⟩)
    (c4 : PySem.W.codeIn K cd4 "Account.__init__" = true)
    (k4 : PySem.W.keepIn K (.ref f4) = true)
    (a5 : PySem.W.findIn K (.ref c_Account) "left" = some (some (.ref p5)))
    (pg5 : PySem.W.specialIn K (.ref p5) "__get__" = some (some (.builtin "property.__get__")))
    (pt5 : PySem.W.takesIn K (.ref p5) = some true)
    (pr5 : PySem.W.recIn K p5 "property" = some (.ref f5 :: rp5))
    (l5 : K.lookup f5 = some ⟨oc5, od5, .func (PySem.W.fnOf "left" "Account.left" (defArgs s_Account_left) (defBody s_Account_left) (defScope s_Account_left) .none kV5 dc5 pm5 an5 cd5 ct5), sl5⟩)
    (c5 : PySem.W.codeIn K cd5 "Account.left" = true)
    (k5 : PySem.W.keepIn K (.ref f5) = true)
    (a6 : PySem.W.findIn K (.ref c_Account) "__isub__" = some (some (.ref f6)))
    (i6 : PySem.W.isFn K (.ref f6) = true)
    (h6 : PySem.W.fnIn K f6 = true)
    (l6 : K.lookup f6 = some ⟨oc6, od6, .func (PySem.W.fnOf "__isub__" "Account.__isub__" (defArgs s_Account___isub__) (defBody s_Account___isub__) (defScope s_Account___isub__) .none kV6 dc6 pm6 an6 cd6 ct6), sl6⟩)
    (c6 : PySem.W.codeIn K cd6 "Account.__isub__" = true)
    (k6 : PySem.W.keepIn K (.ref f6) = true)
    (a7 : PySem.W.nsIn K mainGlobals "given" = some (some (.ref f7)))
    (l7 : K.lookup f7 = some ⟨oc7, od7, .func (PySem.W.fnOf "given" "given" (defArgs s_given) (defBody s_given) (defScope s_given) .none kV7 dc7 pm7 an7 cd7 ct7), sl7⟩)
    (c7 : PySem.W.codeIn K cd7 "given" = true)
    (k7 : PySem.W.keepIn K (.ref f7) = true)
    (a8 : PySem.W.findIn K (.ref c_Rule) "rest" = some (some (.ref f8)))
    (i8 : PySem.W.isFn K (.ref f8) = true)
    (h8 : PySem.W.fnIn K f8 = true)
    (l8 : K.lookup f8 = some ⟨oc8, od8, .func (PySem.W.fnOf "rest" "Rule.rest" (defArgs s_Rule_rest) (defBody s_Rule_rest) (defScope s_Rule_rest) .none kV8 dc8 pm8 an8 cd8 ct8), sl8⟩)
    (c8 : PySem.W.codeIn K cd8 "Rule.rest" = true)
    (k8 : PySem.W.keepIn K (.ref f8) = true)
    (a9 : PySem.W.nsIn K mainGlobals "threshold_of" = some (some (.ref f9)))
    (l9 : K.lookup f9 = some ⟨oc9, od9, .func (PySem.W.fnOf "threshold_of" "threshold_of" (defArgs s_threshold_of) (defBody s_threshold_of) (defScope s_threshold_of) .none kV9 dc9 pm9 an9 cd9 ct9), sl9⟩)
    (c9 : PySem.W.codeIn K cd9 "threshold_of" = true)
    (k9 : PySem.W.keepIn K (.ref f9) = true)
    (a10 : PySem.W.findIn K (.ref c_Rule) "threshold" = some (some (.ref p10)))
    (pg10 : PySem.W.specialIn K (.ref p10) "__get__" = some (some (.builtin "property.__get__")))
    (pt10 : PySem.W.takesIn K (.ref p10) = some true)
    (pr10 : PySem.W.recIn K p10 "property" = some (.ref f10 :: rp10))
    (l10 : K.lookup f10 = some ⟨oc10, od10, .func (PySem.W.fnOf "threshold" "Rule.threshold" (defArgs s_Rule_threshold) (defBody s_Rule_threshold) (defScope s_Rule_threshold) .none kV10 dc10 pm10 an10 cd10 ct10), sl10⟩)
    (c10 : PySem.W.codeIn K cd10 "Rule.threshold" = true)
    (k10 : PySem.W.keepIn K (.ref f10) = true)
    (a11 : PySem.W.nsIn K mainGlobals "steps_to_give" = some (some (.ref f11)))
    (l11 : K.lookup f11 = some ⟨oc11, od11, .func (PySem.W.fnOf "steps_to_give" "steps_to_give" (defArgs s_steps_to_give) (defBody s_steps_to_give) (defScope s_steps_to_give) .none kV11 dc11 pm11 an11 cd11 ct11), sl11⟩)
    (c11 : PySem.W.codeIn K cd11 "steps_to_give" = true)
    (k11 : PySem.W.keepIn K (.ref f11) = true)
    (a12 : PySem.W.nsIn K mainGlobals "repeated" = some (some (.ref f12)))
    (l12 : K.lookup f12 = some ⟨oc12, od12, .func (PySem.W.fnOf "repeated" "repeated" (defArgs s_repeated) (defBody s_repeated) (defScope s_repeated) .none kV12 dc12 pm12 an12 cd12 ct12), sl12⟩)
    (c12 : PySem.W.codeIn K cd12 "repeated" = true)
    (k12 : PySem.W.keepIn K (.ref f12) = true)
    (a13 : PySem.W.findIn K (.ref c_Account) "flows" = some (some (.ref f13)))
    (i13 : PySem.W.isFn K (.ref f13) = true)
    (h13 : PySem.W.fnIn K f13 = true)
    (l13 : K.lookup f13 = some ⟨oc13, od13, .func (PySem.W.fnOf "flows" "Account.flows" (defArgs s_Account_flows) (defBody s_Account_flows) (defScope s_Account_flows) .none kV13 dc13 pm13 an13 cd13 ct13), sl13⟩)
    (c13 : PySem.W.codeIn K cd13 "Account.flows" = true)
    (k13 : PySem.W.keepIn K (.ref f13) = true)
    (a14 : PySem.W.findIn K (.ref c_Account) "passes" = some (some (.ref f14)))
    (i14 : PySem.W.isFn K (.ref f14) = true)
    (h14 : PySem.W.fnIn K f14 = true)
    (l14 : K.lookup f14 = some ⟨oc14, od14, .func (PySem.W.fnOf "passes" "Account.passes" (defArgs s_Account_passes) (defBody s_Account_passes) (defScope s_Account_passes) .none kV14 dc14 pm14 an14 cd14 ct14), sl14⟩)
    (c14 : PySem.W.codeIn K cd14 "Account.passes" = true)
    (k14 : PySem.W.keepIn K (.ref f14) = true)
    (a15 : PySem.W.findIn K (.ref c_Account) "unpassed" = some (some (.ref p15)))
    (pg15 : PySem.W.specialIn K (.ref p15) "__get__" = some (some (.builtin "property.__get__")))
    (pt15 : PySem.W.takesIn K (.ref p15) = some true)
    (pr15 : PySem.W.recIn K p15 "property" = some (.ref f15 :: rp15))
    (l15 : K.lookup f15 = some ⟨oc15, od15, .func (PySem.W.fnOf "unpassed" "Account.unpassed" (defArgs s_Account_unpassed) (defBody s_Account_unpassed) (defScope s_Account_unpassed) .none kV15 dc15 pm15 an15 cd15 ct15), sl15⟩)
    (c15 : PySem.W.codeIn K cd15 "Account.unpassed" = true)
    (k15 : PySem.W.keepIn K (.ref f15) = true)
    (a16 : PySem.W.findIn K (.ref c_Account) "withheld" = some (some (.ref p16)))
    (pg16 : PySem.W.specialIn K (.ref p16) "__get__" = some (some (.builtin "property.__get__")))
    (pt16 : PySem.W.takesIn K (.ref p16) = some true)
    (pr16 : PySem.W.recIn K p16 "property" = some (.ref f16 :: rp16))
    (l16 : K.lookup f16 = some ⟨oc16, od16, .func (PySem.W.fnOf "withheld" "Account.withheld" (defArgs s_Account_withheld) (defBody s_Account_withheld) (defScope s_Account_withheld) .none kV16 dc16 pm16 an16 cd16 ct16), sl16⟩)
    (c16 : PySem.W.codeIn K cd16 "Account.withheld" = true)
    (k16 : PySem.W.keepIn K (.ref f16) = true)
    (a17 : PySem.W.nsIn K mainGlobals "has_word" = some (some (.ref f17)))
    (l17 : K.lookup f17 = some ⟨oc17, od17, .func (PySem.W.fnOf "has_word" "has_word" (defArgs s_has_word) (defBody s_has_word) (defScope s_has_word) .none kV17 dc17 pm17 an17 cd17 ct17), sl17⟩)
    (c17 : PySem.W.codeIn K cd17 "has_word" = true)
    (k17 : PySem.W.keepIn K (.ref f17) = true)
    (a18 : PySem.W.nsIn K mainGlobals "is_by" = some (some (.ref f18)))
    (l18 : K.lookup f18 = some ⟨oc18, od18, .func (PySem.W.fnOf "is_by" "is_by" (defArgs s_is_by) (defBody s_is_by) (defScope s_is_by) .none kV18 dc18 pm18 an18 cd18 ct18), sl18⟩)
    (c18 : PySem.W.codeIn K cd18 "is_by" = true)
    (k18 : PySem.W.keepIn K (.ref f18) = true)
    (a19 : PySem.W.nsIn K mainGlobals "is_leaf" = some (some (.ref f19)))
    (l19 : K.lookup f19 = some ⟨oc19, od19, .func (PySem.W.fnOf "is_leaf" "is_leaf" (defArgs s_is_leaf) (defBody s_is_leaf) (defScope s_is_leaf) .none kV19 dc19 pm19 an19 cd19 ct19), sl19⟩)
    (c19 : PySem.W.codeIn K cd19 "is_leaf" = true)
    (k19 : PySem.W.keepIn K (.ref f19) = true)
    (a20 : PySem.W.nsIn K mainGlobals "is_tree" = some (some (.ref f20)))
    (l20 : K.lookup f20 = some ⟨oc20, od20, .func (PySem.W.fnOf "is_tree" "is_tree" (defArgs s_is_tree) (defBody s_is_tree) (defScope s_is_tree) .none kV20 dc20 pm20 an20 cd20 ct20), sl20⟩)
    (c20 : PySem.W.codeIn K cd20 "is_tree" = true)
    (k20 : PySem.W.keepIn K (.ref f20) = true)
    (a21 : PySem.W.findIn K (.ref c_Rule) "__init__" = some (some (.ref f21)))
    (i21 : PySem.W.isFn K (.ref f21) = true)
    (h21 : PySem.W.fnIn K f21 = true)
    (l21 : K.lookup f21 = some ⟨oc21, od21, .func (PySem.W.fnOf "__init__" "Rule.__init__" (defArgs s_Rule___init__) (defBody s_Rule___init__) (defScope s_Rule___init__) .none kV21 dc21 pm21 an21 cd21 ct21), sl21⟩)
    (c21 : PySem.W.codeIn K cd21 "Rule.__init__" = true)
    (k21 : PySem.W.keepIn K (.ref f21) = true)
    (a22 : PySem.W.nsIn K mainGlobals "_law_bag" = some (some (.ref f22)))
    (l22 : K.lookup f22 = some ⟨oc22, od22, .func (PySem.W.fnOf "_law_bag" "_law_bag" (defArgs s__law_bag) (defBody s__law_bag) (defScope s__law_bag) .none kV22 dc22 pm22 an22 cd22 ct22), sl22⟩)
    (c22 : PySem.W.codeIn K cd22 "_law_bag" = true)
    (k22 : PySem.W.keepIn K (.ref f22) = true)
    (a23 : PySem.W.nsIn K mainGlobals "_law_take" = some (some (.ref f23)))
    (l23 : K.lookup f23 = some ⟨oc23, od23, .func (PySem.W.fnOf "_law_take" "_law_take" (defArgs s__law_take) (defBody s__law_take) (defScope s__law_take) .none kV23 dc23 pm23 an23 cd23 ct23), sl23⟩)
    (c23 : PySem.W.codeIn K cd23 "_law_take" = true)
    (k23 : PySem.W.keepIn K (.ref f23) = true)
    (a24 : PySem.W.nsIn K mainGlobals "_law_draw_size" = some (some (.ref f24)))
    (l24 : K.lookup f24 = some ⟨oc24, od24, .func (PySem.W.fnOf "_law_draw_size" "_law_draw_size" (defArgs s__law_draw_size) (defBody s__law_draw_size) (defScope s__law_draw_size) .none kV24 dc24 pm24 an24 cd24 ct24), sl24⟩)
    (c24 : PySem.W.codeIn K cd24 "_law_draw_size" = true)
    (k24 : PySem.W.keepIn K (.ref f24) = true)
    (a25 : PySem.W.nsIn K mainGlobals "_law_draw_tree" = some (some (.ref f25)))
    (l25 : K.lookup f25 = some ⟨oc25, od25, .func (PySem.W.fnOf "_law_draw_tree" "_law_draw_tree" (defArgs s__law_draw_tree) (defBody s__law_draw_tree) (defScope s__law_draw_tree) .none kV25 dc25 pm25 an25 cd25 ct25), sl25⟩)
    (c25 : PySem.W.codeIn K cd25 "_law_draw_tree" = true)
    (k25 : PySem.W.keepIn K (.ref f25) = true)
    (a26 : PySem.W.findIn K (.ref c_Account) "__iadd__" = some (some (.ref f26)))
    (i26 : PySem.W.isFn K (.ref f26) = true)
    (h26 : PySem.W.fnIn K f26 = true)
    (l26 : K.lookup f26 = some ⟨oc26, od26, .func (PySem.W.fnOf "__iadd__" "Account.__iadd__" (defArgs s_Account___iadd__) (defBody s_Account___iadd__) (defScope s_Account___iadd__) .none kV26 dc26 pm26 an26 cd26 ct26), sl26⟩)
    (c26 : PySem.W.codeIn K cd26 "Account.__iadd__" = true)
    (k26 : PySem.W.keepIn K (.ref f26) = true)
    (a27 : PySem.W.nsIn K mainGlobals "_law_one_by_one" = some (some (.ref f27)))
    (l27 : K.lookup f27 = some ⟨oc27, od27, .func (PySem.W.fnOf "_law_one_by_one" "_law_one_by_one" (defArgs s__law_one_by_one) (defBody s__law_one_by_one) (defScope s__law_one_by_one) .none kV27 dc27 pm27 an27 cd27 ct27), sl27⟩)
    (c27 : PySem.W.codeIn K cd27 "_law_one_by_one" = true)
    (k27 : PySem.W.keepIn K (.ref f27) = true)
    (a28 : PySem.W.nsIn K mainGlobals "_law_threshold" = some (some (.ref f28)))
    (l28 : K.lookup f28 = some ⟨oc28, od28, .func (PySem.W.fnOf "_law_threshold" "_law_threshold" (defArgs s__law_threshold) (defBody s__law_threshold) (defScope s__law_threshold) .none kV28 dc28 pm28 an28 cd28 ct28), sl28⟩)
    (c28 : PySem.W.codeIn K cd28 "_law_threshold" = true)
    (k28 : PySem.W.keepIn K (.ref f28) = true)
    (a29 : PySem.W.nsIn K mainGlobals "law" = some (some (.ref f29)))
    (l29 : K.lookup f29 = some ⟨oc29, od29, .func (PySem.W.fnOf "law" "law" (defArgs s_law) (defBody s_law) (defScope s_law) .none kV29 dc29 pm29 an29 cd29 ct29), sl29⟩)
    (c29 : PySem.W.codeIn K cd29 "law" = true)
    (k29 : PySem.W.keepIn K (.ref f29) = true)
    (zb_abs : PySem.W.nsIn K mainGlobals "abs" = some none)
    (zb_bool : PySem.W.nsIn K mainGlobals "bool" = some none)
    (zb_int : PySem.W.nsIn K mainGlobals "int" = some none)
    (zb_isinstance : PySem.W.nsIn K mainGlobals "isinstance" = some none)
    (zb_len : PySem.W.nsIn K mainGlobals "len" = some none)
    (zb_max : PySem.W.nsIn K mainGlobals "max" = some none)
    (zb_min : PySem.W.nsIn K mainGlobals "min" = some none)
    (zb_range : PySem.W.nsIn K mainGlobals "range" = some none)
    (zb_str : PySem.W.nsIn K mainGlobals "str" = some none)
    (zb_tuple : PySem.W.nsIn K mainGlobals "tuple" = some none)
    (zc_MOST_BY : PySem.W.nsIn K mainGlobals "MOST_BY" = some (some (.int 6 tk_MOST_BY)))
    (zc_MOST_LEAVES : PySem.W.nsIn K mainGlobals "MOST_LEAVES" = some (some (.int 6 tk_MOST_LEAVES))) :
    ∃ fd : FuncData, (∀ (s : Shared) (v : Value), BindsTo s fd ⟨[v], []⟩ [("_law_script", v)]) ∧ ∀ base : Heap, K.In base → base.Ns mainGlobals mg → FnG l.prog w K mg base CX0 13 fa fd P_law (sp_law K) := by
  have e := hfa.symm.trans (PySem.W.mg_of X G a29)
  cases e
  have T : Bl mg := ⟨trivial, PySem.W.mg_none_of X G zb_abs, PySem.W.mg_none_of X G zb_bool, PySem.W.mg_none_of X G zb_int, PySem.W.mg_none_of X G zb_isinstance, PySem.W.mg_none_of X G zb_len, PySem.W.mg_none_of X G zb_max, PySem.W.mg_none_of X G zb_min, PySem.W.mg_none_of X G zb_range, PySem.W.mg_none_of X G zb_str, PySem.W.mg_none_of X G zb_tuple, ⟨_, PySem.W.mg_of X G zc_MOST_BY⟩, ⟨_, PySem.W.mg_of X G zc_MOST_LEAVES⟩⟩
  have F0 := fun_mk (st := s_Rule___eq__) l0 c0 k0
  have b0 := F0.binds (ps := P_Rule___eq__) fun _ _ _ _ _ _ us hl => match us, hl with | [_, _], _ => rfl
  have F1 := fun_mk (st := s_Account___eq__) l1 c1 k1
  have b1 := F1.binds (ps := P_Account___eq__) fun _ _ _ _ _ _ us hl => match us, hl with | [_, _], _ => rfl
  have F2 := fun_mk (st := s_is_integer) l2 c2 k2
  have b2 := F2.binds (ps := P_is_integer) fun _ _ _ _ _ _ us hl => match us, hl with | [_], _ => rfl
  have F3 := fun_mk (st := s_is_number) l3 c3 k3
  have b3 := F3.binds (ps := P_is_number) fun _ _ _ _ _ _ us hl => match us, hl with | [_, _], _ => rfl
  have F4 := fun_mk (st := s_Account___init__) l4 c4 k4
  have b4 := F4.binds (ps := P_Account___init__) fun _ _ _ _ _ _ us hl => match us, hl with | [_, _, _], _ => rfl
  have F5 := fun_mk (st := s_Account_left) l5 c5 k5
  have b5 := F5.binds (ps := P_Account_left) fun _ _ _ _ _ _ us hl => match us, hl with | [_], _ => rfl
  have F6 := fun_mk (st := s_Account___isub__) l6 c6 k6
  have b6 := F6.binds (ps := P_Account___isub__) fun _ _ _ _ _ _ us hl => match us, hl with | [_, _], _ => rfl
  have F7 := fun_mk (st := s_given) l7 c7 k7
  have b7 := F7.binds (ps := P_given) fun _ _ _ _ _ _ us hl => match us, hl with | [_, _], _ => rfl
  have F8 := fun_mk (st := s_Rule_rest) l8 c8 k8
  have b8 := F8.binds (ps := P_Rule_rest) fun _ _ _ _ _ _ us hl => match us, hl with | [_, _], _ => rfl
  have F9 := fun_mk (st := s_threshold_of) l9 c9 k9
  have b9 := F9.binds (ps := P_threshold_of) fun _ _ _ _ _ _ us hl => match us, hl with | [_], _ => rfl
  have F10 := fun_mk (st := s_Rule_threshold) l10 c10 k10
  have b10 := F10.binds (ps := P_Rule_threshold) fun _ _ _ _ _ _ us hl => match us, hl with | [_], _ => rfl
  have F11 := fun_mk (st := s_steps_to_give) l11 c11 k11
  have b11 := F11.binds (ps := P_steps_to_give) fun _ _ _ _ _ _ us hl => match us, hl with | [_, _, _], _ => rfl
  have F12 := fun_mk (st := s_repeated) l12 c12 k12
  have b12 := F12.binds (ps := P_repeated) fun _ _ _ _ _ _ us hl => match us, hl with | [_, _, _, _], _ => rfl
  have F13 := fun_mk (st := s_Account_flows) l13 c13 k13
  have b13 := F13.binds (ps := P_Account_flows) fun _ _ _ _ _ _ us hl => match us, hl with | [_, _, _], _ => rfl
  have F14 := fun_mk (st := s_Account_passes) l14 c14 k14
  have b14 := F14.binds (ps := P_Account_passes) fun _ _ _ _ _ _ us hl => match us, hl with | [_, _, _], _ => rfl
  have F15 := fun_mk (st := s_Account_unpassed) l15 c15 k15
  have b15 := F15.binds (ps := P_Account_unpassed) fun _ _ _ _ _ _ us hl => match us, hl with | [_], _ => rfl
  have F16 := fun_mk (st := s_Account_withheld) l16 c16 k16
  have b16 := F16.binds (ps := P_Account_withheld) fun _ _ _ _ _ _ us hl => match us, hl with | [_], _ => rfl
  have F17 := fun_mk (st := s_has_word) l17 c17 k17
  have b17 := F17.binds (ps := P_has_word) fun _ _ _ _ _ _ us hl => match us, hl with | [_, _], _ => rfl
  have F18 := fun_mk (st := s_is_by) l18 c18 k18
  have b18 := F18.binds (ps := P_is_by) fun _ _ _ _ _ _ us hl => match us, hl with | [_], _ => rfl
  have F19 := fun_mk (st := s_is_leaf) l19 c19 k19
  have b19 := F19.binds (ps := P_is_leaf) fun _ _ _ _ _ _ us hl => match us, hl with | [_], _ => rfl
  have F20 := fun_mk (st := s_is_tree) l20 c20 k20
  have b20 := F20.binds (ps := P_is_tree) fun _ _ _ _ _ _ us hl => match us, hl with | [_], _ => rfl
  have F21 := fun_mk (st := s_Rule___init__) l21 c21 k21
  have b21 := F21.binds (ps := P_Rule___init__) fun _ _ _ _ _ _ us hl => match us, hl with | [_, _], _ => rfl
  have F22 := fun_mk (st := s__law_bag) l22 c22 k22
  have b22 := F22.binds (ps := P__law_bag) fun _ _ _ _ _ _ us hl => match us, hl with | [_], _ => rfl
  have F23 := fun_mk (st := s__law_take) l23 c23 k23
  have b23 := F23.binds (ps := P__law_take) fun _ _ _ _ _ _ us hl => match us, hl with | [_, _], _ => rfl
  have F24 := fun_mk (st := s__law_draw_size) l24 c24 k24
  have b24 := F24.binds (ps := P__law_draw_size) fun _ _ _ _ _ _ us hl => match us, hl with | [_, _, _], _ => rfl
  have F25 := fun_mk (st := s__law_draw_tree) l25 c25 k25
  have b25 := F25.binds (ps := P__law_draw_tree) fun _ _ _ _ _ _ us hl => match us, hl with | [_, _, _, _], _ => rfl
  have F26 := fun_mk (st := s_Account___iadd__) l26 c26 k26
  have b26 := F26.binds (ps := P_Account___iadd__) fun _ _ _ _ _ _ us hl => match us, hl with | [_, _], _ => rfl
  have F27 := fun_mk (st := s__law_one_by_one) l27 c27 k27
  have b27 := F27.binds (ps := P__law_one_by_one) fun _ _ _ _ _ _ us hl => match us, hl with | [_, _, _, _], _ => rfl
  have F28 := fun_mk (st := s__law_threshold) l28 c28 k28
  have b28 := F28.binds (ps := P__law_threshold) fun _ _ _ _ _ _ us hl => match us, hl with | [_], _ => rfl
  have F29 := fun_mk (st := s_law) l29 c29 k29
  have b29 := F29.binds (ps := P_law) fun _ _ _ _ _ _ us hl => match us, hl with | [_], _ => rfl
  refine ⟨PySem.W.fnOf "law" "law" (defArgs s_law) (defBody s_law) (defScope s_law) .none kV29 dc29 pm29 an29 cd29 ct29, fun s v => .of_eq rfl, fun base _ _ => ?_⟩
  have cl_Account : Cls K c_Account := ⟨pg_Account, hd_Account, po_Account, sa_Account⟩
  have ic_Account : C8.InsC K c_Account := ⟨cl_Account, ha_Account, hn_Account, ht_Account, hm_Account, kit_same⟩
  have K_Account : Kls K mg "Account" c_Account := ⟨PySem.W.mg_of X G aC_Account, cl_Account, mk_Account, kc_Account, sf_Account, ic_Account, ne_Account⟩
  have fx_FxAccount : FxAccount K ({ PipeError := 0, Wrong := 0, TooMany := 0, Overdrawn := 0, NotPassed := 0, Rule := c_Rule, Account := c_Account } : Cs) := ⟨cl_Account, na_Account__credit, na_Account__rule, na_Account__unpassed, na_Account__withheld, ic_Account⟩
  have cl_Rule : Cls K c_Rule := ⟨pg_Rule, hd_Rule, po_Rule, sa_Rule⟩
  have ic_Rule : C8.InsC K c_Rule := ⟨cl_Rule, ha_Rule, hn_Rule, ht_Rule, hm_Rule, kit_same⟩
  have K_Rule : Kls K mg "Rule" c_Rule := ⟨PySem.W.mg_of X G aC_Rule, cl_Rule, mk_Rule, kc_Rule, sf_Rule, ic_Rule, ne_Rule⟩
  have fx_FxRule : FxRule K ({ PipeError := 0, Wrong := 0, TooMany := 0, Overdrawn := 0, NotPassed := 0, Rule := c_Rule, Account := c_Account } : Cs) := ⟨cl_Rule, na_Rule__tree, ic_Rule⟩
  have o_Rule___eq__ : Own l.prog w K mg base CX0 1 c_Rule "__eq__" P_Rule___eq__ (sp_Rule___eq__ K ({ PipeError := 0, Wrong := 0, TooMany := 0, Overdrawn := 0, NotPassed := 0, Rule := c_Rule, Account := c_Account } : Cs)) := ⟨_, _, ok_Rule___eq__ (C := ({ PipeError := 0, Wrong := 0, TooMany := 0, Overdrawn := 0, NotPassed := 0, Rule := c_Rule, Account := c_Account } : Cs)) (P := l.prog) (w := w) (base := base) F0 T  K_Rule, a0, i0, k0, h0, b0⟩
  have o_Account___eq__ : Own l.prog w K mg base CX0 3 c_Account "__eq__" P_Account___eq__ (sp_Account___eq__ K ({ PipeError := 0, Wrong := 0, TooMany := 0, Overdrawn := 0, NotPassed := 0, Rule := c_Rule, Account := c_Account } : Cs)) := ⟨_, _, ok_Account___eq__ (C := ({ PipeError := 0, Wrong := 0, TooMany := 0, Overdrawn := 0, NotPassed := 0, Rule := c_Rule, Account := c_Account } : Cs)) (P := l.prog) (w := w) (base := base) F1 T  o_Rule___eq__ K_Rule K_Account, a1, i1, k1, h1, b1⟩
  have f_is_integer : Cal l.prog w K mg base CX0 1 "is_integer" P_is_integer [] (sp_is_integer K) := ⟨_, _, ok_is_integer  (P := l.prog) (w := w) (base := base) F2 T  , PySem.W.mg_of X G a2, k2, b2⟩
  have f_is_number : Cal l.prog w K mg base CX0 2 "is_number" P_is_number [] (sp_is_number K) := ⟨_, _, ok_is_number  (P := l.prog) (w := w) (base := base) F3 T  f_is_integer, PySem.W.mg_of X G a3, k3, b3⟩
  have o_Account___init__ : Own l.prog w K mg base CX0 3 c_Account "__init__" P_Account___init__ (sp_Account___init__ K ({ PipeError := 0, Wrong := 0, TooMany := 0, Overdrawn := 0, NotPassed := 0, Rule := c_Rule, Account := c_Account } : Cs)) := ⟨_, _, ok_Account___init__ (C := ({ PipeError := 0, Wrong := 0, TooMany := 0, Overdrawn := 0, NotPassed := 0, Rule := c_Rule, Account := c_Account } : Cs)) (P := l.prog) (w := w) (base := base) F4 T  K_Rule f_is_number, a4, i4, k4, h4, b4⟩
  have o_Account_left : Pro l.prog w K mg base CX0 1 c_Account "left" P_Account_left (sp_Account_left K ({ PipeError := 0, Wrong := 0, TooMany := 0, Overdrawn := 0, NotPassed := 0, Rule := c_Rule, Account := c_Account } : Cs)) := ⟨p5, _, _, ok_Account_left (C := ({ PipeError := 0, Wrong := 0, TooMany := 0, Overdrawn := 0, NotPassed := 0, Rule := c_Rule, Account := c_Account } : Cs)) (P := l.prog) (w := w) (base := base) F5 T  , ⟨a5, pg5, pt5, _, pr5⟩, b5⟩
  have o_Account___isub__ : Own l.prog w K mg base CX0 3 c_Account "__isub__" P_Account___isub__ (sp_Account___isub__ K ({ PipeError := 0, Wrong := 0, TooMany := 0, Overdrawn := 0, NotPassed := 0, Rule := c_Rule, Account := c_Account } : Cs)) := ⟨_, _, ok_Account___isub__ (C := ({ PipeError := 0, Wrong := 0, TooMany := 0, Overdrawn := 0, NotPassed := 0, Rule := c_Rule, Account := c_Account } : Cs)) (P := l.prog) (w := w) (base := base) F6 T  o_Account_left K_Account, a6, i6, k6, h6, b6⟩
  have f_given : Cal l.prog w K mg base CX0 7 "given" P_given [] (sp_given K 7) := ⟨_, _, all_given  (P := l.prog) (w := w) (base := base) F7 T   (PySem.W.mg_of X G a7) k7 b7 7, PySem.W.mg_of X G a7, k7, b7⟩
  have o_Rule_rest : Own l.prog w K mg base CX0 8 c_Rule "rest" P_Rule_rest (sp_Rule_rest K ({ PipeError := 0, Wrong := 0, TooMany := 0, Overdrawn := 0, NotPassed := 0, Rule := c_Rule, Account := c_Account } : Cs)) := ⟨_, _, ok_Rule_rest (C := ({ PipeError := 0, Wrong := 0, TooMany := 0, Overdrawn := 0, NotPassed := 0, Rule := c_Rule, Account := c_Account } : Cs)) (P := l.prog) (w := w) (base := base) F8 T  f_given, a8, i8, k8, h8, b8⟩
  have f_threshold_of : Cal l.prog w K mg base CX0 7 "threshold_of" P_threshold_of [] (sp_threshold_of K 7) := ⟨_, _, all_threshold_of  (P := l.prog) (w := w) (base := base) F9 T   (PySem.W.mg_of X G a9) k9 b9 7, PySem.W.mg_of X G a9, k9, b9⟩
  have o_Rule_threshold : Pro l.prog w K mg base CX0 8 c_Rule "threshold" P_Rule_threshold (sp_Rule_threshold K ({ PipeError := 0, Wrong := 0, TooMany := 0, Overdrawn := 0, NotPassed := 0, Rule := c_Rule, Account := c_Account } : Cs)) := ⟨p10, _, _, ok_Rule_threshold (C := ({ PipeError := 0, Wrong := 0, TooMany := 0, Overdrawn := 0, NotPassed := 0, Rule := c_Rule, Account := c_Account } : Cs)) (P := l.prog) (w := w) (base := base) F10 T  f_threshold_of, ⟨a10, pg10, pt10, _, pr10⟩, b10⟩
  have f_steps_to_give : Cal l.prog w K mg base CX0 10 "steps_to_give" P_steps_to_give [] (sp_steps_to_give K ({ PipeError := 0, Wrong := 0, TooMany := 0, Overdrawn := 0, NotPassed := 0, Rule := c_Rule, Account := c_Account } : Cs)) := ⟨_, _, ok_steps_to_give (C := ({ PipeError := 0, Wrong := 0, TooMany := 0, Overdrawn := 0, NotPassed := 0, Rule := c_Rule, Account := c_Account } : Cs)) (P := l.prog) (w := w) (base := base) F11 T  o_Rule_threshold K_Rule, PySem.W.mg_of X G a11, k11, b11⟩
  have f_repeated : Cal l.prog w K mg base CX0 11 "repeated" P_repeated [] (sp_repeated K ({ PipeError := 0, Wrong := 0, TooMany := 0, Overdrawn := 0, NotPassed := 0, Rule := c_Rule, Account := c_Account } : Cs)) := ⟨_, _, ok_repeated (C := ({ PipeError := 0, Wrong := 0, TooMany := 0, Overdrawn := 0, NotPassed := 0, Rule := c_Rule, Account := c_Account } : Cs)) (P := l.prog) (w := w) (base := base) F12 T  f_steps_to_give o_Rule_rest K_Rule, PySem.W.mg_of X G a12, k12, b12⟩
  have o_Account_flows : Own l.prog w K mg base CX0 12 c_Account "flows" P_Account_flows (sp_Account_flows K ({ PipeError := 0, Wrong := 0, TooMany := 0, Overdrawn := 0, NotPassed := 0, Rule := c_Rule, Account := c_Account } : Cs)) := ⟨_, _, ok_Account_flows (C := ({ PipeError := 0, Wrong := 0, TooMany := 0, Overdrawn := 0, NotPassed := 0, Rule := c_Rule, Account := c_Account } : Cs)) (P := l.prog) (w := w) (base := base) F13 T  f_repeated, a13, i13, k13, h13, b13⟩
  have o_Account_passes : Own l.prog w K mg base CX0 12 c_Account "passes" P_Account_passes (sp_Account_passes K ({ PipeError := 0, Wrong := 0, TooMany := 0, Overdrawn := 0, NotPassed := 0, Rule := c_Rule, Account := c_Account } : Cs)) := ⟨_, _, ok_Account_passes (C := ({ PipeError := 0, Wrong := 0, TooMany := 0, Overdrawn := 0, NotPassed := 0, Rule := c_Rule, Account := c_Account } : Cs)) (P := l.prog) (w := w) (base := base) F14 T  f_repeated, a14, i14, k14, h14, b14⟩
  have o_Account_unpassed : Pro l.prog w K mg base CX0 1 c_Account "unpassed" P_Account_unpassed (sp_Account_unpassed K ({ PipeError := 0, Wrong := 0, TooMany := 0, Overdrawn := 0, NotPassed := 0, Rule := c_Rule, Account := c_Account } : Cs)) := ⟨p15, _, _, ok_Account_unpassed (C := ({ PipeError := 0, Wrong := 0, TooMany := 0, Overdrawn := 0, NotPassed := 0, Rule := c_Rule, Account := c_Account } : Cs)) (P := l.prog) (w := w) (base := base) F15 T  , ⟨a15, pg15, pt15, _, pr15⟩, b15⟩
  have o_Account_withheld : Pro l.prog w K mg base CX0 1 c_Account "withheld" P_Account_withheld (sp_Account_withheld K ({ PipeError := 0, Wrong := 0, TooMany := 0, Overdrawn := 0, NotPassed := 0, Rule := c_Rule, Account := c_Account } : Cs)) := ⟨p16, _, _, ok_Account_withheld (C := ({ PipeError := 0, Wrong := 0, TooMany := 0, Overdrawn := 0, NotPassed := 0, Rule := c_Rule, Account := c_Account } : Cs)) (P := l.prog) (w := w) (base := base) F16 T  , ⟨a16, pg16, pt16, _, pr16⟩, b16⟩
  have f_has_word : Cal l.prog w K mg base CX0 1 "has_word" P_has_word [] (sp_has_word K) := ⟨_, _, ok_has_word  (P := l.prog) (w := w) (base := base) F17 T  , PySem.W.mg_of X G a17, k17, b17⟩
  have f_is_by : Cal l.prog w K mg base CX0 3 "is_by" P_is_by [] (sp_is_by K) := ⟨_, _, ok_is_by  (P := l.prog) (w := w) (base := base) F18 T  f_is_number, PySem.W.mg_of X G a18, k18, b18⟩
  have f_is_leaf : Cal l.prog w K mg base CX0 4 "is_leaf" P_is_leaf [] (sp_is_leaf K) := ⟨_, _, ok_is_leaf  (P := l.prog) (w := w) (base := base) F19 T  f_has_word f_is_number f_is_by, PySem.W.mg_of X G a19, k19, b19⟩
  have f_is_tree : Cal l.prog w K mg base CX0 5 "is_tree" P_is_tree [] (sp_is_tree K) := ⟨_, _, ok_is_tree  (P := l.prog) (w := w) (base := base) F20 T  f_is_leaf f_has_word, PySem.W.mg_of X G a20, k20, b20⟩
  have o_Rule___init__ : Own l.prog w K mg base CX0 6 c_Rule "__init__" P_Rule___init__ (sp_Rule___init__ K ({ PipeError := 0, Wrong := 0, TooMany := 0, Overdrawn := 0, NotPassed := 0, Rule := c_Rule, Account := c_Account } : Cs)) := ⟨_, _, ok_Rule___init__ (C := ({ PipeError := 0, Wrong := 0, TooMany := 0, Overdrawn := 0, NotPassed := 0, Rule := c_Rule, Account := c_Account } : Cs)) (P := l.prog) (w := w) (base := base) F21 T  f_is_tree, a21, i21, k21, h21, b21⟩
  have f__law_bag : Cal l.prog w K mg base CX0 1 "_law_bag" P__law_bag [] (sp_law_bag K) := ⟨_, _, ok__law_bag  (P := l.prog) (w := w) (base := base) F22 T  , PySem.W.mg_of X G a22, k22, b22⟩
  have f__law_take : Cal l.prog w K mg base CX0 1 "_law_take" P__law_take [] (sp_law_take K) := ⟨_, _, ok__law_take  (P := l.prog) (w := w) (base := base) F23 T  , PySem.W.mg_of X G a23, k23, b23⟩
  have f__law_draw_size : Cal l.prog w K mg base CX0 2 "_law_draw_size" P__law_draw_size [] (sp_law_draw_size K) := ⟨_, _, ok__law_draw_size  (P := l.prog) (w := w) (base := base) F24 T  f__law_take, PySem.W.mg_of X G a24, k24, b24⟩
  have f__law_draw_tree : Cal l.prog w K mg base CX0 5 "_law_draw_tree" P__law_draw_tree [] (sp_law_draw_tree K 3) := ⟨_, _, all__law_draw_tree  (P := l.prog) (w := w) (base := base) F25 T  f__law_take f__law_draw_size (PySem.W.mg_of X G a25) k25 b25 3, PySem.W.mg_of X G a25, k25, b25⟩
  have o_Account___iadd__ : Own l.prog w K mg base CX0 9 c_Account "__iadd__" P_Account___iadd__ (sp_Account___iadd__ K ({ PipeError := 0, Wrong := 0, TooMany := 0, Overdrawn := 0, NotPassed := 0, Rule := c_Rule, Account := c_Account } : Cs)) := ⟨_, _, ok_Account___iadd__ (C := ({ PipeError := 0, Wrong := 0, TooMany := 0, Overdrawn := 0, NotPassed := 0, Rule := c_Rule, Account := c_Account } : Cs)) (P := l.prog) (w := w) (base := base) F26 T  o_Rule_rest K_Rule, a26, i26, k26, h26, b26⟩
  have f__law_one_by_one : Cal l.prog w K mg base CX0 10 "_law_one_by_one" P__law_one_by_one [] (sp_law_one_by_one K ({ PipeError := 0, Wrong := 0, TooMany := 0, Overdrawn := 0, NotPassed := 0, Rule := c_Rule, Account := c_Account } : Cs)) := ⟨_, _, ok__law_one_by_one (C := ({ PipeError := 0, Wrong := 0, TooMany := 0, Overdrawn := 0, NotPassed := 0, Rule := c_Rule, Account := c_Account } : Cs)) (P := l.prog) (w := w) (base := base) F27 T  o_Account___iadd__ K_Account o_Account___isub__, PySem.W.mg_of X G a27, k27, b27⟩
  have f__law_threshold : Cal l.prog w K mg base CX0 7 "_law_threshold" P__law_threshold [] (sp_law_threshold K 7) := ⟨_, _, all__law_threshold  (P := l.prog) (w := w) (base := base) F28 T   (PySem.W.mg_of X G a28) k28 b28 7, PySem.W.mg_of X G a28, k28, b28⟩
  exact FnG.of (ok_law (C := ({ PipeError := 0, Wrong := 0, TooMany := 0, Overdrawn := 0, NotPassed := 0, Rule := c_Rule, Account := c_Account } : Cs)) (P := l.prog) (w := w) (base := base) F29 T fx_FxRule fx_FxAccount o_Account_withheld K_Account f__law_threshold o_Account_left o_Account_unpassed o_Account___eq__ f__law_one_by_one o_Account_flows o_Account_passes o_Account___isub__ f__law_take o_Rule___init__ K_Rule o_Account___init__ f__law_draw_tree f__law_bag)
end Lw
open PySem PySem.W PyProof.Rows
set_option maxRecDepth 100000 in
set_option maxHeartbeats 0 in
theorem PySem.Challenge.cw_sharedpipe_k22_whole_many_amounts_in_acc_holds : PySem.Challenge.rw_sharedpipe_k22_whole_many_amounts_in_acc.Holds := by
  w_on; o_law; k_head; (case hw => w_witness2)
  k_fill
  refine Pk.walkG (l := PySem.Challenge.rw_sharedpipe_k22_whole_many_amounts_in_acc) (n := 63) (k := 13) (x := "_law_script") (sp := Pk.sp_law) rfl (by decide) rfl ⟨rfl, by decide, by decide⟩ (fun w h Y => PySem.W.kIn_of Y) ?F (fun K H a ns hl hS => ⟨a, ns, rfl, hS, hl, fun _ => rfl⟩)
  case F =>
    intro w mg fa h KX G hmg
    refine' Lw.all_mk KX G hmg ?aC_Account ?pg_Account ?hd_Account ?po_Account ?sa_Account ?mk_Account ?kc_Account ?sf_Account ?ha_Account ?hn_Account ?ht_Account ?hm_Account ?ne_Account ?na_Account__credit ?na_Account__rule ?na_Account__unpassed ?na_Account__withheld ?aC_Rule ?pg_Rule ?hd_Rule ?po_Rule ?sa_Rule ?mk_Rule ?kc_Rule ?sf_Rule ?ha_Rule ?hn_Rule ?ht_Rule ?hm_Rule ?ne_Rule ?na_Rule__tree ?a0 ?i0 ?h0 ?l0 ?c0 ?k0 ?a1 ?i1 ?h1 ?l1 ?c1 ?k1 ?a2 ?l2 ?c2 ?k2 ?a3 ?l3 ?c3 ?k3 ?a4 ?i4 ?h4 ?l4 ?c4 ?k4 ?a5 ?pg5 ?pt5 ?pr5 ?l5 ?c5 ?k5 ?a6 ?i6 ?h6 ?l6 ?c6 ?k6 ?a7 ?l7 ?c7 ?k7 ?a8 ?i8 ?h8 ?l8 ?c8 ?k8 ?a9 ?l9 ?c9 ?k9 ?a10 ?pg10 ?pt10 ?pr10 ?l10 ?c10 ?k10 ?a11 ?l11 ?c11 ?k11 ?a12 ?l12 ?c12 ?k12 ?a13 ?i13 ?h13 ?l13 ?c13 ?k13 ?a14 ?i14 ?h14 ?l14 ?c14 ?k14 ?a15 ?pg15 ?pt15 ?pr15 ?l15 ?c15 ?k15 ?a16 ?pg16 ?pt16 ?pr16 ?l16 ?c16 ?k16 ?a17 ?l17 ?c17 ?k17 ?a18 ?l18 ?c18 ?k18 ?a19 ?l19 ?c19 ?k19 ?a20 ?l20 ?c20 ?k20 ?a21 ?i21 ?h21 ?l21 ?c21 ?k21 ?a22 ?l22 ?c22 ?k22 ?a23 ?l23 ?c23 ?k23 ?a24 ?l24 ?c24 ?k24 ?a25 ?l25 ?c25 ?k25 ?a26 ?i26 ?h26 ?l26 ?c26 ?k26 ?a27 ?l27 ?c27 ?k27 ?a28 ?l28 ?c28 ?k28 ?a29 ?l29 ?c29 ?k29 ?zb_abs ?zb_bool ?zb_int ?zb_isinstance ?zb_len ?zb_max ?zb_min ?zb_range ?zb_str ?zb_tuple ?zc_MOST_BY ?zc_MOST_LEAVES
    (case aC_Account => k_is)
    (case pg_Account => k_is)
    (case hd_Account => k_is)
    (case po_Account => k_is)
    (case sa_Account => k_is)
    (case mk_Account => k_is)
    (case kc_Account => k_is)
    (case sf_Account => k_is)
    (case ha_Account => k_is)
    (case hn_Account => k_is)
    (case ht_Account => k_is)
    (case hm_Account => k_is)
    (case ne_Account => k_is)
    (case na_Account__credit => k_is)
    (case na_Account__rule => k_is)
    (case na_Account__unpassed => k_is)
    (case na_Account__withheld => k_is)
    (case aC_Rule => k_is)
    (case pg_Rule => k_is)
    (case hd_Rule => k_is)
    (case po_Rule => k_is)
    (case sa_Rule => k_is)
    (case mk_Rule => k_is)
    (case kc_Rule => k_is)
    (case sf_Rule => k_is)
    (case ha_Rule => k_is)
    (case hn_Rule => k_is)
    (case ht_Rule => k_is)
    (case hm_Rule => k_is)
    (case ne_Rule => k_is)
    (case na_Rule__tree => k_is)
    (case a0 => k_is)
    (case i0 => k_is)
    (case h0 => k_is)
    (case l0 => k_is)
    (case c0 => k_is)
    (case k0 => k_is)
    (case a1 => k_is)
    (case i1 => k_is)
    (case h1 => k_is)
    (case l1 => k_is)
    (case c1 => k_is)
    (case k1 => k_is)
    (case a2 => k_is)
    (case l2 => k_is)
    (case c2 => k_is)
    (case k2 => k_is)
    (case a3 => k_is)
    (case l3 => k_is)
    (case c3 => k_is)
    (case k3 => k_is)
    (case a4 => k_is)
    (case i4 => k_is)
    (case h4 => k_is)
    (case l4 => k_is)
    (case c4 => k_is)
    (case k4 => k_is)
    (case a5 => k_is)
    (case pg5 => k_is)
    (case pt5 => k_is)
    (case pr5 => k_is)
    (case l5 => k_is)
    (case c5 => k_is)
    (case k5 => k_is)
    (case a6 => k_is)
    (case i6 => k_is)
    (case h6 => k_is)
    (case l6 => k_is)
    (case c6 => k_is)
    (case k6 => k_is)
    (case a7 => k_is)
    (case l7 => k_is)
    (case c7 => k_is)
    (case k7 => k_is)
    (case a8 => k_is)
    (case i8 => k_is)
    (case h8 => k_is)
    (case l8 => k_is)
    (case c8 => k_is)
    (case k8 => k_is)
    (case a9 => k_is)
    (case l9 => k_is)
    (case c9 => k_is)
    (case k9 => k_is)
    (case a10 => k_is)
    (case pg10 => k_is)
    (case pt10 => k_is)
    (case pr10 => k_is)
    (case l10 => k_is)
    (case c10 => k_is)
    (case k10 => k_is)
    (case a11 => k_is)
    (case l11 => k_is)
    (case c11 => k_is)
    (case k11 => k_is)
    (case a12 => k_is)
    (case l12 => k_is)
    (case c12 => k_is)
    (case k12 => k_is)
    (case a13 => k_is)
    (case i13 => k_is)
    (case h13 => k_is)
    (case l13 => k_is)
    (case c13 => k_is)
    (case k13 => k_is)
    (case a14 => k_is)
    (case i14 => k_is)
    (case h14 => k_is)
    (case l14 => k_is)
    (case c14 => k_is)
    (case k14 => k_is)
    (case a15 => k_is)
    (case pg15 => k_is)
    (case pt15 => k_is)
    (case pr15 => k_is)
    (case l15 => k_is)
    (case c15 => k_is)
    (case k15 => k_is)
    (case a16 => k_is)
    (case pg16 => k_is)
    (case pt16 => k_is)
    (case pr16 => k_is)
    (case l16 => k_is)
    (case c16 => k_is)
    (case k16 => k_is)
    (case a17 => k_is)
    (case l17 => k_is)
    (case c17 => k_is)
    (case k17 => k_is)
    (case a18 => k_is)
    (case l18 => k_is)
    (case c18 => k_is)
    (case k18 => k_is)
    (case a19 => k_is)
    (case l19 => k_is)
    (case c19 => k_is)
    (case k19 => k_is)
    (case a20 => k_is)
    (case l20 => k_is)
    (case c20 => k_is)
    (case k20 => k_is)
    (case a21 => k_is)
    (case i21 => k_is)
    (case h21 => k_is)
    (case l21 => k_is)
    (case c21 => k_is)
    (case k21 => k_is)
    (case a22 => k_is)
    (case l22 => k_is)
    (case c22 => k_is)
    (case k22 => k_is)
    (case a23 => k_is)
    (case l23 => k_is)
    (case c23 => k_is)
    (case k23 => k_is)
    (case a24 => k_is)
    (case l24 => k_is)
    (case c24 => k_is)
    (case k24 => k_is)
    (case a25 => k_is)
    (case l25 => k_is)
    (case c25 => k_is)
    (case k25 => k_is)
    (case a26 => k_is)
    (case i26 => k_is)
    (case h26 => k_is)
    (case l26 => k_is)
    (case c26 => k_is)
    (case k26 => k_is)
    (case a27 => k_is)
    (case l27 => k_is)
    (case c27 => k_is)
    (case k27 => k_is)
    (case a28 => k_is)
    (case l28 => k_is)
    (case c28 => k_is)
    (case k28 => k_is)
    (case a29 => k_is)
    (case l29 => k_is)
    (case c29 => k_is)
    (case k29 => k_is)
    (case zb_abs => k_is)
    (case zb_bool => k_is)
    (case zb_int => k_is)
    (case zb_isinstance => k_is)
    (case zb_len => k_is)
    (case zb_max => k_is)
    (case zb_min => k_is)
    (case zb_range => k_is)
    (case zb_str => k_is)
    (case zb_tuple => k_is)
    (case zc_MOST_BY => k_is)
    (case zc_MOST_LEAVES => k_is)
