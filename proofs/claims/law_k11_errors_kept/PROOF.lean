import PyProof.Rows.All
import Wide.All
import OpenK.AllK
import Wide.FinOn
import HandS.ForMost
import HandS.Wide
import HandS.IsInst
import HandS.Codes
import HandS.Walk
import HandS.Style
import HandS.TupLe
import HandS.SortInts
import HandS.TupAny
import HandS.WordsDict
import HandS.WordsList
import HandS.Flow
import HandS.ExcInit
import HandS.ExcValue
import HandS.ExcField
import KE.KExcIs
import KE.KEqNest
import HandS.Small
import PySem.Challenge.RW_landedback_k11_errors_kept
set_option Elab.async false
set_option linter.all false
set_option maxRecDepth 100000
/-! # The layer with guards: where a repr of a list may run (no other repr is under way) -/
namespace VL
open PySem PySem.Spec PyProof.Rows L2

/-- as the layer's promise of a def, at callers under which no repr is under way -/
structure FnG (P : Program) (w : World) (K : PySem.W.Frag) (mg : Str → Option Value) (base : Heap) (CX : CXT) (k : Nat) (f : Addr) (fd : FuncData) (ps : List Str) (sp : Sp) : Prop where
  lenG : ∀ vs H Q E, sp vs H Q E → vs.length = ps.length
  go : ∀ (A : Around) (outer : List Env) (s : Shared) (H : Hp) (args : Args) (us : List Value) (vs : List V) (Q : VK) (E : XK), A.guards = some [] → Room k A → Env0 P w K mg base A outer s H → BindsTo s fd args (ps.zip us) → Vals vs us →
    sp vs H Q E → codeAny (model P w) A (.call (.ref f) args) (CR CX outer P w H s Q E) s

section
variable {P : Program} {w : World} {K : PySem.W.Frag} {mg : Str → Option Value} {base : Heap} {CX : CXT} {j k : Nat} {f : Addr} {fd : FuncData} {ps : List Str} {sp : Sp}
theorem FnG.of (F : FnOk P w K mg base CX k f fd ps sp) : FnG P w K mg base CX k f fd ps sp := ⟨F.len, fun A outer s H args us vs Q E _ => F.run A outer s H args us vs Q E⟩
theorem FnG.up (F : FnG P w K mg base CX j f fd ps sp) (h : j ≤ k) : FnG P w K mg base CX k f fd ps sp :=
  ⟨F.lenG, fun A outer s H args us vs Q E hg hr => F.go A outer s H args us vs Q E hg (hr.mono h)⟩
theorem deeper_guards {A : Around} {env : Env} (h : A.guards = some []) : (A.deeper env).guards = some [] := h

/-- a def by its body, its reading knowing that no repr is under way -/
theorem fnG_of {name qual : Str} {params : Arguments} {body : List Stmt} {scope : Scope} {dV kV doc pm cdv ct oc : Value} {an od : Option Addr} {osl : Array (Option Value)} {N : List Str}
    (lk : K.lookup f = some ⟨oc, od, .func (PySem.W.fnOf name qual params body scope dV kV doc pm an cdv ct), osl⟩)
    (hcd : PySem.W.codeIn K cdv qual = true) (S : FnScope N ps scope) (len : ∀ vs H Q E, sp vs H Q E → vs.length = ps.length)
    (hb : ∀ (A : Around) (outer : List Env) (s : Shared) (H : Hp) (vs : List V) (Q : VK) (E : XK), (A.deeper (envOfC qual scope s.heap.objs.size f cdv)).guards = some [] → Room k (A.deeper (envOfC qual scope s.heap.objs.size f cdv)) → sp vs H Q E →
      ∃ t, PSs (cxOf CX P w K mg base N qual scope f cdv A outer s H E) body t ∧ t { nx := fun _ H' => Q .non H', rt := Q } (start N vs) H) :
    FnG P w K mg base CX (k + 1) f (PySem.W.fnOf name qual params body scope dV kV doc pm an cdv ct) ps sp := by
  refine ⟨len, fun A outer s H args us vs Q E hG room e0 bs rel want => ?_⟩
  have lenP := len vs H Q E want
  have KH : K.In s.heap := e0.mod.kin.keeps (fun b o e => (e0.bs b o e).1)
  have nolim : s.heap.NoLimit := e0.mod.nolimit.keeps (fun b o e => (e0.bs b o e).1)
  refine codeAny_call_function room.depth (KH _ _ lk) rfl S.co S.gen rfl (PySem.W.codeRec_of KH hcd) (bs _ _ _ _ (wpAny_newFunctionEnv_cells S.kind (fun ⟨nm, vl⟩ hy => ?kinds) (fun env henv s1 x => ?enter)))
  case kinds =>
    cases S.par nm (List.of_mem_zip hy).1 with
    | inl z => exact Or.inl z
    | inr z => exact Or.inr ⟨z, PySem.W.cellsFrom_some _ _ _ (Or.inl z)⟩
  case enter =>
    subst henv
    refine ⟨nolim.keeps x.toInCall.keep, codeAny_func ?_⟩
    obtain ⟨t, der, rd⟩ := hb A outer s H vs Q E (deeper_guards hG) (room.deeper _) want
    have inv : Inv (cxOf CX P w K mg base N qual scope f cdv A outer s H E) [] (start N vs) H s1 := inv_start S room.hd e0 lenP rel x
    refine wpAny_mono (der.run [] s1 (start N vs) H _ inv rd) ?_ (fun _ _ z => z)
    intro fl s2 hs
    have done : ∀ {τ : L2.St} {G : Hp} {v : V} {u : Value}, Inv (cxOf CX P w K mg base N qual scope f cdv A outer s H E) [] τ G s2 → RelV v u → Q v G → CE outer P w H s Q u s2 := by
      intro τ G v u J rv q
      exact ⟨v, G, J.os, J.bare, J.base, J.hok, rv, q⟩
    match fl, hs with
    | .ret u, hs =>
      obtain ⟨v, τ, G, J, rv, q⟩ := hs
      exact done J rv q
    | .next, hs =>
      obtain ⟨τ, G, J, q⟩ := hs
      exact done (v := V.non) (u := Value.none) J rfl q
    | .brk, hs =>
      obtain ⟨_, _, _, q⟩ := hs
      exact q.elim
    | .cont, hs =>
      obtain ⟨_, _, _, q⟩ := hs
      exact q.elim

/-- a def of the text by its body -/
theorem okG {x qual : Str} {st : Stmt} {N : List Str} (F : Fun K x qual st f fd) (S : FnScope N ps (defScope st)) (len : ∀ vs H Q E, sp vs H Q E → vs.length = ps.length)
    (hb : ∀ (cdv : Value) (A : Around) (outer : List Env) (s : Shared) (H : Hp) (vs : List V) (Q : VK) (E : XK), (A.deeper (envOfC qual (defScope st) s.heap.objs.size f cdv)).guards = some [] → Room k (A.deeper (envOfC qual (defScope st) s.heap.objs.size f cdv)) → sp vs H Q E →
      ∃ t, PSs ((cxOf CX0 P w K mg base N qual (defScope st) f cdv A outer s H E).nox) (defBody st) t ∧ t { nx := fun _ H' => Q .non H', rt := Q } (start N vs) H) : FnG P w K mg base CX0 (k + 1) f fd ps sp := by
  obtain ⟨oc, od, kV, doc, pm, an, cdv, ct, osl, rfl, lk, hcd⟩ := F.ex
  refine fnG_of lk hcd S len (fun A outer s H vs Q E hG hr want => ?_)
  obtain ⟨t, h, q⟩ := hb cdv A outer s H vs Q E hG hr want
  exact ⟨t, h.nox, q⟩
end

section
variable {X : Cx} {CX : CXT} {k : Nat} {f : Addr} {fd : FuncData} {ps : List Str} {sp : Sp} {dvs : List V} {ds : List Value} {E : XK} {x : Str} {p pos : Pos} {e : Expr} {es : List Expr} {t : TA}
/-- the call of such a def -/
theorem pe_callG (F : FnG X.prog X.w X.K X.mg X.base CX k f fd ps sp) (hG : X.A.guards = some []) (hr : Room k X.A) (hg : Gl X x) (hm : X.mg x = some (.ref f)) (hk : PySem.W.keepIn X.K (.ref f) = true) (hb : Binds X.K fd ps ds) (hd : Vals dvs ds) (hx : Passes CX X E) (ha : PA X (e :: es) t)
    (hdb : (x == ("__debug__" : Str)) = false := by decide) (he : starEach (e :: es) X.env = (false, eval e X.env) :: starEach es X.env := by rfl) (hpl : (backTo pos (starEach es X.env)).any (·.1) = false := by rfl) : PE X (.Call (.Name x p) (e :: es) [] pos) (tCall sp dvs E t) := by
  constructor
  intro pins s σ H Q I h
  refine wpAny_Call_Name_kw (ld_glob I hg hm (PySem.W.callWith_K (h₀ := X.base) I.ok.mod.kin hk (thn (ha.run pos pins s σ H _ I h) (fun us s1 hh => ?_)) he hpl) hdb)
  obtain ⟨vs, H1, I1, r, q⟩ := hh
  refine ⟨I1.kIn, ?_⟩
  have rel : Vals (vs ++ dvs) (us ++ ds) := r.append hd
  have cnt : (us ++ ds).length = ps.length := rel.length.symm.trans (F.lenG _ _ _ _ q)
  refine wpAny_call (codeAny_mono (F.go X.A X.stack s1 H1 ⟨us, []⟩ (us ++ ds) (vs ++ dvs) Q E hG hr I1.env0 (hb s1 us I1.kIn cnt) rel q) (fun res s2 hq => ?_))
  match res, hq with
  | .error ex, hq => exact hx pins σ H1 s1 ex s2 I1 hq
  | .ok (.ret u), hq => exact I1.after hq
  | .ok .next, hq => exact hq.elim
  | .ok .brk, hq => exact hq.elim
  | .ok .cont, hq => exact hq.elim

/-- a def that may be called by its name, where no repr is under way -/
structure CalG (P : Program) (w : World) (K : PySem.W.Frag) (mg : Str → Option Value) (base : Heap) (k : Nat) (x : Str) (sp : Sp) (dvs : List V) : Prop where
  exG : ∃ (f : Addr) (fd : FuncData) (ps : List Str) (ds : List Value), FnG P w K mg base CX0 k f fd ps sp ∧ mg x = some (.ref f) ∧ PySem.W.keepIn K (.ref f) = true ∧ Binds K fd ps ds ∧ Vals dvs ds
theorem pe_cG {j : Nat} (c : CalG X.prog X.w X.K X.mg X.base k x sp dvs) (hG : X.A.guards = some []) (hr : Room j X.A) (hk : k ≤ j) (hg : Gl X x) (ha : PA X (e :: es) t)
    (hdb : (x == ("__debug__" : Str)) = false := by decide) (he : starEach (e :: es) X.env = (false, eval e X.env) :: starEach es X.env := by rfl) (hpl : (backTo pos (starEach es X.env)).any (·.1) = false := by rfl) : PE X (.Call (.Name x p) (e :: es) [] pos) (tCall sp dvs E0 t) := by
  obtain ⟨f, fd, ps, ds, F, hm, kp, b, d⟩ := c.exG
  exact pe_callG F hG (hr.mono hk) hg hm kp b d pass0 ha hdb he hpl
end

/-! ### repr of data -/
/-- a key as data -/
def kD : Key → PyData
  | .inl i => .int i
  | .inr x => .str x
/-- data that may be shown: as the layer's, and dicts of plain values -/
inductive Dr (K : PySem.W.Frag) (H : Hp) : V → PyData → Prop where
  | dp {v : V} {d : PyData} (h : Dp K H v d) (n : d.hasDict = false) : Dr K H v d
  | dct {a : Addr} {kvs : List (Key × V)} {ds : List PyData} (h : H a = some (.dK kvs)) (q : DpAll K H (kvs.map (·.2)) ds) (z : ∀ v ∈ kvs.map (·.2), ∀ b, v ≠ .ref b) : Dr K H (.ref a) (.dict ((kvs.map fun p => kD p.1).zip ds))
def rRepr (K : PySem.W.Frag) : List V → Hp → VK → Prop := fun xs H Q => ∃ (x : V) (d : PyData), xs = [x] ∧ Dr K H x d ∧ d.showable = true ∧ d.depth ≤ 60 ∧ d.shown.length ≤ sizeLine ∧ Q (.str d.shown) H
section
variable {X : Cx} {pins : List (Addr × Obj)} {σ : L2.St} {H : Hp} {s : Shared}
theorem reads_flat (I : Inv X pins σ H s) : ∀ {vs : List V} {ds : List PyData} {us : List Value}, DpAll X.K H vs ds → (∀ v ∈ vs, ∀ b, v ≠ .ref b) → Vals vs us → ReadsAll s.heap us ds []
  | _, _, _, .nil, _, .nil => .nil
  | v :: vs, d :: ds, u :: us, .cons h t, z, .cons r rs => by
    have tl := reads_flat I t (fun v hv => z v (List.mem_cons_of_mem _ hv)) rs
    have hd : Reads s.heap u d [] := by
      cases h with
      | non => cases (show u = Value.none from r); exact .none
      | bl b => cases (show u = Value.bool b from r); exact .bool b
      | int i => obtain ⟨t, e⟩ := (show ∃ t, u = Value.int i t from r); cases e; exact .int i t
      | str x => obtain ⟨t, e⟩ := (show ∃ t, u = Value.str x t from r); cases e; exact .str x t
      | lst _ _ => exact absurd rfl (z _ List.mem_cons_self _)
      | tup _ _ => exact absurd rfl (z _ List.mem_cons_self _)
    exact .cons hd tl
theorem reads_keys {P : Program} {w : World} {h : Heap} : ∀ {es : List DictEntry} {vs : List (Key × Value)} {kvs : List (Key × V)}, Pairs (mixKind P w) es vs → KV kvs vs → ReadsAll h (es.map (·.key)) (kvs.map fun p => kD p.1) []
  | _, _, _, .nil, .nil => .nil
  | e :: es, (k, u) :: vs, (k', v) :: kvs, .cons hk hv t, .cons r rs => by
    have tl := reads_keys (h := h) t rs
    obtain ⟨ek, _⟩ := (show k' = k ∧ RelV v u from r)
    subst ek
    have hd : Reads h e.key (kD k') [] := by
      rcases keyIs_shape (show keyIs k' e.key = true from hk) with ⟨i, tk, rfl, q⟩ | ⟨x, tk, rfl, q⟩
      · rw [q]; exact .int i tk
      · rw [q]; exact .str x tk
    exact .cons hd tl
theorem vals_of_pairs {P : Program} {w : World} : ∀ {es : List DictEntry} {vs : List (Key × Value)} {kvs : List (Key × V)}, Pairs (mixKind P w) es vs → KV kvs vs → Vals (kvs.map (·.2)) (es.map (·.val))
  | _, _, _, .nil, .nil => .nil
  | e :: es, (k, u) :: vs, (k', v) :: kvs, .cons hk hv t, .cons r rs => by
    obtain ⟨_, rv⟩ := (show k' = k ∧ RelV v u from r)
    have hv' : e.val = u := hv
    exact .cons (show RelV v e.val by rw [hv']; exact rv) (vals_of_pairs t rs)
theorem dpAll_len {K : PySem.W.Frag} {H : Hp} : ∀ {vs : List V} {ds : List PyData}, DpAll K H vs ds → vs.length = ds.length
  | _, _, .nil => rfl
  | _, _, .cons _ t => congrArg Nat.succ (dpAll_len t)
theorem Dr.reads (I : Inv X pins σ H s) {v : V} {d : PyData} {u : Value} (h : Dr X.K H v d) (r : RelV v u) : ∃ as, Reads s.heap u d as ∧ (d.hasDict = true → sysModules ∉ as) := by
  cases h with
  | dp q n =>
    obtain ⟨as, z⟩ := Dp.reads I d v u q r
    exact ⟨as, z, fun y => absurd (n.symm.trans y) (by simp)⟩
  | @dct a kvs ds ha q z =>
    cases (show u = Value.ref a from r)
    obtain ⟨_, hs, vs, rk, o, es, ep, ho, hx, hd, _, hp, _⟩ := (show ObjOk X.prog X.w H s.heap a (.dK kvs) from I.hok a _ ha)
    have r1 := reads_keys (h := s.heap) hp rk
    have r2 := reads_flat I q z (vals_of_pairs hp rk)
    have len := dpAll_len q
    rw [List.length_map] at len
    have e1 : ((kvs.map fun p => kD p.1).zip ds).map (·.1) = kvs.map fun p => kD p.1 := List.map_fst_zip (by rw [List.length_map]; omega)
    have e2 : ((kvs.map fun p => kD p.1).zip ds).map (·.2) = ds := List.map_snd_zip (by rw [List.length_map]; omega)
    refine ⟨a :: [] ++ [], ?_, fun _ hm => ?_⟩
    · exact .dict ho hx.1 hd (by rw [e1]; exact r1) (by rw [e2]; exact r2)
    · simp at hm
      rw [← hm] at hs
      simp at hs
/-- repr(x) -/
theorem call_repr (hG : X.A.guards = some []) (hu : X.A.units + 64 < cLine) : CallR X (.builtin "repr") (rRepr X.K) := by
  intro pins s σ H xs us Q I r h
  obtain ⟨x, d, rfl, hd, sh, dep, sz, q⟩ := h
  cases r with
  | cons r1 rn =>
    rename_i u us'
    cases rn
    obtain ⟨as, rd, hs⟩ := Dr.reads I hd r1
    cases x with
    | ref a =>
      cases (show u = Value.ref a from r1)
      exact repr_of_reads' rd sh hs hG (by omega) (fun _ _ z => z) (fun h' tk tk' hk => ⟨.str d.shown, H, I.kept hk, ⟨tk, rfl⟩, q⟩) sz
    | non =>
      cases (show u = Value.none from r1)
      have e : d = .none := by
        cases hd with
        | dp q n => cases q; rfl
      subst e
      exact PySem.P.repr_of_none ⟨.str _, H, I.tok _, ⟨_, rfl⟩, q⟩
    | bl b =>
      cases (show u = Value.bool b from r1)
      have e : d = .bool b := by
        cases hd with
        | dp q n => cases q; rfl
      subst e
      refine PySem.P.repr_of_bool ⟨.str _, H, I.tok _, ⟨_, rfl⟩, ?_⟩
      cases b <;> exact q
    | int i =>
      obtain ⟨t, e2⟩ := (show ∃ t, u = Value.int i t from r1)
      cases e2
      have e : d = .int i := by
        cases hd with
        | dp q n => cases q; rfl
      subst e
      exact PySem.P.repr_of_int (of_decide_eq_true sh) ⟨.str _, H, I.tok _, ⟨_, rfl⟩, q⟩
    | str x =>
      obtain ⟨t, e2⟩ := (show ∃ t, u = Value.str x t from r1)
      cases e2
      have e : d = .str x := by
        cases hd with
        | dp q n => cases q; rfl
      subst e
      exact PySem.P.repr_of_str ⟨.str _, H, I.tok _, ⟨_, rfl⟩, q⟩ sz
    | byt b => exact (by cases hd with | dp q n => cases q)
    | flt b => exact (by cases hd with | dp q n => cases q)
    | ty n => exact (by cases hd with | dp q n => cases q)
end

/-! ### the law's end: as the layer's, from a promise that knows of no repr under way -/
/-- the caller has no repr under way -/
theorem caller_guards : callerA.guards = some [] := rfl
/-- the law is called with the script: T the promise, at the heap behind the top -/
theorem law_callG {P : Program} {w : World} {K : PySem.W.Frag} {mg mb : Str → Option Value} {k : Nat} {fa a : Addr} {fd : FuncData} {x : Str} {sp : Sp} {st : Shared} {vs : List Value} {ns : List Int}
    (KX : K.In st.heap) (hns : st.heap.Ns mainGlobals mg) (hb : st.heap.Ns builtinsNs mb) (hbb : ∀ y : Str, y ≠ "__name__" → mb y = bootBuiltins y) (hlim : st.heap.NoLimit) (hgen : st.gens = #[])
    (ha : st.heap.get? a = some { cls := .type "list", data := .seq vs.toArray }) (hi : IntsAre vs ns) (hl : ns.length ≤ sizeLine) (room : Room k callerA)
    (F : ∀ base : Heap, K.In base → base.Ns mainGlobals mg → FnG P w K mg base CX0 k fa fd [x] sp) (bind : ∀ (s : Shared) (u : Value), BindsTo s fd ⟨[u], []⟩ [(x, u)])
    (want : ∀ H : Hp, Only H → SqL K H a (ns.map V.int) → sp [.ref a] H (fun v _ => v = .bl true) (fun _ _ _ => False)) :
    codeAny (model P w) callerA (.call (.ref fa) ⟨[.ref a], []⟩) (fun r s' => r = .ok (.ret (.bool true)) ∧ OldK st.heap s'.heap ∧ s'.os = st.os ∧ AllBare s'.gens) st := by
  have rel := vals_ints hi
  have size := hi.length
  suffices core : ∀ H : Hp, Only H → SqL K H a (ns.map V.int) → HOk P w H st.heap → (∀ c, H c ≠ none → c = a) → (H a ≠ none → K.lookup a = none) →
      codeAny (model P w) callerA (.call (.ref fa) ⟨[.ref a], []⟩) (fun r s' => r = .ok (.ret (.bool true)) ∧ OldK st.heap s'.heap ∧ s'.os = st.os ∧ AllBare s'.gens) st by
    by_cases hk : ∃ o, K.lookup a = some o
    · obtain ⟨o, hk⟩ := hk
      have same := (KX a o hk).symm.trans ha
      cases same
      refine core (fun _ => none) (fun _ => Or.inl rfl) (Or.inr ⟨_, vs.toArray, _, hk, rfl, rfl, rfl, ?_, ?_⟩) (fun c o z => absurd (show (none : Option HO) = some o from z) (by simp)) (fun c z => absurd rfl z) (fun z => absurd rfl z)
      · rw [List.size_toArray, size]
        exact hl
      · simpa using rel
    · have hk' : K.lookup a = none := by
        cases e : K.lookup a with
        | none => rfl
        | some o => exact absurd ⟨o, e⟩ hk
      refine core (fun c => if c = a then some (.frz { cls := .type "list", data := .seq vs.toArray } (.lst (ns.map V.int))) else none) (fun c => ?_) (Or.inl (Or.inr ⟨{ cls := .type "list", data := .seq vs.toArray }, if_pos rfl⟩)) (fun c o z => ?_) (fun c z => ?_) (fun _ => hk')
      · by_cases e : c = a
        · exact Or.inr ⟨_, _, if_pos e⟩
        · exact Or.inl (if_neg e)
      · by_cases e : c = a
        · have z2 := (if_pos e).symm.trans z
          cases z2
          rw [e]
          exact ⟨ha, by rw [List.length_map]; exact hl, vs, _, rel, ha⟩
        · have z2 := (if_neg e).symm.trans z
          cases z2
      · by_cases e : c = a
        · exact e
        · exact absurd (if_neg e) z
  intro H only script ok hA hK
  have keepB : ∀ {c : Addr} {o : Obj}, st.heap.get? c = some o → H c = none → (hidT st.heap H).get? c = some o := fun e n => hidT_get e n
  have noD : ∀ {c : Addr} {o : Obj} {es : Array DictEntry} {ep : Nat}, st.heap.get? c = some o → o.data = .dict es ep → H c = none := by
    intro c o es ep e d
    by_cases z : H c = none
    · exact z
    · have ec := hA c z
      subst ec
      rw [ha] at e
      cases e
      have d2 : Data.seq vs.toArray _ = Data.dict es ep := d
      cases d2
  have ns2 : ∀ {c : Addr} {m : Str → Option Value}, st.heap.Ns c m → (hidT st.heap H).Ns c m := by
    intro c m q
    obtain ⟨o, es, ep, e, d, r⟩ := q
    exact ⟨o, es, ep, keepB e (noD e d), d, r⟩
  have inB : K.In (hidT st.heap H) := by
    intro c o e
    refine keepB (KX c o e) ?_
    by_cases z : H c = none
    · exact z
    · have ec := hA c z
      subst ec
      have no := hK z
      rw [no] at e
      cases e
  obtain ⟨mc, lim1, lim2⟩ := hlim
  have modB : Mod K mg (hidT st.heap H) := ⟨inB, ns2 hns, ⟨mb, ns2 hb, hbb⟩, ⟨mc, ns2 lim1, lim2⟩⟩
  have env : Env0 P w K mg (hidT st.heap H) callerA [] st H := ⟨rfl, modB, fun c o e => of_hidT e, Nat.le_of_eq (hidT_size _ _), trivial, (fun c hc => absurd (show c ∈ ([] : List Addr) from hc) (by simp)), ok, .of_eq hgen⟩
  refine codeAny_mono ((F _ inB (ns2 hns)).go callerA [] st H ⟨[.ref a], []⟩ [.ref a] [.ref a] _ _ caller_guards room env (bind st (.ref a)) (.cons rfl .nil) (want H only script)) (fun r s' h => ?_)
  match r, h with
  | .error e, h => exact h.elim
  | .ok .next, h => exact h.elim
  | .ok .brk, h => exact h.elim
  | .ok .cont, h => exact h.elim
  | .ok (.ret u), h =>
    obtain ⟨v, H', os, bare, un, ok', rv, q⟩ := h
    cases (show v = V.bl true from q)
    cases (show u = Value.bool true from rv)
    refine ⟨rfl, OldK.of_keep (fun c o e => ?_), os, bare⟩
    cases q2 : H c with
    | none => exact un.keep c o e q2 (fun z => by cases z) (fun z => by cases z)
    | some u =>
      rcases only c with z | ⟨ob, xs, z⟩
      · exact absurd (q2.symm.trans z) (by simp)
      · have fz := un.frzs c ob _ z
        have here := (ok c _ z).1
        have there := (ok' c _ fz).1
        rw [e] at here
        cases here
        exact there
/-- the goal that the head leaves -/
theorem walkG {l : PySem.W.OpenLaw} {n k : Nat} {q : Program} {loose : List Str} {XP : (Str → Option Value) → Heap → Prop} {YP : World → Heap → Prop} {d : DefRec} {K : Params → PySem.W.Frag} {sp : PySem.W.Frag → Sp} {x : Str}
    (hn : l.most = some n) (hn2 : n ≤ sizeLine) (hdf : d.params.defaults = []) (room : Room k callerA) (hY : ∀ (w : World) (h : Heap), YP w h → (K w.params).In h)
    (F : ∀ (w : World) (mg : Str → Option Value) (fa : Addr) (h : Heap), (K w.params).In h → h.Ns mainGlobals mg → mg d.name = some (.ref fa) →
      ∃ fd : FuncData, (∀ (s : Shared) (u : Value), BindsTo s fd ⟨[u], []⟩ [(x, u)]) ∧ ∀ base : Heap, (K w.params).In base → base.Ns mainGlobals mg → FnG l.prog w (K w.params) mg base CX0 k fa fd [x] (sp (K w.params)))
    (want : ∀ (K : PySem.W.Frag) (H : Hp) (a : Addr) (ns : List Int), ns.length ≤ n → Only H → SqL K H a (ns.map V.int) → sp K [.ref a] H (fun v _ => v = .bl true) (fun _ _ _ => False)) :
    PySem.W.WalkO q loose XP YP l.row.toRowW d [] (fun f vs => PySem.call f vs) := by
  refine Att.attach_call hn hdf (fun w s₀ st mg mb fa o pm cd doc a vs ns G Y ho hd hcd hmg hobj hints hlen hg => ?_)
  have KX := hY w _ Y
  obtain ⟨fd, bnd, ok⟩ := F w mg fa _ KX G.T.g hmg
  exact law_callG KX G.T.g G.T.b G.T.builtins G.T.nolimit hg hobj hints (Nat.le_trans hlen hn2) room ok bnd (fun H only hs => want (K w.params) H a ns hlen only hs)
end VL

/-! # Rules that ask for no type: one a construct; the reading says which of its forms it is -/
namespace VL
open PySem PySem.Spec PyProof.Rows L2
section
variable {X : Cx}
/-! ### operators -/
def rStrCat : R2 := fun x y H Q => ∃ a b, x = .str a ∧ y = .str b ∧ a.length + b.length ≤ sizeLine ∧ Q (.str (a ++ b)) H
def rIntAdd : R2 := rI0 fun i j => .int (i + j)
def rAddU (K : PySem.W.Frag) : R2 := fun x y H Q => rIntAdd x y H Q ∨ rStrCat x y H Q ∨ rCat x y H Q ∨ rCatA K x y H Q
theorem op_addU : OpR X (binaryOp .Add) (rAddU X.K) := OpR.or op_add (OpR.or op_add_str (OpR.or op_cat op_catA))
def rStrMul : R2 := fun x y H Q => ∃ (a : Str) (n : Int), x = .str a ∧ y = .int n ∧ 0 ≤ n ∧ n ≤ 1000 ∧ a.length ≤ 1000 ∧ Q (.str (Txt.mul a n)) H
theorem op_strMul : OpR X (binaryOp .Mult) rStrMul := by
  intro pins s σ H x y v u Q I rx ry h
  obtain ⟨a, n, rfl, rfl, h0, h1, h2, q⟩ := h
  obtain ⟨t, rfl⟩ := rx
  obtain ⟨t', rfl⟩ := ry
  have e1 : ¬ n < -(2 ^ 63 : Int) := by omega
  have e2 : ¬ n ≥ (2 ^ 63 : Int) := by omega
  refine SB.mul ⟨by rw [decide_eq_false e1, decide_eq_false e2]; rfl, fun hn _ hh => ?_, fun hn _ => ?_⟩ fun t' k => ⟨.str (Txt.mul a n), H, I.tok k, ⟨t', rfl⟩, q⟩
  · have hd : (1000 : Int) ≤ (2 ^ 63 - 1) / n := (Int.le_ediv_iff_mul_le (by omega)).mpr (by omega)
    omega
  · have hm : a.length * n.toNat ≤ 1000 * 1000 := Nat.mul_le_mul h2 (by omega)
    have hs : sizeLine = 16777216 := sizeLine_eq
    show decide (_ > sizeLine) = false
    exact decide_eq_false (by omega)
def rIntMul : R2 := rI CMul fun i j => .int (i * j)
def rMulU : R2 := fun x y H Q => rIntMul x y H Q ∨ rStrMul x y H Q ∨ rRep x y H Q
theorem op_mulU : OpR X (binaryOp .Mult) rMulU := OpR.or op_mul (OpR.or op_strMul op_rep)
/-- == and != : plain values, or data -/
def rEqU (K : PySem.W.Frag) : R2 := fun x y H Q => rEq x y H Q ∨ rEqD K x y H Q
def rNeU (K : PySem.W.Frag) : R2 := fun x y H Q => rNe x y H Q ∨ rNeD K x y H Q
theorem op_eqU (hu : X.A.units + 64 < cLine) : OpR X (compareOp .Eq) (rEqU X.K) := OpR.or op_eq (op_eqD hu)
theorem op_neU (hu : X.A.units + 64 < cLine) : OpR X (compareOp .NotEq) (rNeU X.K) := OpR.or op_ne (op_neD hu)
/-- an order: of whole numbers, or of texts -/
def rOrd (p : Int → Int → Bool) (q : Str → Str → Bool) : R2 := fun x y H Q => (∃ i j, x = .int i ∧ y = .int j ∧ Q (.bl (p i j)) H) ∨ ∃ a b, x = .str a ∧ y = .str b ∧ Q (.bl (q a b)) H
abbrev sLt (a b : Str) : Bool := decide (a.cps.toList < b.cps.toList)
theorem op_ltU : OpR X (compareOp .Lt) (rOrd (fun i j => decide (i < j)) sLt) := OpR.or op_lt op_lt_str
theorem op_leU : OpR X (compareOp .LtE) (rOrd (fun i j => decide (i ≤ j)) fun a b => !sLt b a) := OpR.or op_le op_le_str
theorem op_gtU : OpR X (compareOp .Gt) (rOrd (fun i j => decide (j < i)) fun a b => sLt b a) := OpR.or op_gt op_gt_str
theorem op_geU : OpR X (compareOp .GtE) (rOrd (fun i j => decide (j ≤ i)) fun a b => !sLt a b) := OpR.or op_ge op_ge_str
/-- is, is not: with True or False on the right, whatever plain value on the left -/
def notRef : V → Bool
  | .ref _ => false
  | .ty _ => false
  | _ => true
def rIsU : R2 := fun x y H Q => ∃ b : Bool, y = .bl b ∧ notRef x = true ∧ Q (.bl (decide (x = .bl b))) H
def rIsntU : R2 := fun x y H Q => ∃ b : Bool, y = .bl b ∧ notRef x = true ∧ Q (.bl (!decide (x = .bl b))) H
theorem op_isnotU : OpR X (compareOp .IsNot) rIsntU := by
  intro pins s σ H x y v u Q I rx ry h
  obtain ⟨b, rfl, nr, q⟩ := h
  cases (show u = Value.bool b from ry)
  cases x with
  | bl a =>
    cases (show v = Value.bool a from rx)
    by_cases e : a = b
    · subst e
      exact wpAny_isNot_self rfl ⟨.bl false, H, I, rfl, by simpa using q⟩
    · exact wpAny_isNot_other rfl (fun z => e (Value.bool.inj z)) ⟨.bl true, H, I, rfl, by simpa [e] using q⟩
  | non =>
    cases (show v = Value.none from rx)
    exact wpAny_isNot_other rfl (fun z => by cases z) ⟨.bl true, H, I, rfl, by simpa using q⟩
  | int i =>
    obtain ⟨t, rfl⟩ := rx
    exact wpAny_isNot_other rfl (fun z => by cases z) ⟨.bl true, H, I, rfl, by simpa using q⟩
  | str i =>
    obtain ⟨t, rfl⟩ := rx
    exact wpAny_isNot_other rfl (fun z => by cases z) ⟨.bl true, H, I, rfl, by simpa using q⟩
  | byt i =>
    obtain ⟨t, rfl⟩ := rx
    exact wpAny_isNot_other rfl (fun z => by cases z) ⟨.bl true, H, I, rfl, by simpa using q⟩
  | flt i =>
    obtain ⟨t, rfl⟩ := rx
    exact wpAny_isNot_other rfl (fun z => by cases z) ⟨.bl true, H, I, rfl, by simpa using q⟩
  | ref a => cases nr
  | ty n => cases nr
/-- membership: a flat thing in a list or tuple, a key in a dict, a text in a text -/
def rInU (K : PySem.W.Frag) (neg : Bool) : R2 := fun x y H Q => rIn K neg x y H Q ∨ (∃ a o, y = .ref a ∧ DGet H a x o ∧ Q (.bl (if neg then !o.isSome else o.isSome)) H)
theorem op_dctIn (hu : X.A.units + 1 < cLine) : OpR X (compareOp .In) (fun x y H Q => ∃ a o, y = .ref a ∧ DGet H a x o ∧ Q (.bl (if false then !o.isSome else o.isSome)) H) := by
  intro pins s σ H x y v u Q I rx ry h
  obtain ⟨a, o, rfl, g, q⟩ := h
  cases (show u = Value.ref a from ry)
  exact d_in hu I g rx fun s3 I3 => ⟨.bl o.isSome, H, I3, rfl, q⟩
theorem op_inU (hu : X.A.units + 1 < cLine) : OpR X (compareOp .In) (rInU X.K false) := OpR.or op_in_seq (op_dctIn hu)
/-! ### subscripts -/
def rIxU (K : PySem.W.Frag) : R2 := fun x y H Q => rIxL K x y H Q ∨ rIxT K x y H Q ∨ rIxS x y H Q ∨ (∃ a v, x = .ref a ∧ DGet H a y (some v) ∧ Q v H)
theorem ix_dct (hu : X.A.units + 1 < cLine) : IxR X (fun x y H Q => ∃ a v, x = .ref a ∧ DGet H a y (some v) ∧ Q v H) := by
  intro value slice pins s σ H x y v u Q I rx ry h hs
  obtain ⟨a, z, rfl, g, q⟩ := h
  cases (show v = Value.ref a from rx)
  have run : wpAny (model X.prog X.w) X.A (subscripted slice false (.ref a) u) (fun r s3 => wpAny (model X.prog X.w) X.A (letTemporaryGo value (.ref a) r >>= fun _ => pure r) (EP X pins σ Q) X.xe s3) X.xe s := by
    rw [hs]
    exact wpAny_operating (d_getItem hu I g ry (fun w' s3 I3 rw' => wpAny_bind (wpAny_letTemporaryGo (wpAny_pure ⟨z, H, I3, rw', q⟩))))
  have ty := dict_typeIs I g
  unfold subscriptTail
  refine wpAny_bind ?_
  rw [getitemInPython_of_ne ty.not_modules]
  refine wpAny_bind (wpAny_specialOf ty PySem.F.slot_dict_getitem.lookup ?_)
  first
    | exact wpAny_pure (wpAny_bind run)
    | exact wpAny_bind (wpAny_pure (wpAny_bind run))
    | exact wpAny_bind run
theorem ix_U (hu : X.A.units + 1 < cLine) : IxR X (rIxU X.K) := IxR.or ix_list (IxR.or ix_tup (IxR.or ix_str (ix_dct hu)))
def rSlU (K : PySem.W.Frag) : V → Option Int → Option Int → Hp → VK → Prop := fun x lo hi H Q => rSlL K x lo hi H Q ∨ rSlA K x lo hi H Q ∨ rSlS x lo hi H Q
theorem sl_U : SlR X (rSlU X.K) := SlR.or sl_list (SlR.or sl_tupA sl_str)
def rGetL (K : PySem.W.Frag) : V → V → Hp → VK → Prop := fun x y H Q => ∃ p xs i v, x = .ref p ∧ y = .int i ∧ SqL K H p xs ∧ 0 ≤ i ∧ xs[i.toNat]? = some v ∧ Q v H
theorem get_U (hu : X.A.units + 1 < cLine) : PGet X (rGetL X.K) := by
  intro pins s σ H x y v u Q I rx ry h
  obtain ⟨p, xs, i, z, rfl, rfl, hq, h0, he, q⟩ := h
  cases (show v = Value.ref p from rx)
  obtain ⟨t, rfl⟩ := (show ∃ t, u = Value.int i t from ry)
  obtain ⟨its, r, pl, hz⟩ := I.list hq
  obtain ⟨w, ew, rw'⟩ := r.get he
  have hlt : i.toNat < xs.length := (List.getElem?_eq_some_iff.mp he).1
  have hs : sizeLine = 16777216 := sizeLine_eq
  exact wpAny_getItem_list pl.isList h0 (by omega) (by simpa using ew) ⟨z, H, I, rw', q⟩
/-! ### calls -/
def rLenU (K : PySem.W.Frag) : List V → Hp → VK → Prop := fun xs H Q => (∃ p ys, xs = [.ref p] ∧ (SqL K H p ys ∨ SqT K H p ys) ∧ Q (.int ys.length) H) ∨ (∃ z, xs = [.str z] ∧ z.length ≤ sizeLine ∧ Q (.int z.length) H) ∨ ∃ a kvs, xs = [V.ref a] ∧ H a = some (.dK kvs) ∧ Q (.int kvs.length) H
theorem call_lenU : CallR X (.builtin "len") (rLenU X.K) := CallR.or call_len_seq (CallR.or call_len_str call_lenD)
def rIntU : List V → Hp → VK → Prop := fun xs H Q => (∃ i, xs = [.int i] ∧ Q (.int i) H) ∨ ∃ k, xs = [.bl k] ∧ Q (.int (if k then 1 else 0)) H
theorem call_intU : CallR X (.type "int") rIntU := call_int1
/-- not x, by a test -/
theorem pe_c0 {k j : Nat} {x : Str} {sp : Sp} {dvs : List V} {p pos : Pos} (c : C8.Cal X.prog X.w X.K X.mg X.base k x sp dvs) (hr : Room j X.A) (hk : k ≤ j) (hg : Gl X x) (hdb : (x == ("__debug__" : Str)) = false := by decide) : PE X (.Call (.Name x p) [] [] pos) (tCall sp dvs E0 tNil) := by
  obtain ⟨f, fd, ps, ds, F, hm, kp, b, d⟩ := c.ex
  exact pe_call0 F (hr.mono hk) hg hm kp b d pass0 hdb
end
/-! ### the same with the written part by name (within a comprehension's block the context is another one) -/
section
variable {X : Cx} {K : PySem.W.Frag}
theorem op_addk (h : X.K = K := by rfl) : OpR X (binaryOp .Add) (rAddU K) := by subst h; exact op_addU
theorem op_eqk (hu : X.A.units + 64 < cLine) (h : X.K = K := by rfl) : OpR X (compareOp .Eq) (rEqU K) := by subst h; exact op_eqU hu
theorem op_nek (hu : X.A.units + 64 < cLine) (h : X.K = K := by rfl) : OpR X (compareOp .NotEq) (rNeU K) := by subst h; exact op_neU hu
theorem op_ink (hu : X.A.units + 1 < cLine) (h : X.K = K := by rfl) : OpR X (compareOp .In) (rInU K false) := by subst h; exact op_inU hu
theorem ix_k (hu : X.A.units + 1 < cLine) (h : X.K = K := by rfl) : IxR X (rIxU K) := by subst h; exact ix_U hu
theorem sl_k (h : X.K = K := by rfl) : SlR X (rSlU K) := by subst h; exact sl_U
theorem call_lenk (h : X.K = K := by rfl) : CallR X (.builtin "len") (rLenU K) := by subst h; exact call_lenU
theorem call_isik (h : X.K = K := by rfl) : CallR X (.builtin "isinstance") (rIsi K) := by subst h; exact call_isi
theorem call_isiTk (h : X.K = K := by rfl) : CallR X (.builtin "isinstance") (rIsiT K) := by subst h; exact call_isiT
theorem cr_allk (hc : X.calm = true) (h : X.K = K := by rfl) : CallR X (.builtin "all") (rAll K) := by subst h; exact cr_all hc
theorem cr_anyk (hc : X.calm = true) (h : X.K = K := by rfl) : CallR X (.builtin "any") (rAny K) := by subst h; exact cr_any hc
theorem cr_sumk (hc : X.calm = true) (h : X.K = K := by rfl) : CallR X (.builtin "sum") (rSum K) := by subst h; exact cr_sum hc
theorem call_reprk (hG : X.A.guards = some []) (hu : X.A.units + 64 < cLine) (h : X.K = K := by rfl) : CallR X (.builtin "repr") (rRepr K) := by subst h; exact call_repr hG hu
variable {tg a b e l o : Expr} {rest es : List Expr} {pos p apos tpos : Pos} {ta tb te tl to : TE} {t : TA}
theorem pi_listk (hl : PE X l tl) (h : X.K = K := by rfl) : PI X tg l (iList K tl) := by subst h; exact pi_list hl
theorem pi_tupk (hl : PE X l tl) (h : X.K = K := by rfl) : PI X tg l (iTup K tl) := by subst h; exact pi_tup hl
theorem pi_enumk {elts : List Expr} {kk : Nat} (hg : Gl X "enumerate") (hm : X.mg "enumerate" = none) (ha : PA X [e] t) (h : X.K = K := by rfl) (hs : starEach [e] X.env = [(false, eval e X.env)] := by rfl) : PI X (.Tuple elts kk tpos) (.Call (.Name "enumerate" p) [e] [] pos) (iEnum K t) := by subst h; exact pi_enum hg hm ha hs
theorem pi_zipk {e2 : Expr} {elts : List Expr} {kk : Nat} (hg : Gl X "zip") (hm : X.mg "zip" = none) (ha : PA X [e, e2] t) (h : X.K = K := by rfl) (hs : starEach [e, e2] X.env = (false, eval e X.env) :: starEach [e2] X.env := by rfl) (hpl : (backTo pos (starEach [e2] X.env)).any (·.1) = false := by rfl) :
    PI X (.Tuple elts kk tpos) (.Call (.Name "zip" p) [e, e2] [] pos) (iZip K t) := by subst h; exact pi_zip hg hm ha hs hpl
theorem pg_tupk {k n : Nat} {ts : TGs} (hc : X.calm = true) (hp : PGs X es ts) (h : X.K = K := by rfl) (hn : (assignEach es X.env).length = n := by rfl) (hst : (assignEach es X.env).findIdx? (·.1) = none := by rfl) : PG X (.Tuple es k pos) (gTup K n ts) := by subst h; exact pg_tup hc hp hn hst
theorem pe_andTk (ha : PE X a ta) (hb : PE X (.BoolOp .And (b :: rest) pos) tb) (h : X.K = K := by rfl) : PE X (.BoolOp .And (a :: b :: rest) pos) (tAndT K ta tb) := by subst h; exact pe_andT ha hb
theorem pe_orTk (ha : PE X a ta) (hb : PE X (.BoolOp .Or (b :: rest) pos) tb) (h : X.K = K := by rfl) : PE X (.BoolOp .Or (a :: b :: rest) pos) (tOrT K ta tb) := by subst h; exact pe_orT ha hb
def tTr (K : PySem.W.Frag) (ta : TE) : TT := fun σ H Q => ta σ H fun x H' => ∃ k, TruV K x H' k ∧ Q k H'
theorem pt_trk (ha : PE X a ta) (he : ∀ whole, isTrue a X.env whole = (do let v ← whole; standAt a.pos; holding [v] (truthy v))) (h : X.K = K := by rfl) : PT X a (tTr K ta) := by subst h; exact pt_truth ha he
/-- not x as a value, x by a test -/
def tNotB (t : TT) : TE := fun σ H Q => t σ H fun c H1 => Q (.bl (!c)) H1
theorem pe_notTk (ha : PE X a ta) (h : X.K = K := by rfl) : PE X (.UnaryOp .Not a pos) (tNotT K ta) := by subst h; exact pe_notT ha
theorem pe_revLk {k : Nat} {p1 p2 p3 : Pos} (he : PE X e te) (h : X.K = K := by rfl) : PE X (.Subscript e (.Slice none none (some (.UnaryOp .USub (.Constant (.int 1) k p1) p2)) p3) pos) (tRevL K te) := by subst h; exact pe_revL he
def rJoin (K : PySem.W.Frag) : V → List V → Hp → VK → Prop := fun x xs H Q => ∃ a p, ∃ ys : List Str, x = .str a ∧ xs = [.ref p] ∧ (SqL K H p (ys.map V.str) ∨ SqT K H p (ys.map V.str)) ∧ (ys.map (·.length)).sum + ys.length * a.length ≤ 16777216 ∧ Q (.str (Txt.join a ys)) H
theorem pe_joink (ho : PE X o to) (he : PE X e te) (h : X.K = K := by rfl) (hs : starEach [e] X.env = [(false, eval e X.env)] := by rfl) (hbase : attributeBase o "join" X.env (eval o X.env) = eval o X.env := by rfl) (hline : (apos.endLine == pos.line) = true := by rfl) : PE X (.Call (.Attribute o "join" apos) [e] [] pos) (tM1 (rJoin K) to te) := by subst h; exact pe_join ho he hs hbase hline
theorem pe_bmk {T id : String} {name : Str} {cpos : Pos} {r : V → List V → Hp → VK → Prop} (pa : PlainAttrs T) (slot : Slot T name id) (hty : typeOf (.builtin id) = pure (.type "method_descriptor")) (hm : MtR X id r) (ho : PE X o to) (ha : PA X (e :: es) t) (h : X.K = K := by rfl)
    (hbase : attributeBase o name X.env (eval o X.env) = eval o X.env := by rfl)
    (hfew : ((backTo cpos (starEach (e :: es) X.env)).all (fun x => !x.1) && (backToKw cpos (keywordEach [] X.env)).all (fun x => x.1.isSome) && decide ((e :: es).length + ([] : List Keyword).length + (if ([] : List Keyword).isEmpty then 0 else 1) < 30)) = true := by rfl)
    (hline : (apos.endLine == cpos.line) = true := by rfl) (hs : starEach (e :: es) X.env = (false, eval e X.env) :: starEach es X.env := by rfl) (hplain : (backTo cpos (starEach es X.env)).any (·.1) = false := by rfl) : PE X (.Call (.Attribute o name apos) (e :: es) [] cpos) (tBM K T r to t) := by subst h; exact pe_bm pa slot hty hm ho ha hbase hfew hline hs hplain
theorem pe_bm0k {T id : String} {name : Str} {cpos : Pos} {r : V → List V → Hp → VK → Prop} (pa : PlainAttrs T) (slot : Slot T name id) (hty : typeOf (.builtin id) = pure (.type "method_descriptor")) (hm : MtR X id r) (ho : PE X o to) (h : X.K = K := by rfl)
    (hbase : attributeBase o name X.env (eval o X.env) = eval o X.env := by rfl) (hline : (apos.endLine == cpos.line) = true := by rfl) : PE X (.Call (.Attribute o name apos) [] [] cpos) (tBM0 K T r to) := by subst h; exact pe_bm0 pa slot hty hm ho hbase hline
theorem call_listk (h : X.K = K := by rfl) : CallR X (.type "list") (fun xs H Q => ∃ p ys, xs = [.ref p] ∧ (SqL K H p ys ∨ SqT K H p ys) ∧ ∀ l, H l = none → Q (.ref l) (upd H l (.lst ys))) := by subst h; exact call_list_of
theorem call_tupk (h : X.K = K := by rfl) : CallR X (.type "tuple") (fun xs H Q => ∃ p ys, xs = [.ref p] ∧ ((SqL K H p ys ∧ ∀ l, H l = none → Q (.ref l) (upd H l (.tup ys))) ∨ (SqT K H p ys ∧ Q (.ref p) H))) := by subst h; exact call_tuple_of
end
/-! ### the heap's frame -/
/-- all that was tracked stands, but what S names -/
def Keeps (S : Addr → Prop) (H H' : Hp) : Prop := ∀ a o, ¬ S a → H a = some o → H' a = some o
theorem Keeps.refl {S : Addr → Prop} {H : Hp} : Keeps S H H := fun _ _ _ h => h
theorem Keeps.trans {S : Addr → Prop} {H H1 H2 : Hp} (a : Keeps S H H1) (b : Keeps S H1 H2) : Keeps S H H2 := fun c o n h => b c o n (a c o n h)
theorem Keeps.mono {S T : Addr → Prop} {H H' : Hp} (k : Keeps S H H') (h : ∀ a, S a → T a) : Keeps T H H' := fun c o n q => k c o (fun z => n (h c z)) q
theorem Keeps.of {S : Addr → Prop} {H H' : Hp} (k : Same H H') : Keeps S H H' := fun c o _ q => k c o q
theorem Keeps.new {S : Addr → Prop} {H : Hp} {p : Addr} {o : HO} (h : H p = none) : Keeps S H (upd H p o) := fun c u _ q => by rw [upd_ne (ne_of_none q h)]; exact q
theorem Keeps.put {S : Addr → Prop} {H : Hp} {p : Addr} {o : HO} (h : S p) : Keeps S H (upd H p o) := fun c u n q => by
  have ne : c ≠ p := fun e => n (by rw [e]; exact h)
  rw [upd_ne ne]
  exact q
theorem same_new {H : Hp} {p : Addr} {o : HO} (h : H p = none) : Same H (upd H p o) := fun c u q => by rw [upd_ne (ne_of_none q h)]; exact q
theorem Keeps.seqL {S : Addr → Prop} {K : PySem.W.Frag} {H H' : Hp} {a : Addr} {xs : List V} (k : Keeps S H H') (n : ¬ S a) (h : SqL K H a xs) : SqL K H' a xs := by
  rcases h with (h | ⟨o, h⟩) | h
  · exact .inl (.inl (k _ _ n h))
  · exact .inl (.inr ⟨o, k _ _ n h⟩)
  · exact .inr h
theorem Keeps.seqT {S : Addr → Prop} {K : PySem.W.Frag} {H H' : Hp} {a : Addr} {xs : List V} (k : Keeps S H H') (n : ¬ S a) (h : SqT K H a xs) : SqT K H' a xs := by
  rcases h with (h | ⟨o, h⟩) | h
  · exact .inl (.inl (k _ _ n h))
  · exact .inl (.inr ⟨o, k _ _ n h⟩)
  · exact .inr h
theorem Keeps.updN {S : Addr → Prop} {H G : Hp} {p : Addr} {o : HO} (k : Keeps S H G) (h : H p = none) : Keeps S H (upd G p o) := fun c u n q => by
  rw [upd_ne (ne_of_none q h)]
  exact k c u n q
theorem Keeps.updS {S : Addr → Prop} {H G : Hp} {p : Addr} {o : HO} (k : Keeps S H G) (h : S p) : Keeps S H (upd G p o) := k.trans (Keeps.put h)
theorem Keeps.free {S : Addr → Prop} {H G : Hp} {p : Addr} (k : Keeps S H G) (n : ¬ S p) (h : G p = none) : H p = none := by
  cases q : H p with
  | none => rfl
  | some o => exact absurd ((k p o n q).symm.trans h) (by simp)
/-! ### comprehensions: the list at D grows by what R says; Iv stands throughout -/
def LcP (D : Addr) (R : Nat → V → Prop) (Iv : Hp → Prop) (i : Nat) (G : Hp) : Prop := ∃ acc : List V, acc.length = i ∧ (∀ k y, acc[k]? = some y → R k y) ∧ G D = some (.lst acc) ∧ Iv G
def LcQ (D : Addr) (R : Nat → V → Prop) (Iv : Hp → Prop) (i : Nat) : VK := fun y G => ∃ acc : List V, G D = some (.lst acc) ∧ acc.length < sizeLine ∧ LcP D R Iv (i + 1) (upd G D (.lst (acc ++ [y])))
theorem LcQ.mk {D : Addr} {R : Nat → V → Prop} {Iv : Hp → Prop} {i : Nat} {y : V} {G : Hp} {acc : List V} (l : acc.length = i) (r : ∀ k y, acc[k]? = some y → R k y) (h : G D = some (.lst acc)) (z : i < sizeLine) (ry : R i y) (iv : Iv (upd G D (.lst (acc ++ [y])))) : LcQ D R Iv i y G := by
  refine ⟨acc, h, l ▸ z, acc ++ [y], by rw [List.length_append, l]; rfl, fun k x hk => ?_, upd_same, iv⟩
  by_cases lt : k < acc.length
  · rw [List.getElem?_append_left lt] at hk
    exact r k x hk
  · rw [List.getElem?_append_right (Nat.le_of_not_lt lt)] at hk
    have e : k - acc.length = 0 := by
      by_cases z : k - acc.length = 0
      · exact z
      · rw [List.getElem?_eq_none (by simp; omega)] at hk
        cases hk
    rw [e] at hk
    cases hk
    have e2 : k = i := by omega
    rw [e2]
    exact ry
theorem wipe1 {σ : L2.St} {j : Nat} {x : V} : wipe ((wipe σ [j]).set j (some x)) [j] = wipe σ [j] := by
  show (((σ.set j none).set j (some x)).set j none) = σ.set j none
  rw [List.set_set, List.set_set]
section
variable {te : TE} {σ : L2.St} {j n : Nat} {H1 : Hp} {D : Addr} {Qd : Hp → Prop}
/-- over a range -/
theorem lcR {lo : Int} (R : Nat → V → Prop) (Iv : Hp → Prop) (h0 : Iv (upd H1 D (.lst []))) (hs : ∀ i G, i < n → LcP D R Iv i G → te ((wipe σ [j]).set j (some (.int (lo + i)))) G (LcQ D R Iv i))
    (hd : ∀ G, LcP D R Iv n G → Qd G) : ∃ W : Nat → Nat → Hp → Prop, (∃ m, W 0 m (upd H1 D (.lst []))) ∧ ∀ i m H, W i m H →
      ((Itr lo n).stop i H ∧ Qd H) ∨ ((Itr lo n).go i H ∧ ∃ Nx : Hp → Prop, (∀ H', Nx H' → ∃ m', m' < m ∧ W (i + 1) m' H') ∧ ∀ x H', (Itr lo n).yld i H x H' → gName j x (wipe σ [j]) H' fun σ2 H2 => wipe σ2 [j] = wipe σ [j] ∧ tYes σ2 H2 fun b H3 =>
        if b = true then te σ2 H3 fun y H4 => ∃ acc, H4 D = some (.lst acc) ∧ acc.length < sizeLine ∧ Nx (upd H4 D (.lst (acc ++ [y]))) else Nx H3) :=
  lc_range (lo := lo) (n := n) (fun i G => LcP D R Iv i G) ⟨[], rfl, fun k y h => by simp at h, upd_same, h0⟩ (fun i G hi p => ⟨wipe1, iteT (B := LcP D R Iv (i + 1) G) (hs i G hi p)⟩) hd
/-- over a list that stands -/
theorem lcL {K : PySem.W.Frag} {a : Addr} {xs : List V} (R : Nat → V → Prop) (Iv : Hp → Prop) (h0 : Iv (upd H1 D (.lst []))) (hl : ∀ G, Iv G → SqL K G a xs) (hs : ∀ i x G, xs[i]? = some x → LcP D R Iv i G → te ((wipe σ [j]).set j (some x)) G (LcQ D R Iv i))
    (hd : ∀ G, LcP D R Iv xs.length G → Qd G) : ∃ W : Nat → Nat → Hp → Prop, (∃ m, W 0 m (upd H1 D (.lst []))) ∧ ∀ i m H, W i m H →
      ((Itl K a).stop i H ∧ Qd H) ∨ ((Itl K a).go i H ∧ ∃ Nx : Hp → Prop, (∀ H', Nx H' → ∃ m', m' < m ∧ W (i + 1) m' H') ∧ ∀ x H', (Itl K a).yld i H x H' → gName j x (wipe σ [j]) H' fun σ2 H2 => wipe σ2 [j] = wipe σ [j] ∧ tYes σ2 H2 fun b H3 =>
        if b = true then te σ2 H3 fun y H4 => ∃ acc, H4 D = some (.lst acc) ∧ acc.length < sizeLine ∧ Nx (upd H4 D (.lst (acc ++ [y]))) else Nx H3) :=
  lc_list (K := K) (a := a) (xs := xs) (fun i G => LcP D R Iv i G) ⟨[], rfl, fun k y h => by simp at h, upd_same, h0⟩ (fun i G _ p => hl G p.choose_spec.2.2.2) (fun i x G hx p => ⟨wipe1, iteT (B := LcP D R Iv (i + 1) G) (hs i x G hx p)⟩) hd
/-- over a text's signs -/
theorem lcS {z : Str} (R : Nat → V → Prop) (Iv : Hp → Prop) (h0 : Iv (upd H1 D (.lst []))) (hs : ∀ i c G, z.cps[i]? = some c → LcP D R Iv i G → te ((wipe σ [j]).set j (some (.str ⟨#[c]⟩))) G (LcQ D R Iv i))
    (hd : ∀ G, LcP D R Iv z.cps.size G → Qd G) : ∃ W : Nat → Nat → Hp → Prop, (∃ m, W 0 m (upd H1 D (.lst []))) ∧ ∀ i m H, W i m H →
      ((Its z).stop i H ∧ Qd H) ∨ ((Its z).go i H ∧ ∃ Nx : Hp → Prop, (∀ H', Nx H' → ∃ m', m' < m ∧ W (i + 1) m' H') ∧ ∀ x H', (Its z).yld i H x H' → gName j x (wipe σ [j]) H' fun σ2 H2 => wipe σ2 [j] = wipe σ [j] ∧ tYes σ2 H2 fun b H3 =>
        if b = true then te σ2 H3 fun y H4 => ∃ acc, H4 D = some (.lst acc) ∧ acc.length < sizeLine ∧ Nx (upd H4 D (.lst (acc ++ [y]))) else Nx H3) :=
  lc_it walk_str (fun i G => LcP D R Iv i G) ⟨[], rfl, fun k y h => by simp at h, upd_same, h0⟩ (fun _ _ _ _ => trivial) (fun i x G G' hi p y => by
    obtain ⟨rfl, c, hc, rfl⟩ := y
    exact ⟨wipe1, iteT (B := LcP D R Iv (i + 1) G') (hs i c G' hc p)⟩) hd
end
theorem LcP.get {D : Addr} {R : Nat → V → Prop} {Iv : Hp → Prop} {i : Nat} {G : Hp} (p : LcP D R Iv i G) : ∃ acc : List V, acc.length = i ∧ (∀ k y, acc[k]? = some y → R k y) ∧ G D = some (.lst acc) ∧ Iv G := p
/-- items told one by one are a list of texts -/
theorem strs_of {R : Str → Prop} : ∀ {acc : List V}, (∀ (k : Nat) y, acc[k]? = some y → ∃ z : Str, y = .str z ∧ R z) → ∃ ss : List Str, acc = ss.map V.str ∧ ss.length = acc.length ∧ ∀ z ∈ ss, R z
  | [], _ => ⟨[], rfl, rfl, fun z h => by cases h⟩
  | x :: acc, h => by
    obtain ⟨ss, e, l, r⟩ := strs_of (acc := acc) fun k y hk => h (k + 1) y (by simpa using hk)
    obtain ⟨z, rfl, rz⟩ := h 0 x rfl
    refine ⟨z :: ss, by rw [e]; rfl, congrArg Nat.succ l, fun y hy => ?_⟩
    rcases List.mem_cons.mp hy with e | hy
    · rw [e]; exact rz
    · exact r y hy
/-- from here on the heap is any one of which F holds -/
theorem absH {P : Hp → Prop} {H : Hp} (F : Hp → Prop) (h : F H) (k : ∀ G, F G → P G) : P H := k H h
/-- .. and the slots are these -/
theorem absS {P : L2.St → Hp → Prop} {σ : L2.St} {H : Hp} (τ : L2.St) (F : Hp → Prop) (h : F H) (k : ∀ G, F G → P τ G) (e : σ = τ := by rfl) : P σ H := by subst e; exact k H h
/-- the same behind an assignment to a name -/
theorem setS {i : Nat} {v : V} {σ : L2.St} {H : Hp} {D : L2.St → Hp → Prop} (τ : L2.St) (F : Hp → Prop) (h : F H) (k : ∀ G, F G → D τ G) (e : σ.set i (some v) = τ := by rfl) : gName i v σ H D := by
  show D (σ.set i (some v)) H
  rw [e]
  exact k H h
/-- the same ahead of what is left of an argument list -/
theorem absT {t : TA} {σ : L2.St} {H : Hp} {Q : List V → Hp → Prop} (F : Hp → Prop) (h : F H) (k : ∀ G, F G → t σ G Q) : t σ H Q := k H h
/-- an expression has a value and leaves the heap -/
def ValE (te : TE) (σ : L2.St) (H : Hp) (v : V) : Prop := ∀ Q : VK, Q v H → te σ H Q
theorem asgV {te : TE} {g : TG} {D : Ends} {σ : L2.St} {H : Hp} {v : V} (hv : ValE te σ H v) (h : g v σ H D.nx) : tAsg te g D σ H := hv _ h
/-- .. or new things beside -/
def ValN (te : TE) (σ : L2.St) (H : Hp) (R : V → Hp → Prop) : Prop := ∀ Q : VK, (∀ v G, R v G → Q v G) → te σ H Q
theorem asgN {te : TE} {g : TG} {D : Ends} {σ : L2.St} {H : Hp} {R : V → Hp → Prop} (hv : ValN te σ H R) (h : ∀ v G, R v G → g v σ G D.nx) : tAsg te g D σ H := hv _ h
theorem asgVs {te : TE} {i : Nat} {D : Ends} {σ : L2.St} {H : Hp} {v : V} (hv : ValE te σ H v) (h : D.nx (σ.set i (some v)) H) : tAsg te (gName i) D σ H := hv _ h
theorem asgNs {te : TE} {i : Nat} {D : Ends} {σ : L2.St} {H : Hp} {R : V → Hp → Prop} (hv : ValN te σ H R) (h : ∀ v G, R v G → D.nx (σ.set i (some v)) G) : tAsg te (gName i) D σ H := hv _ h
theorem consV {ta : TE} {tr : TA} {σ : L2.St} {H : Hp} {Q : List V → Hp → Prop} {v : V} (hv : ValE ta σ H v) (h : tr σ H fun xs H2 => Q (v :: xs) H2) : tCons ta tr σ H Q := hv _ h
end VL

/-! # Data that may be compared and shown: how long its text is, and how it stays -/
namespace VL
open PySem PySem.Spec PyProof.Rows L2
mutual
/-- an upper bound of the text's length -/
def szb : PyData → Nat
  | .none => 4
  | .bool _ => 5
  | .int _ => 1925
  | .str x => 10 * x.length + 2
  | .list xs => szbAll xs + 3
  | .tuple xs => szbAll xs + 3
  | .dict kvs => szbKv kvs + 3
def szbAll : List PyData → Nat
  | [] => 0
  | x :: xs => szb x + 2 + szbAll xs
def szbKv : List (PyData × PyData) → Nat
  | [] => 0
  | (k, v) :: r => szb k + szb v + 4 + szbKv r
end
mutual
/-- whole numbers that may be shown, texts of real signs -/
def tame : PyData → Bool
  | .none => true
  | .bool _ => true
  | .int i => decide (i.natAbs.log2 < 1920)
  | .str x => PyData.strOk x
  | .list xs => tameAll xs
  | .tuple xs => tameAll xs
  | .dict kvs => tameKv kvs
def tameAll : List PyData → Bool
  | [] => true
  | x :: xs => tame x && tameAll xs
def tameKv : List (PyData × PyData) → Bool
  | [] => true
  | (k, v) :: r => tame k && tame v && tameKv r
end
theorem and3 {a b c : Bool} (h : (a && b && c) = true) : a = true ∧ b = true ∧ c = true := by
  cases a <;> cases b <;> cases c <;> simp_all
theorem and2 {a b : Bool} (h : (a && b) = true) : a = true ∧ b = true := by
  cases a <;> cases b <;> simp_all
mutual
theorem tame_showable : ∀ d : PyData, tame d = true → d.showable = true
  | .none, _ => rfl
  | .bool _, _ => rfl
  | .int _, h => h
  | .str _, _ => rfl
  | .list xs, h => tameAll_showable xs h
  | .tuple xs, h => tameAll_showable xs h
  | .dict kvs, h => tameKv_showable kvs h
theorem tameAll_showable : ∀ xs : List PyData, tameAll xs = true → PyData.showableAll xs = true
  | [], _ => rfl
  | x :: xs, h => by
    obtain ⟨h1, h2⟩ := and2 (show (tame x && tameAll xs) = true from h)
    show (x.showable && PyData.showableAll xs) = true
    rw [tame_showable x h1, tameAll_showable xs h2]
    rfl
theorem tameKv_showable : ∀ kvs : List (PyData × PyData), tameKv kvs = true → PyData.showableKv kvs = true
  | [], _ => rfl
  | (k, v) :: r, h => by
    obtain ⟨h1, h2, h3⟩ := and3 (show (tame k && tame v && tameKv r) = true from h)
    show (k.showable && v.showable && PyData.showableKv r) = true
    rw [tame_showable k h1, tame_showable v h2, tameKv_showable r h3]
    rfl
end
theorem str_repr_len {x : Str} (h : PyData.strOk x = true) : (reprText x).length ≤ 10 * x.length + 2 := by
  refine PySem.StrLaws.reprText_len x (fun c hc => ?_)
  have q : x.cps.all (· < 0x110000) = true := h
  rw [← Array.all_toList, List.all_eq_true] at q
  have z : c < 0x110000 := of_decide_eq_true (q c hc)
  exact Nat.lt_trans z (by decide)
mutual
theorem shown_len : ∀ d : PyData, tame d = true → d.shown.length ≤ szb d
  | .none, _ => by decide
  | .bool true, _ => by decide
  | .bool false, _ => by decide
  | .int i, h => by
    have q := int_text_length_le (a := i) (k := 1920) (by decide) (of_decide_eq_true h)
    show (Str.ofString (toString i)).length ≤ 1925
    rw [PySem.ofString_length]
    omega
  | .str x, h => str_repr_len h
  | .list xs, h => by
    have q := shownAll_len xs h
    have z := listText_len_le (PyData.shownAll xs)
    show (listText (PyData.shownAll xs)).length ≤ szbAll xs + 3
    omega
  | .tuple xs, h => by
    have q := shownAll_len xs h
    have z := tupleText_len_le (PyData.shownAll xs)
    show (tupleText (PyData.shownAll xs)).length ≤ szbAll xs + 3
    omega
  | .dict kvs, h => by
    have q := shownKv_len kvs h
    have z := dictText_len_le (PyData.shownKv kvs)
    show (dictText (PyData.shownKv kvs)).length ≤ szbKv kvs + 3
    omega
theorem shownAll_len : ∀ xs : List PyData, tameAll xs = true → ((PyData.shownAll xs).map (·.length)).sum + 2 * (PyData.shownAll xs).length ≤ szbAll xs
  | [], _ => by decide
  | x :: xs, h => by
    obtain ⟨h1, h2⟩ := and2 (show (tame x && tameAll xs) = true from h)
    have q1 := shown_len x h1
    have q2 := shownAll_len xs h2
    show (x.shown.length + ((PyData.shownAll xs).map (·.length)).sum) + 2 * ((PyData.shownAll xs).length + 1) ≤ szb x + 2 + szbAll xs
    omega
theorem shownKv_len : ∀ kvs : List (PyData × PyData), tameKv kvs = true → ((PyData.shownKv kvs).map (·.length)).sum + 2 * (PyData.shownKv kvs).length ≤ szbKv kvs
  | [], _ => by decide
  | (k, v) :: r, h => by
    obtain ⟨h1, h2, h3⟩ := and3 (show (tame k && tame v && tameKv r) = true from h)
    have q1 := shown_len k h1
    have q2 := shown_len v h2
    have q3 := shownKv_len r h3
    have e : (k.shown ++ (": " : Str) ++ v.shown).length = k.shown.length + 2 + v.shown.length := by
      rw [strLen_append, strLen_append]
      rfl
    show ((k.shown ++ (": " : Str) ++ v.shown).length + ((PyData.shownKv r).map (·.length)).sum) + 2 * ((PyData.shownKv r).length + 1) ≤ szb k + szb v + 4 + szbKv r
    omega
end
mutual
theorem tame_canLay : ∀ d : PyData, tame d = true → d.hasDict = false → d.canLay0 = true
  | .none, _, _ => rfl
  | .bool _, _, _ => rfl
  | .int _, _, _ => rfl
  | .str _, h, _ => h
  | .list xs, h, k => tameAll_canLay xs h k
  | .tuple xs, h, k => tameAll_canLay xs h k
  | .dict kvs, _, k => by cases k
theorem tameAll_canLay : ∀ xs : List PyData, tameAll xs = true → PyData.hasDictAll xs = false → PyData.canLayAll0 xs = true
  | [], _, _ => rfl
  | x :: xs, h, k => by
    obtain ⟨h1, h2⟩ := and2 (show (tame x && tameAll xs) = true from h)
    have k' : (x.hasDict || PyData.hasDictAll xs) = false := k
    rw [Bool.or_eq_false_iff] at k'
    show (x.canLay0 && PyData.canLayAll0 xs) = true
    rw [tame_canLay x h1 k'.1, tameAll_canLay xs h2 k'.2]
    rfl
end
/-! ### data stays while the heap grows -/
theorem Same.seqT {K : PySem.W.Frag} {H H' : Hp} {a : Addr} {xs : List V} (e : Same H H') (h : SqT K H a xs) : SqT K H' a xs := by
  rcases h with (h | ⟨o, h⟩) | h
  · exact .inl (.inl (e _ _ h))
  · exact .inl (.inr ⟨o, e _ _ h⟩)
  · exact .inr h
section
variable {K : PySem.W.Frag} {H H' : Hp}
mutual
theorem dp_mono (e : Same H H') : ∀ (d : PyData) (v : V), Dp K H v d → Dp K H' v d
  | .none, _, h => by cases h; exact .non
  | .bool b, _, h => by cases h; exact .bl b
  | .int i, _, h => by cases h; exact .int i
  | .str x, _, h => by cases h; exact .str x
  | .list ds, _, h => by
    cases h with
    | lst hs ha => exact .lst (e.seq hs) (dpAll_mono e ds _ ha)
  | .tuple ds, _, h => by
    cases h with
    | tup hs ha => exact .tup (Same.seqT e hs) (dpAll_mono e ds _ ha)
  | .dict _, _, h => by cases h
theorem dpAll_mono (e : Same H H') : ∀ (ds : List PyData) (vs : List V), DpAll K H vs ds → DpAll K H' vs ds
  | [], _, h => by cases h; exact .nil
  | d :: ds, _, h => by
    cases h with
    | cons h1 h2 => exact .cons (dp_mono e d _ h1) (dpAll_mono e ds _ h2)
end
theorem Dr.mono (e : Same H H') {v : V} {d : PyData} (h : Dr K H v d) : Dr K H' v d := by
  cases h with
  | dp q n => exact .dp (dp_mono e _ _ q) n
  | dct h q z => exact .dct (e _ _ h) (dpAll_mono e _ _ q) z
end
/-- the heap without one object (the bag) -/
def hid (b : Addr) (H : Hp) : Hp := fun a => if a = b then none else H a
theorem hid_ne {b a : Addr} {H : Hp} (h : a ≠ b) : hid b H a = H a := if_neg h
theorem hid_same {b : Addr} {H : Hp} : Same (hid b H) H := fun a o h => by
  by_cases e : a = b
  · rw [show hid b H a = none from if_pos e] at h
    cases h
  · rwa [hid_ne e] at h
theorem hid_keeps {b : Addr} {H G : Hp} (k : Keeps (fun a => a = b) H G) : Same (hid b H) (hid b G) := fun a o h => by
  by_cases e : a = b
  · rw [show hid b H a = none from if_pos e] at h
    cases h
  · rw [hid_ne e] at h ⊢
    exact k a o e h
theorem hid_at {b a : Addr} {H : Hp} {o : HO} (h : H a = some o) (e : a ≠ b) : hid b H a = some o := by rw [hid_ne e]; exact h
/-! ### lists of texts as data -/
theorem dpAll_strs {K : PySem.W.Frag} {H : Hp} : ∀ ss : List Str, DpAll K H (ss.map V.str) (ss.map PyData.str)
  | [] => .nil
  | s :: ss => .cons (.str s) (dpAll_strs ss)
theorem canLay_strs : ∀ {ss : List Str}, (∀ z ∈ ss, PyData.strOk z = true) → PyData.canLayAll0 (ss.map PyData.str) = true
  | [], _ => rfl
  | s :: ss, h => by
    show (PyData.strOk s && PyData.canLayAll0 (ss.map PyData.str)) = true
    rw [h s List.mem_cons_self, canLay_strs fun z hz => h z (List.mem_cons_of_mem _ hz)]
    rfl
theorem depth_strs : ∀ ss : List Str, PyData.depthAll (ss.map PyData.str) = 0
  | [] => rfl
  | s :: ss => by
    show max 0 (PyData.depthAll (ss.map PyData.str)) = 0
    rw [depth_strs ss]
    rfl
theorem shaped_strs {ss : List Str} (h : ∀ z ∈ ss, PyData.strOk z = true) : SeqAt.shaped (.list (ss.map PyData.str)) = true := by
  show (PyData.canLayAll0 (ss.map PyData.str) && decide (PyData.depthAll (ss.map PyData.str) + 1 ≤ 64)) = true
  rw [canLay_strs h, depth_strs]
  rfl
/-- what G tracks and H did not -/
def fr (H G : Hp) : Hp := fun a => if H a = none then G a else none
theorem fr_at {H G : Hp} {a : Addr} {o : HO} (h : G a = some o) (n : H a = none) : fr H G a = some o := (if_pos n).trans h
theorem fr_inv {H G : Hp} {a : Addr} {o : HO} (h : fr H G a = some o) : H a = none ∧ G a = some o := by
  by_cases n : H a = none
  · exact ⟨n, (if_pos n).symm.trans h⟩
  · have z : fr H G a = none := if_neg n
    rw [z] at h
    cases h
theorem fr_same {H G : Hp} : Same (fr H G) G := fun _ _ h => (fr_inv h).2
theorem fr_keeps {S : Addr → Prop} {H G G' : Hp} (k : Keeps S G G') (hS : ∀ a, S a → H a ≠ none) : Same (fr H G) (fr H G') := fun a o h => by
  obtain ⟨n, g⟩ := fr_inv h
  exact fr_at (k a o (fun z => hS a z n) g) n
theorem fr_new {H G : Hp} {p : Addr} {o : HO} (n : G p = none) : Same (fr H G) (fr H (upd G p o)) := fr_keeps (S := fun _ => False) (Keeps.new n) fun _ z => z.elim
/-- what H1 did not track, H2 did not -/
theorem fr_up {H1 H2 G : Hp} (t : ∀ a, H1 a = none → H2 a = none) : Same (fr H1 G) (fr H2 G) := fun a o h => by
  obtain ⟨n, g⟩ := fr_inv h
  exact fr_at g (t a n)
end VL

set_option maxHeartbeats 2000000
/-! # Own exceptions held as values: made, their fields read, asked by isinstance -/
namespace VL
open PySem PySem.Spec PyProof.Rows L2
/-- what isinstance and a field's reading ask of an exception class -/
structure ExA (K : PySem.W.Frag) (C : Addr) : Prop where
  xf : XfC K C
  cl : (PySem.W.clsIn K C).isSome = true
  cc : PySem.W.findIn K (.ref C) "__class__" = some (some (.builtin "object.__class__"))
  sg : PySem.W.specialIn K (.builtin "object.__class__") "__get__" = some (some (.builtin "getset_descriptor.__get__"))
  tk : PySem.W.takesIn K (.builtin "object.__class__") = some true
  mo : PySem.W.mroIn K C (.type "object") = some true
def exAB (K : PySem.W.Frag) (C : Addr) : Bool := xfB K C && ((PySem.W.clsIn K C).isSome && (decide (PySem.W.findIn K (.ref C) "__class__" = some (some (.builtin "object.__class__"))) && (decide (PySem.W.specialIn K (.builtin "object.__class__") "__get__" = some (some (.builtin "getset_descriptor.__get__"))) &&
  (decide (PySem.W.takesIn K (.builtin "object.__class__") = some true) && decide (PySem.W.mroIn K C (.type "object") = some true)))))
theorem exAB_ok {K : PySem.W.Frag} {C : Addr} (h : exAB K C = true) : ExA K C := by
  obtain ⟨h1, h⟩ := Bool.and_eq_true_iff.mp h
  obtain ⟨h2, h⟩ := Bool.and_eq_true_iff.mp h
  obtain ⟨h3, h⟩ := Bool.and_eq_true_iff.mp h
  obtain ⟨h4, h⟩ := Bool.and_eq_true_iff.mp h
  obtain ⟨h5, h6⟩ := Bool.and_eq_true_iff.mp h
  exact ⟨xfB_ok h1, h2, of_decide_eq_true h3, of_decide_eq_true h4, of_decide_eq_true h5, of_decide_eq_true h6⟩
/-- at a: an exception of the class C, made by its own __init__ (its dict, if any, told too), or by none -/
def ExAt (H : Hp) (a C : Addr) : Prop := (H a = some (exo a C none)) ∨ (∃ d fs, H a = some (exo a C (some d)) ∧ H d = some (exd d fs)) ∨ H a = some (ExO (.ref C) a)
theorem ExAt.mono {H H' : Hp} {a C : Addr} (e : Same H H') (h : ExAt H a C) : ExAt H' a C := by
  rcases h with h | ⟨d, fs, h, k⟩ | h
  · exact .inl (e _ _ h)
  · exact .inr (.inl ⟨d, fs, e _ _ h, e _ _ k⟩)
  · exact .inr (.inr (e _ _ h))
section
variable {X : Cx} {pins : List (Addr × Obj)} {σ : L2.St} {H : Hp} {s : Shared}
theorem ExAt.inst {a C : Addr} (I : Inv X pins σ H s) (h : ExAt H a C) : ∃ ox od, PySem.W.InstAt s.heap a ox C od := by
  rcases h with e | ⟨d, fs, e, ed⟩ | e
  · obtain ⟨t1, ho⟩ := exo_at I.hok e
    exact ⟨_, none, ⟨ho, rfl, rfl, trivial⟩⟩
  · obtain ⟨t1, ho⟩ := exo_at I.hok e
    obtain ⟨mA, hns, _⟩ := exd_at I.hok ed
    obtain ⟨od, hod, _⟩ := lookIn_ns hns
    exact ⟨_, some od, ⟨ho, rfl, rfl, hod⟩⟩
  · obtain ⟨⟨oe, vs, ho, hz, hd, _, _⟩, _, _⟩ := I.hok a _ e
    refine ⟨oe, none, ⟨ho, hz.1, by unfold PySem.W.notCls; rw [hd] <;> rfl, ?_⟩⟩
    rw [hz.2]
    trivial
/-- isinstance(e, C), e an exception held as a value -/
def rIsX (K : PySem.W.Frag) : List V → Hp → VK → Prop := fun xs H Q => ∃ (a C : Addr) (c : V) (u : Value) (b : Bool), xs = [.ref a, c] ∧ ClsV c u ∧ ExA K C ∧ ExAt H a C ∧ PySem.W.kitOne K (.ref C) u = some b ∧ Q (.bl b) H
theorem call_isX : CallR X (.builtin "isinstance") (rIsX X.K) := by
  intro pins s σ H xs us Q I r h
  obtain ⟨a, C, c, u, b, rfl, k, T, ha, e, q⟩ := h
  obtain ⟨u1, u2, rfl, r1, r2⟩ := vals2 r
  have e2 := k.eq r2
  subst e2
  cases (show u1 = Value.ref a from r1)
  obtain ⟨ox, od, J⟩ := ha.inst I
  exact PySem.W.kia_one (PySem.W.kitx_exc T.cl T.xf.ga T.xf.gg T.xf.exC T.cc T.sg T.tk T.mo) I.kIn J e (fun z => nomatch z) fun tk => ⟨.bl b, H, I.tok tk, rfl, q⟩
/-- isinstance(x, T) of a plain value, or of an exception -/
theorem call_isXk {K : PySem.W.Frag} (h : X.K = K := by rfl) : CallR X (.builtin "isinstance") (fun xs H Q => rIsi K xs H Q ∨ rIsX K xs H Q) := by subst h; exact CallR.or call_isi call_isX
/-- e.f -/
def tXv (K : PySem.W.Frag) (n : Str) (te : TE) : TE := fun σ H Q => te σ H fun x H1 => ∃ (a C dd : Addr) (fs : List (Str × V)) (v : V), x = .ref a ∧ XfC K C ∧ PySem.W.findIn K (.ref C) n = some none ∧ H1 a = some (exo a C (some dd)) ∧ H1 dd = some (exd dd fs) ∧ fs.lookup n = some v ∧ Q v H1
theorem pe_xv {K : PySem.W.Frag} {e : Expr} {te : TE} {pos : Pos} {n : Str} (he : PE X e te) (h : X.K = K := by rfl) (hb : attributeBase e n X.env (eval e X.env) = eval e X.env := by rfl) : PE X (.Attribute e n pos) (tXv K n te) := by
  subst h
  refine ⟨fun pins s σ H Q I h => ?_⟩
  refine attr_of hb (thn (he.run pins s σ H _ I h) fun u s1 hh => ?_)
  obtain ⟨x, H1, I1, rx, a, C, dd, fs, v, ex, T, hno, ea, ed, l, q⟩ := hh
  subst ex
  obtain rfl : u = Value.ref a := rx
  obtain ⟨t1, ha⟩ := exo_at I1.hok ea
  obtain ⟨mA, hns, hr⟩ := exd_at I1.hok ed
  obtain ⟨od, ho, hl⟩ := lookIn_ns hns
  obtain ⟨u, hu, ru⟩ := RelO.some_of (v := v) (o := mA n) (by rw [← l]; exact hr n)
  have J : PySem.W.InstAt s1.heap a { cls := .ref C, dict := some dd, data := .fields #[.ref t1, .none, .none, .none, .bool false, .none] } C (some od) := ⟨ha, rfl, rfl, ho⟩
  exact HandSPX.exc_get I1.kIn J T.ga T.gg T.exC (PySem.W.findObj_own T.hdC hno rfl (by rw [hl, hu])) (handed_of ru) ⟨v, H1, I1.tok _, ru, q⟩
end
section
variable {X : Cx} {CX : CXT} {k : Nat} {C fI : Addr} {fd : FuncData} {ps : List Str} {sp : Sp} {x : Str} {e : Expr} {es : List Expr} {ta : TA} {p pos : Pos}
/-- C(e, ..) as a value, C's own __init__ keeping sp -/
def tMkV (C : Addr) (sp : Sp) (ta : TA) : TE := fun σ H Q => ta σ H fun vs H1 => vs.length ≤ 1000 ∧ ∀ a, H1 a = none → sp (.ref a :: vs) (upd H1 a (exo a C none)) (fun v H2 => v = .non ∧ Q (.ref a) H2) (fun _ _ _ => False)
theorem run_mkV {pins : List (Addr × Obj)} {σ : L2.St} {H1 : Hp} {s1 : Shared} {Q : VK} {us : List Value} {vs : List V} (T : OexC X.K C) (iC : PySem.W.findIn X.K (.ref C) "__init__" = some (some (.ref fI))) (tI : PySem.W.typeIn X.K (.ref fI) = some (.type "function"))
    (F1 : FnOk X.prog X.w X.K X.mg X.base CX k fI fd ps sp) (hr : Room (k + 1) X.A) (hb : Binds X.K fd ps []) (hx : Passes CX X (fun _ _ _ => False)) (I1 : Inv X pins σ H1 s1) (r1 : Vals vs us) (hz : vs.length ≤ 1000)
    (q1 : ∀ a, H1 a = none → sp (.ref a :: vs) (upd H1 a (exo a C none)) (fun v H2 => v = .non ∧ Q (.ref a) H2) (fun _ _ _ => False)) : wpAny (model X.prog X.w) X.A (call (.ref C) us) (EP X pins σ Q) X.xe s1 := by
  obtain ⟨nm, q, N, bs, bm, sn, sub, ab, col, dd, k0, k1, k2, k3, k5, hC, hbm⟩ := T.cls
  obtain ⟨hp, g, dr, tk, os⟩ := s1
  have hsz : hp.objs.size ≤ hp.objs.size + 1 := Nat.le_succ _
  have hn : H1 (hp.objs.size + 1) = none := I1.hok.fresh hsz
  have hq := q1 (hp.objs.size + 1) hn
  have kk : ∀ b o, hp.get? b = some o → ((hp.push (PySem.W.kdv_tup us)).push (PySem.HandSPX.excO C hp.objs.size)).get? b = some o := fun b o e => Heap.get?_push_of_some _ (Heap.get?_push_of_some _ e)
  have hget : ((hp.push (PySem.W.kdv_tup us)).push (PySem.HandSPX.excO C hp.objs.size)).get? (hp.objs.size + 1) = some (PySem.HandSPX.excO C hp.objs.size) := by heap_get
  have I2 : Inv X pins σ (upd H1 (hp.objs.size + 1) (exo (hp.objs.size + 1) C none)) ⟨(hp.push (PySem.W.kdv_tup us)).push (PySem.HandSPX.excO C hp.objs.size), g, dr, tk, os⟩ :=
    I1.laid (t' := tk) (a := hp.objs.size + 1) (o := exo (hp.objs.size + 1) C none) (h' := (hp.push (PySem.W.kdv_tup us)).push (PySem.HandSPX.excO C hp.objs.size)) kk hsz (exo_ok hget)
  have r2 : Vals (V.ref (hp.objs.size + 1) :: vs) (Value.ref (hp.objs.size + 1) :: us) := .cons rfl r1
  have hl : (Value.ref (hp.objs.size + 1) :: us).length = ps.length := by
    have e := r2.length
    rw [F1.len _ _ _ _ hq] at e
    exact e.symm
  have hus : us.length ≤ sizeLine := by
    rw [← Paired.length r1, sizeLine_eq]
    omega
  have bnd := hb _ (Value.ref (hp.objs.size + 1) :: us) I2.kIn (by rw [List.append_nil]; exact hl)
  rw [List.append_nil] at bnd
  refine wpAny_call (PySem.HandSPX.call_own F.excBase_ValueError (fun Y => PySem.HandSPX.refsVE_contains Y bm hbm) (I1.kIn _ _ hC) (PySem.W.looks_findIn I1.kIn iC) (fun self => PySem.W.bind_fn I1.kIn self tI) hus
    (codeAny_mono (F1.run _ X.stack _ _ ⟨Value.ref (hp.objs.size + 1) :: us, []⟩ (Value.ref (hp.objs.size + 1) :: us) _ _ (fun _ _ _ => False) (hr.make C us []) (I2.env0.make C us []) bnd r2 hq) fun r s' hq' => ?_))
  cases r with
  | error er => exact hx pins σ _ _ er s' I2 hq'
  | ok fl =>
    cases fl with
    | ret u =>
      obtain ⟨v, H2, J, rv, ev, q2⟩ := I2.after hq'
      subst ev
      exact ⟨rv, .ref (hp.objs.size + 1), H2, J, rfl, q2⟩
    | next => exact False.elim hq'
    | brk => exact False.elim hq'
    | cont => exact False.elim hq'
theorem pe_mkV (T : OexC X.K C) (iC : PySem.W.findIn X.K (.ref C) "__init__" = some (some (.ref fI))) (tI : PySem.W.typeIn X.K (.ref fI) = some (.type "function"))
    (F1 : FnOk X.prog X.w X.K X.mg X.base CX k fI fd ps sp) (hr : Room (k + 1) X.A) (hb : Binds X.K fd ps []) (hx : Passes CX X (fun _ _ _ => False)) (hg : Gl X x) (hm : X.mg x = some (.ref C)) (ha : PA X (e :: es) ta)
    (hdb : (x == ("__debug__" : Str)) = false := by decide) (he : starEach (e :: es) X.env = (false, eval e X.env) :: starEach es X.env := by rfl) (hpl : (backTo pos (starEach es X.env)).any (·.1) = false := by rfl) :
    PE X (.Call (.Name x p) (e :: es) [] pos) (tMkV C sp ta) := by
  refine ⟨fun pins s σ H Q I h => ?_⟩
  refine wpAny_Call_Name_kw (ld_glob I hg hm ?_ hdb)
  refine PySem.W.callWith_K (h₀ := X.base) I.ok.mod.kin T.kC (thn (ha.run pos pins s σ H _ I h) fun us s1 ⟨vs, H1, I1, r1, hz, q1⟩ => ⟨I1.kIn, ?_⟩) he hpl
  exact run_mkV T iC tI F1 hr hb hx I1 r1 hz q1
theorem pe_mkV0 (T : OexC X.K C) (iC : PySem.W.findIn X.K (.ref C) "__init__" = some (some (.ref fI))) (tI : PySem.W.typeIn X.K (.ref fI) = some (.type "function"))
    (F1 : FnOk X.prog X.w X.K X.mg X.base CX k fI fd ps sp) (hr : Room (k + 1) X.A) (hb : Binds X.K fd ps []) (hx : Passes CX X (fun _ _ _ => False)) (hg : Gl X x) (hm : X.mg x = some (.ref C))
    (hdb : (x == ("__debug__" : Str)) = false := by decide) : PE X (.Call (.Name x p) [] [] pos) (tMkV C sp tNil) := by
  refine ⟨fun pins s σ H Q I h => ?_⟩
  refine wpAny_Call_Name_kw (ld_glob I hg hm ?_ hdb)
  obtain ⟨hz, q1⟩ := h
  exact PySem.W.callWith_K0 I.kIn T.kC (run_mkV (us := []) (vs := []) T iC tI F1 hr hb hx I .nil hz q1)
/-- an own exception class without own __init__, as a value -/
def tMkX (C : Addr) (ta : TA) : TE := fun σ H Q => ta σ H fun vs H1 => vs.length ≤ 1000 ∧ ∀ a, H1 a = none → Q (.ref a) (upd H1 a (ExO (.ref C) a))
variable {bmB : List Value} {B newId initId : String}
theorem run_mkX {pins : List (Addr × Obj)} {σ : L2.St} {H1 : Hp} {s1 : Shared} {Q : VK} {us : List Value} {vs : List V} (F : ExcBaseFacts B newId initId bmB) (q : PySem.W.excIn X.K C bmB newId = true) (I1 : Inv X pins σ H1 s1) (r1 : Vals vs us) (hz : vs.length ≤ 1000)
    (q1 : ∀ a, H1 a = none → Q (.ref a) (upd H1 a (ExO (.ref C) a))) : wpAny (model X.prog X.w) X.A (call (.ref C) us) (EP X pins σ Q) X.xe s1 := by
  obtain ⟨bm, N, nm, qn, bs, hdct, sn, sub, ab, col, dd, k0, k1, k2, k3, k5, mN, hC, hN, hni, T⟩ := exc_obj I1.kIn q
  obtain ⟨hp, g, dr, tk, os⟩ := s1
  refine wpAny_call_exc_subT F T hC hN hni (fun h' a hm => ?_) (by rw [← Paired.length r1, sizeLine_eq]; omega)
  have hn : H1 a = none := I1.hok.gone hm.new
  obtain ⟨t, ht, _, _⟩ := hm.there
  exact ⟨.ref a, upd H1 a (ExO (.ref C) a), I1.laidN hm.keeps hm.new hn (exO_ok ht ⟨rfl, rfl⟩ rfl rfl rfl (show 4 < 6 by decide)), rfl, q1 a hn⟩
theorem pe_mkX (F : ExcBaseFacts B newId initId bmB) (q : PySem.W.excIn X.K C bmB newId = true) (gC : X.mg x = some (.ref C)) (kC : PySem.W.keepIn X.K (.ref C) = true) (hg : Gl X x) (ha : PA X (e :: es) ta)
    (hdb : (x == ("__debug__" : Str)) = false := by decide) (he : starEach (e :: es) X.env = (false, eval e X.env) :: starEach es X.env := by rfl) (hpl : (backTo pos (starEach es X.env)).any (·.1) = false := by rfl) :
    PE X (.Call (.Name x p) (e :: es) [] pos) (tMkX C ta) := by
  refine ⟨fun pins s σ H Q I h => ?_⟩
  refine wpAny_Call_Name_kw (ld_glob I hg gC ?_ hdb)
  refine PySem.W.callWith_K (h₀ := X.base) I.ok.mod.kin kC (thn (ha.run pos pins s σ H _ I h) fun us s1 ⟨vs, H1, I1, r1, hz, q1⟩ => ⟨I1.kIn, ?_⟩) he hpl
  exact run_mkX F q I1 r1 hz q1
theorem pe_mkX0 (F : ExcBaseFacts B newId initId bmB) (q : PySem.W.excIn X.K C bmB newId = true) (gC : X.mg x = some (.ref C)) (kC : PySem.W.keepIn X.K (.ref C) = true) (hg : Gl X x)
    (hdb : (x == ("__debug__" : Str)) = false := by decide) : PE X (.Call (.Name x p) [] [] pos) (tMkX C tNil) := by
  refine ⟨fun pins s σ H Q I h => ?_⟩
  refine wpAny_Call_Name_kw (ld_glob I hg gC ?_ hdb)
  obtain ⟨hz, q1⟩ := h
  exact PySem.W.callWith_K0 I.kIn kC (run_mkX (us := []) (vs := []) F q I .nil hz q1)
end
/-! ### own __init__s that store their arguments as fields -/
/-- C(e, ..): the fields fs are the arguments; self alone is changed, and a new dict is made -/
def spI (C : Addr) (fs : List Str) : Sp := fun vs H Q _ => ∃ (a : Addr) (xs : List V), vs = .ref a :: xs ∧ xs.length = fs.length ∧ H a = some (exo a C none) ∧
  ∀ H', Keeps (fun b => b = a) H H' → ((fs = [] ∧ H' a = some (exo a C none)) ∨ ∃ d gs, H d = none ∧ H' a = some (exo a C (some d)) ∧ H' d = some (exd d gs) ∧ ∀ f v, (f, v) ∈ fs.zip xs → gs.lookup f = some v) → Q .non H'
theorem spI_len {C : Addr} {fs : List Str} {vs : List V} {H : Hp} {Q : VK} {E : XK} (h : spI C fs vs H Q E) : vs.length = fs.length + 1 := by
  obtain ⟨a, xs, rfl, hl, _⟩ := h
  show xs.length + 1 = _
  rw [hl]
section
variable {K : PySem.W.Frag} {C a : Addr} {f g e : Str} {x y z : V} {H : Hp} {Q : VK} {N : List Str}
theorem lk_hd {f : Str} {v : V} {fs : List (Str × V)} : ((f, v) :: fs).lookup f = some v := by rw [lookup_put, if_pos rfl]
theorem lk_tl {f g : Str} {v : V} {fs : List (Str × V)} (h : g ≠ f) : ((f, v) :: fs).lookup g = fs.lookup g := by rw [lookup_put, if_neg h]
theorem init1 {nm : Str} (T : OexC K C) (h0 : PySem.W.findIn K (.ref C) f = some none) (ha : H a = some (exo a C none))
    (q : ∀ H', Keeps (fun b => b = a) H H' → (([f] = [] ∧ H' a = some (exo a C none)) ∨ ∃ d gs, H d = none ∧ H' a = some (exo a C (some d)) ∧ H' d = some (exd d gs) ∧ ∀ n v, (n, v) ∈ [f].zip [x] → gs.lookup n = some v) → Q .non H') :
    tOst K f (tVar 0) (tVar 1) { nx := fun _ H' => Q .non H', rt := Q } (start ["self", nm] [.ref a, x]) H := by
  refine ⟨_, rfl, _, rfl, a, C, rfl, T, h0, Or.inl ⟨ha, fun d hd ne => ?_⟩⟩
  refine q _ ((Keeps.new hd).trans (Keeps.put (S := fun b => b = a) rfl)) (Or.inr ⟨d, _, hd, upd_same, (upd_ne ne).trans upd_same, fun n v h => ?_⟩)
  obtain ⟨rfl, rfl⟩ : n = f ∧ v = x := by simpa using h
  exact lk_hd
theorem init2 (T : OexC K C) (h0 : PySem.W.findIn K (.ref C) f = some none) (h1 : PySem.W.findIn K (.ref C) g = some none) (n1 : f ≠ g) (ha : H a = some (exo a C none))
    (q : ∀ H', Keeps (fun b => b = a) H H' → (([f, g] = [] ∧ H' a = some (exo a C none)) ∨ ∃ d gs, H d = none ∧ H' a = some (exo a C (some d)) ∧ H' d = some (exd d gs) ∧ ∀ n v, (n, v) ∈ [f, g].zip [x, y] → gs.lookup n = some v) → Q .non H') :
    tSeq (tOst K f (tVar 0) (tVar 1)) (tOst K g (tVar 0) (tVar 2)) { nx := fun _ H' => Q .non H', rt := Q } (start ["self", f, g] [.ref a, x, y]) H := by
  refine ⟨_, rfl, _, rfl, a, C, rfl, T, h0, Or.inl ⟨ha, fun d hd ne => ?_⟩⟩
  refine ⟨_, rfl, _, rfl, a, C, rfl, T, h1, Or.inr ⟨d, _, upd_same, (upd_ne ne).trans upd_same, (by show _ ≤ 900; simp), ?_⟩⟩
  refine q _ (((Keeps.new hd).trans (Keeps.put (S := fun b => b = a) rfl)).updN hd) (Or.inr ⟨d, _, hd, (upd_ne ne.symm).trans upd_same, upd_same, fun n v h => ?_⟩)
  rcases (by simpa using h : (n = f ∧ v = x) ∨ (n = g ∧ v = y)) with ⟨rfl, rfl⟩ | ⟨rfl, rfl⟩
  · rw [lk_tl n1]; exact lk_hd
  · exact lk_hd
theorem init3 (T : OexC K C) (h0 : PySem.W.findIn K (.ref C) f = some none) (h1 : PySem.W.findIn K (.ref C) g = some none) (h2 : PySem.W.findIn K (.ref C) e = some none) (n1 : f ≠ g) (n2 : f ≠ e) (n3 : g ≠ e) (ha : H a = some (exo a C none))
    (q : ∀ H', Keeps (fun b => b = a) H H' → (([f, g, e] = [] ∧ H' a = some (exo a C none)) ∨ ∃ d gs, H d = none ∧ H' a = some (exo a C (some d)) ∧ H' d = some (exd d gs) ∧ ∀ n v, (n, v) ∈ [f, g, e].zip [x, y, z] → gs.lookup n = some v) → Q .non H') :
    tSeq (tOst K f (tVar 0) (tVar 1)) (tSeq (tOst K g (tVar 0) (tVar 2)) (tOst K e (tVar 0) (tVar 3))) { nx := fun _ H' => Q .non H', rt := Q } (start ["self", f, g, e] [.ref a, x, y, z]) H := by
  refine ⟨_, rfl, _, rfl, a, C, rfl, T, h0, Or.inl ⟨ha, fun d hd ne => ?_⟩⟩
  refine ⟨_, rfl, _, rfl, a, C, rfl, T, h1, Or.inr ⟨d, _, upd_same, (upd_ne ne).trans upd_same, (by show _ ≤ 900; simp), ?_⟩⟩
  refine ⟨_, rfl, _, rfl, a, C, rfl, T, h2, Or.inr ⟨d, _, (upd_ne ne.symm).trans upd_same, upd_same, (by show _ ≤ 900; simp), ?_⟩⟩
  refine q _ ((((Keeps.new hd).trans (Keeps.put (S := fun b => b = a) rfl)).updN hd).updN hd) (Or.inr ⟨d, _, hd, (upd_ne ne.symm).trans ((upd_ne ne.symm).trans upd_same), upd_same, fun n v h => ?_⟩)
  rcases (by simpa using h : (n = f ∧ v = x) ∨ (n = g ∧ v = y) ∨ (n = e ∧ v = z)) with ⟨rfl, rfl⟩ | ⟨rfl, rfl⟩ | ⟨rfl, rfl⟩
  · rw [lk_tl n2, lk_tl n1]; exact lk_hd
  · rw [lk_tl n3]; exact lk_hd
  · exact lk_hd
end
/-- a class of errors with such an __init__ -/
structure Mk1 (P : Program) (w : World) (K : PySem.W.Frag) (mg : Str → Option Value) (base : Heap) (x : Str) (C : Addr) (fs : List Str) : Prop where
  ex : ∃ (fI : Addr) (fd : FuncData) (ps : List Str), OexC K C ∧ PySem.W.findIn K (.ref C) "__init__" = some (some (.ref fI)) ∧ PySem.W.typeIn K (.ref fI) = some (.type "function") ∧ FnOk P w K mg base CX0 1 fI fd ps (spI C fs) ∧ Binds K fd ps [] ∧ mg x = some (.ref C)
/-- .. and one without -/
structure MkE (K : PySem.W.Frag) (mg : Str → Option Value) (x : Str) (C : Addr) : Prop where
  ex : PySem.W.excIn K C [.type "ValueError", .type "Exception", .type "BaseException", .type "object"] "ValueError.__new__" = true ∧ mg x = some (.ref C) ∧ PySem.W.keepIn K (.ref C) = true
section
variable {X : Cx} {C : Addr} {fs : List Str} {x : Str} {e : Expr} {es : List Expr} {ta : TA} {p pos : Pos} {j : Nat}
theorem pe_mk1 (c : Mk1 X.prog X.w X.K X.mg X.base x C fs) (hr : Room j X.A) (hk : 2 ≤ j) (hg : Gl X x) (ha : PA X (e :: es) ta)
    (hdb : (x == ("__debug__" : Str)) = false := by decide) (he : starEach (e :: es) X.env = (false, eval e X.env) :: starEach es X.env := by rfl) (hpl : (backTo pos (starEach es X.env)).any (·.1) = false := by rfl) :
    PE X (.Call (.Name x p) (e :: es) [] pos) (tMkV C (spI C fs) ta) := by
  obtain ⟨fI, fd, ps, T, iC, tI, F, b, hm⟩ := c.ex
  exact pe_mkV T iC tI F (hr.mono hk) b pass0 hg hm ha hdb he hpl
theorem pe_mk10 (c : Mk1 X.prog X.w X.K X.mg X.base x C fs) (hr : Room j X.A) (hk : 2 ≤ j) (hg : Gl X x) (hdb : (x == ("__debug__" : Str)) = false := by decide) :
    PE X (.Call (.Name x p) [] [] pos) (tMkV C (spI C fs) tNil) := by
  obtain ⟨fI, fd, ps, T, iC, tI, F, b, hm⟩ := c.ex
  exact pe_mkV0 T iC tI F (hr.mono hk) b pass0 hg hm hdb
theorem pe_mkE (c : MkE X.K X.mg x C) (hg : Gl X x) (ha : PA X (e :: es) ta)
    (hdb : (x == ("__debug__" : Str)) = false := by decide) (he : starEach (e :: es) X.env = (false, eval e X.env) :: starEach es X.env := by rfl) (hpl : (backTo pos (starEach es X.env)).any (·.1) = false := by rfl) :
    PE X (.Call (.Name x p) (e :: es) [] pos) (tMkX C ta) := pe_mkX F.excBase_ValueError c.ex.1 c.ex.2.1 c.ex.2.2 hg ha hdb he hpl
theorem pe_mkE0 (c : MkE X.K X.mg x C) (hg : Gl X x) (hdb : (x == ("__debug__" : Str)) = false := by decide) : PE X (.Call (.Name x p) [] [] pos) (tMkX C tNil) := pe_mkX0 F.excBase_ValueError c.ex.1 c.ex.2.1 c.ex.2.2 hg hdb
end
/-- an error with these fields, that was made since B -/
def EL (B H : Hp) (a C : Addr) (l : List (Str × V)) : Prop := B a = none ∧ ((l = [] ∧ H a = some (exo a C none)) ∨ ∃ d gs, B d = none ∧ H a = some (exo a C (some d)) ∧ H d = some (exd d gs) ∧ ∀ f v, (f, v) ∈ l → gs.lookup f = some v)
theorem EL.same {B H H' : Hp} {a C : Addr} {l : List (Str × V)} (e : ∀ c o, B c = none → H c = some o → H' c = some o) (h : EL B H a C l) : EL B H' a C l := by
  obtain ⟨n, h⟩ := h
  refine ⟨n, ?_⟩
  rcases h with ⟨rfl, h⟩ | ⟨d, gs, nd, h1, h2, h3⟩
  · exact Or.inl ⟨rfl, e _ _ n h⟩
  · exact Or.inr ⟨d, gs, nd, e _ _ n h1, e _ _ nd h2, h3⟩
theorem EL.ex {B H : Hp} {a C : Addr} {l : List (Str × V)} (h : EL B H a C l) : ExAt H a C := by
  obtain ⟨n, h⟩ := h
  rcases h with ⟨rfl, h⟩ | ⟨d, gs, nd, h1, h2, h3⟩
  · exact Or.inl h
  · exact Or.inr (Or.inl ⟨d, gs, h1, h2⟩)
/-- an argument C(e, ..) ahead of others -/
theorem errCons {B : Hp} {C : Addr} {fs : List Str} {ta tr : TA} {σ : L2.St} {H : Hp} {Q : List V → Hp → Prop} {xs : List V} (hx : ∀ (H : Hp) (Q : List V → Hp → Prop), Q xs H → ta σ H Q) (hl : xs.length = fs.length) (hz : xs.length ≤ 1000) (sm : Same B H)
    (k : ∀ a G, Same H G → EL B G a C (fs.zip xs) → tr σ G fun ys G2 => Q (.ref a :: ys) G2) : tCons (tMkV C (spI C fs) ta) tr σ H Q := by
  refine hx _ _ ⟨hz, fun a na => ⟨a, xs, rfl, hl, upd_same, fun H' kp h => ⟨rfl, ?_⟩⟩⟩
  have s1 : Same H H' := fun c o hc => kp c o (ne_of_none hc na) (by rw [upd_ne (ne_of_none hc na)]; exact hc)
  refine k a H' s1 ⟨sm.free na, ?_⟩
  rcases h with ⟨e, h⟩ | ⟨d, gs, nd, h1, h2, h3⟩
  · subst e
    exact Or.inl ⟨rfl, h⟩
  · have nda : d ≠ a := fun z => by rw [z, upd_same] at nd; cases nd
    rw [upd_ne nda] at nd
    exact Or.inr ⟨d, gs, sm.free nd, h1, h2, h3⟩
end VL

/-! # Twins: two lists of one shape whose leaves are the very same things; they are equal and shown alike, dicts within too -/
namespace VL
open PySem PySem.Spec PyProof.Rows L2
/-- the module table is there from the beginning on (so that no list stands there) -/
def SysB (base : Heap) : Prop := ∃ mm, base.Ns sysModules mm
mutual
inductive Tw (K : PySem.W.Frag) (H : Hp) : V → V → PyData → Prop where
  | same {v : V} {d : PyData} (h : Dr K H v d) : Tw K H v v d
  | lst {a b : Addr} {xs ys : List V} {ds : List PyData} (ne : a ≠ b) (ha : SqL K H a xs) (hb : SqL K H b ys) (t : TwAll K H xs ys ds) : Tw K H (.ref a) (.ref b) (.list ds)
inductive TwAll (K : PySem.W.Frag) (H : Hp) : List V → List V → List PyData → Prop where
  | nil : TwAll K H [] [] []
  | cons {v y : V} {d : PyData} {vs ys : List V} {ds : List PyData} (h : Tw K H v y d) (t : TwAll K H vs ys ds) : TwAll K H (v :: vs) (y :: ys) (d :: ds)
end
theorem TwAll.rep {K : PySem.W.Frag} {H : Hp} {v : V} {d : PyData} (h : Dr K H v d) : ∀ n : Nat, TwAll K H (List.replicate n v) (List.replicate n v) (List.replicate n d)
  | 0 => .nil
  | n + 1 => .cons (.same h) (TwAll.rep h n)
theorem TwAll.len {K : PySem.W.Frag} {H : Hp} : ∀ {xs ys : List V} {ds : List PyData}, TwAll K H xs ys ds → xs.length = ys.length
  | _, _, _, .nil => rfl
  | _, _, _, .cons _ t => congrArg Nat.succ t.len
section
variable {X : Cx} {pins : List (Addr × Obj)} {σ : L2.St} {H : Hp} {s : Shared}
theorem Dr.leaf (I : Inv X pins σ H s) {v : V} {d : PyData} {u u' : Value} (h : Dr X.K H v d) (r : RelV v u) (r' : RelV v u') (n : Nat) : PySem.W.EqTree X.prog X.w s n u u' true := by
  cases v with
  | non => cases (show u = Value.none from r); cases (show u' = Value.none from r'); exact .same
  | bl b => cases (show u = Value.bool b from r); cases (show u' = Value.bool b from r'); exact .same
  | int i =>
    obtain ⟨t, rfl⟩ := (show ∃ t, u = Value.int i t from r)
    obtain ⟨t', rfl⟩ := (show ∃ t, u' = Value.int i t from r')
    have e := MeetsSeq.EqGives.int i i t t'
    rw [beq_self_eq_true] at e
    exact .leaf fun A _ => e.at A s
  | str x =>
    obtain ⟨t, rfl⟩ := (show ∃ t, u = Value.str x t from r)
    obtain ⟨t', rfl⟩ := (show ∃ t, u' = Value.str x t from r')
    have e := eqGives_str x x t t'
    rw [beq_self_eq_true] at e
    exact .leaf fun A _ => e.at A s
  | ref a => cases (show u = Value.ref a from r); cases (show u' = Value.ref a from r'); exact .same
  | byt b => exact (by cases h with | dp q n => cases q)
  | flt b => exact (by cases h with | dp q n => cases q)
  | ty n => exact (by cases h with | dp q n => cases q)
end
mutual
theorem reads_lists {h : Heap} : ∀ (d : PyData) (u : Value) (as : List Addr), Reads h u d as → d.hasDict = false → ∀ a ∈ as, ∃ o vs n, h.get? a = some o ∧ o.data = .seq vs n
  | .none, _, _, .none, _ => fun a h => by cases h
  | .bool _, _, _, .bool _, _ => fun a h => by cases h
  | .int _, _, _, .int _ _, _ => fun a h => by cases h
  | .str _, _, _, .str _ _, _ => fun a h => by cases h
  | .list ds, _, _, .list ho hc hd hr, q => fun a hm => by
    rcases List.mem_cons.mp hm with z | z
    · rw [z]; exact ⟨_, _, _, ho, hd⟩
    · exact readsAll_lists ds _ _ hr (by simpa only [PyData.hasDict] using q) a z
  | .tuple ds, _, _, .tuple ho hc hd hr, q => fun a hm => readsAll_lists ds _ _ hr (by simpa only [PyData.hasDict] using q) a hm
  | .dict _, _, _, _, q => by simp only [PyData.hasDict] at q; cases q
theorem readsAll_lists {h : Heap} : ∀ (ds : List PyData) (us : List Value) (as : List Addr), ReadsAll h us ds as → PyData.hasDictAll ds = false → ∀ a ∈ as, ∃ o vs n, h.get? a = some o ∧ o.data = .seq vs n
  | [], _, _, .nil, _ => fun a h => by cases h
  | d :: ds, _, _, .cons h1 h2, q => fun a hm => by
    have q' : d.hasDict = false ∧ PyData.hasDictAll ds = false := by simpa only [PyData.hasDictAll, Bool.or_eq_false_iff] using q
    rcases List.mem_append.mp hm with z | z
    · exact reads_lists d _ _ h1 q'.1 a z
    · exact readsAll_lists ds _ _ h2 q'.2 a z
end
section
variable {X : Cx} {pins : List (Addr × Obj)} {σ : L2.St} {H : Hp} {s : Shared}
theorem list_not_sys (I : Inv X pins σ H s) (hk : SysB X.base) {a : Addr} {o : Obj} {vs : Array Value} {n : Nat} (h : s.heap.get? a = some o) (c : o.data = .seq vs n) : sysModules ≠ a := by
  obtain ⟨mm, o', es, ep, l, d, _⟩ := hk
  have e := I.bk _ _ l
  intro z
  rw [z, h] at e
  cases e
  rw [c] at d
  cases d
theorem Dr.reads2 (I : Inv X pins σ H s) (hk : SysB X.base) {v : V} {d : PyData} {u : Value} (h : Dr X.K H v d) (r : RelV v u) : ∃ as, Reads s.heap u d as ∧ sysModules ∉ as := by
  obtain ⟨as, hr, hn⟩ := Dr.reads I h r
  refine ⟨as, hr, fun hm => ?_⟩
  cases e : d.hasDict with
  | true => exact hn e hm
  | false =>
    obtain ⟨o, vs, n, ho, hd⟩ := reads_lists d _ _ hr e _ hm
    exact list_not_sys I hk ho hd rfl
/-- what is to be shown of a pair: both read the same data, and they are equal -/
structure TwOk (X : Cx) (s : Shared) (u u' : Value) (d : PyData) : Prop where
  eq : ∀ n, d.depth ≤ n → PySem.W.EqTree X.prog X.w s n u u' true
  rd : ∃ as, Reads s.heap u d as ∧ sysModules ∉ as
  rd' : ∃ as, Reads s.heap u' d as ∧ sysModules ∉ as
mutual
theorem Tw.ok (I : Inv X pins σ H s) (hk : SysB X.base) : ∀ (d : PyData) (v y : V) (u u' : Value), Tw X.K H v y d → RelV v u → RelV y u' → TwOk X s u u' d
  | d, _, _, _, _, .same h, r, r' => ⟨fun n _ => Dr.leaf I h r r' n, Dr.reads2 I hk h r, Dr.reads2 I hk h r'⟩
  | .list ds, _, _, _, _, .lst ne ha hb t, r, r' => by
    cases r
    cases r'
    obtain ⟨its, rv, ⟨o, n, ho, hc, hd0, hd⟩, z⟩ := I.list ha
    obtain ⟨its', rv', ⟨o', n', ho', hc', hd0', hd'⟩, z'⟩ := I.list hb
    obtain ⟨e, ⟨as, ra, na⟩, ⟨bs, rb, nb⟩⟩ := TwAll.ok I hk ds _ _ its its' t rv rv'
    have l := t.len
    rw [rv.length, rv'.length] at l
    refine ⟨fun m hm => ?_, ⟨_, Reads.list ho hc hd ra, fun hm => ?_⟩, ⟨_, Reads.list ho' hc' hd' rb, fun hm => ?_⟩⟩
    · have dep : (PyData.list ds).depth = PyData.depthAll ds + 1 := by simp only [PyData.depth]
      rw [dep] at hm
      obtain ⟨k, rfl⟩ : ∃ k, m = k + 1 := ⟨m - 1, by omega⟩
      have q := PySem.W.EqTree.lists (prog := X.prog) (w := X.w) (s := s) (n := k) (vs := its.toArray) (vs' := its'.toArray) (e := fun _ => true) ne ⟨o, ho, hc, _, hd⟩ ⟨o', ho', hc', _, hd'⟩ (by simpa using l) (fun j h1 h2 => by
        have q := e k (by omega) j (by simpa using h1) (by simpa using h2)
        simpa using q)
      have tr : (List.range its.toArray.size).all (fun _ => true) = true := by simp
      rw [tr] at q
      exact q
    · rcases List.mem_cons.mp hm with z | z
      · exact list_not_sys I hk ho hd z
      · exact na z
    · rcases List.mem_cons.mp hm with z | z
      · exact list_not_sys I hk ho' hd' z
      · exact nb z
theorem TwAll.ok (I : Inv X pins σ H s) (hk : SysB X.base) : ∀ (ds : List PyData) (vs ys : List V) (us us' : List Value), TwAll X.K H vs ys ds → Vals vs us → Vals ys us' →
    (∀ n, PyData.depthAll ds ≤ n → ∀ j (h1 : j < us.length) (h2 : j < us'.length), PySem.W.EqTree X.prog X.w s n us[j] us'[j] true) ∧ (∃ as, ReadsAll s.heap us ds as ∧ sysModules ∉ as) ∧ (∃ as, ReadsAll s.heap us' ds as ∧ sysModules ∉ as)
  | [], _, _, _, _, .nil, .nil, .nil => ⟨fun n _ j h => absurd h (by simp), ⟨[], .nil, fun h => by cases h⟩, ⟨[], .nil, fun h => by cases h⟩⟩
  | d :: ds, _, _, _, _, .cons h t, .cons r rs, .cons r' rs' => by
    obtain ⟨e, ⟨as, ra, na⟩, ⟨as', ra', na'⟩⟩ := Tw.ok I hk d _ _ _ _ h r r'
    obtain ⟨es, ⟨bs, rb, nb⟩, ⟨bs', rb', nb'⟩⟩ := TwAll.ok I hk ds _ _ _ _ t rs rs'
    refine ⟨fun n hn j h1 h2 => ?_, ⟨_, .cons ra rb, fun h => ?_⟩, ⟨_, .cons ra' rb', fun h => ?_⟩⟩
    · have dep : PyData.depthAll (d :: ds) = max d.depth (PyData.depthAll ds) := by simp only [PyData.depthAll]
      rw [dep] at hn
      cases j with
      | zero => exact e n (by omega)
      | succ j => exact es n (by omega) j (by simpa using h1) (by simpa using h2)
    · rcases List.mem_append.mp h with z | z
      · exact na z
      · exact nb z
    · rcases List.mem_append.mp h with z | z
      · exact na' z
      · exact nb' z
end
end
/-! ### the rules -/
/-- twins are equal -/
def rEqT (K : PySem.W.Frag) : R2 := fun x y H Q => ∃ (a b : Addr) (d : PyData), x = .ref a ∧ y = .ref b ∧ a ≠ b ∧ Tw K H x y d ∧ d.depth ≤ 60 ∧ Q (.bl true) H
theorem op_eqT {X : Cx} (hk : SysB X.base) (hu : X.A.units + 64 < cLine) : OpR X (compareOp .Eq) (rEqT X.K) := by
  intro pins s σ H x y v u Q I rx ry h
  obtain ⟨a, b, d, rfl, rfl, ne, t, dep, q⟩ := h
  cases (show v = Value.ref a from rx)
  cases (show u = Value.ref b from ry)
  cases t with
  | same _ => exact absurd rfl ne
  | @lst _ _ xs ys ds _ ha hb t =>
    obtain ⟨its, rv, ⟨o, n, ho, hc, hd0, hd⟩, z⟩ := I.list ha
    obtain ⟨its', rv', ⟨o', n', ho', hc', hd0', hd'⟩, z'⟩ := I.list hb
    obtain ⟨e, _, _⟩ := TwAll.ok I hk ds _ _ its its' t rv rv'
    have l := t.len
    rw [rv.length, rv'.length] at l
    have dd : (PyData.list ds).depth = PyData.depthAll ds + 1 := by simp only [PyData.depth]
    rw [dd] at dep
    refine PySem.W.eq_listsT (n := PyData.depthAll ds) (e := fun _ => true) (vs := its.toArray) (vs' := its'.toArray) ⟨o, ho, hc, _, hd⟩ ⟨o', ho', hc', _, hd'⟩ (by simpa using l) (fun j h1 h2 => by
        have q := e _ (Nat.le_refl _) j (by simpa using h1) (by simpa using h2)
        simpa using q) (by omega) ?_
    have tr : (List.range its.toArray.size).all (fun _ => true) = true := by simp
    rw [tr]
    exact ⟨.bl true, H, I, rfl, q⟩
theorem op_eqTk {X : Cx} {K : PySem.W.Frag} (hk : SysB X.base) (hu : X.A.units + 64 < cLine) (h : X.K = K := by rfl) : OpR X (compareOp .Eq) (rEqT K) := by subst h; exact op_eqT hk hu
/-- repr of one of a pair -/
def rReprT (K : PySem.W.Frag) : List V → Hp → VK → Prop := fun xs H Q => ∃ (a : Addr) (x y : V) (d : PyData), xs = [.ref a] ∧ Tw K H x y d ∧ (x = .ref a ∨ y = .ref a) ∧ d.showable = true ∧ d.depth ≤ 60 ∧ d.shown.length ≤ sizeLine ∧ Q (.str d.shown) H
theorem call_reprT {X : Cx} (hk : SysB X.base) (hG : X.A.guards = some []) (hu : X.A.units + 64 < cLine) : CallR X (.builtin "repr") (rReprT X.K) := by
  intro pins s σ H xs us Q I r h
  obtain ⟨a, x, y, d, rfl, t, w, sh, dep, sz, q⟩ := h
  cases r with
  | cons r1 rn =>
    rename_i u us'
    cases rn
    cases (show u = Value.ref a from r1)
    have key : ∃ as, Reads s.heap (.ref a) d as ∧ sysModules ∉ as := by
      cases t with
      | same h => exact Dr.reads2 I hk h (by rcases w with e | e <;> rw [e] <;> rfl)
      | @lst a1 b1 xs ys ds ne ha hb t =>
        have z := Tw.ok I hk _ _ _ (.ref a1) (.ref b1) (Tw.lst ne ha hb t) rfl rfl
        rcases w with e | e <;> cases e
        · exact z.rd
        · exact z.rd'
    obtain ⟨as, rd, hn⟩ := key
    exact repr_of_reads' rd sh (fun _ => hn) hG (by omega) (fun _ _ z => z) (fun h' tk tk' hq => ⟨.str d.shown, H, I.kept hq, ⟨tk, rfl⟩, q⟩) sz
theorem call_reprTk {X : Cx} {K : PySem.W.Frag} (hk : SysB X.base) (hG : X.A.guards = some []) (hu : X.A.units + 64 < cLine) (h : X.K = K := by rfl) : CallR X (.builtin "repr") (rReprT K) := by subst h; exact call_reprT hk hG hu
/-! ### the law's end, with the module table -/
theorem sys_of {h : Heap} (z : h.NoSeer) : SysB h := by
  obtain ⟨mm, hn, _⟩ := z.mods
  exact ⟨mm, hn⟩
/-- the law is called with the script: T the promise, at the heap behind the top -/
theorem law_callG2 {P : Program} {w : World} {K : PySem.W.Frag} {mg mb : Str → Option Value} {k : Nat} {fa a : Addr} {fd : FuncData} {x : Str} {sp : Sp} {st : Shared} {vs : List Value} {ns : List Int}
    (KX : K.In st.heap) (hns : st.heap.Ns mainGlobals mg) (hb : st.heap.Ns builtinsNs mb) (hbb : ∀ y : Str, y ≠ "__name__" → mb y = bootBuiltins y) (hlim : st.heap.NoLimit) (hgen : st.gens = #[])
    (ha : st.heap.get? a = some { cls := .type "list", data := .seq vs.toArray }) (hi : IntsAre vs ns) (hl : ns.length ≤ sizeLine) (room : Room k callerA)
    (hsy : SysB st.heap) (F : ∀ base : Heap, K.In base → base.Ns mainGlobals mg → SysB base → FnG P w K mg base CX0 k fa fd [x] sp) (bind : ∀ (s : Shared) (u : Value), BindsTo s fd ⟨[u], []⟩ [(x, u)])
    (want : ∀ H : Hp, Only H → SqL K H a (ns.map V.int) → sp [.ref a] H (fun v _ => v = .bl true) (fun _ _ _ => False)) :
    codeAny (model P w) callerA (.call (.ref fa) ⟨[.ref a], []⟩) (fun r s' => r = .ok (.ret (.bool true)) ∧ OldK st.heap s'.heap ∧ s'.os = st.os ∧ AllBare s'.gens) st := by
  have rel := vals_ints hi
  have size := hi.length
  suffices core : ∀ H : Hp, Only H → SqL K H a (ns.map V.int) → HOk P w H st.heap → (∀ c, H c ≠ none → c = a) → (H a ≠ none → K.lookup a = none) →
      codeAny (model P w) callerA (.call (.ref fa) ⟨[.ref a], []⟩) (fun r s' => r = .ok (.ret (.bool true)) ∧ OldK st.heap s'.heap ∧ s'.os = st.os ∧ AllBare s'.gens) st by
    by_cases hk : ∃ o, K.lookup a = some o
    · obtain ⟨o, hk⟩ := hk
      have same := (KX a o hk).symm.trans ha
      cases same
      refine core (fun _ => none) (fun _ => Or.inl rfl) (Or.inr ⟨_, vs.toArray, _, hk, rfl, rfl, rfl, ?_, ?_⟩) (fun c o z => absurd (show (none : Option HO) = some o from z) (by simp)) (fun c z => absurd rfl z) (fun z => absurd rfl z)
      · rw [List.size_toArray, size]
        exact hl
      · simpa using rel
    · have hk' : K.lookup a = none := by
        cases e : K.lookup a with
        | none => rfl
        | some o => exact absurd ⟨o, e⟩ hk
      refine core (fun c => if c = a then some (.frz { cls := .type "list", data := .seq vs.toArray } (.lst (ns.map V.int))) else none) (fun c => ?_) (Or.inl (Or.inr ⟨{ cls := .type "list", data := .seq vs.toArray }, if_pos rfl⟩)) (fun c o z => ?_) (fun c z => ?_) (fun _ => hk')
      · by_cases e : c = a
        · exact Or.inr ⟨_, _, if_pos e⟩
        · exact Or.inl (if_neg e)
      · by_cases e : c = a
        · have z2 := (if_pos e).symm.trans z
          cases z2
          rw [e]
          exact ⟨ha, by rw [List.length_map]; exact hl, vs, _, rel, ha⟩
        · have z2 := (if_neg e).symm.trans z
          cases z2
      · by_cases e : c = a
        · exact e
        · exact absurd (if_neg e) z
  intro H only script ok hA hK
  have keepB : ∀ {c : Addr} {o : Obj}, st.heap.get? c = some o → H c = none → (hidT st.heap H).get? c = some o := fun e n => hidT_get e n
  have noD : ∀ {c : Addr} {o : Obj} {es : Array DictEntry} {ep : Nat}, st.heap.get? c = some o → o.data = .dict es ep → H c = none := by
    intro c o es ep e d
    by_cases z : H c = none
    · exact z
    · have ec := hA c z
      subst ec
      rw [ha] at e
      cases e
      have d2 : Data.seq vs.toArray _ = Data.dict es ep := d
      cases d2
  have ns2 : ∀ {c : Addr} {m : Str → Option Value}, st.heap.Ns c m → (hidT st.heap H).Ns c m := by
    intro c m q
    obtain ⟨o, es, ep, e, d, r⟩ := q
    exact ⟨o, es, ep, keepB e (noD e d), d, r⟩
  have inB : K.In (hidT st.heap H) := by
    intro c o e
    refine keepB (KX c o e) ?_
    by_cases z : H c = none
    · exact z
    · have ec := hA c z
      subst ec
      have no := hK z
      rw [no] at e
      cases e
  obtain ⟨mc, lim1, lim2⟩ := hlim
  have modB : Mod K mg (hidT st.heap H) := ⟨inB, ns2 hns, ⟨mb, ns2 hb, hbb⟩, ⟨mc, ns2 lim1, lim2⟩⟩
  have env : Env0 P w K mg (hidT st.heap H) callerA [] st H := ⟨rfl, modB, fun c o e => of_hidT e, Nat.le_of_eq (hidT_size _ _), trivial, (fun c hc => absurd (show c ∈ ([] : List Addr) from hc) (by simp)), ok, .of_eq hgen⟩
  refine codeAny_mono ((F _ inB (ns2 hns) (let ⟨mm, z⟩ := hsy; ⟨mm, ns2 z⟩)).go callerA [] st H ⟨[.ref a], []⟩ [.ref a] [.ref a] _ _ caller_guards room env (bind st (.ref a)) (.cons rfl .nil) (want H only script)) (fun r s' h => ?_)
  match r, h with
  | .error e, h => exact h.elim
  | .ok .next, h => exact h.elim
  | .ok .brk, h => exact h.elim
  | .ok .cont, h => exact h.elim
  | .ok (.ret u), h =>
    obtain ⟨v, H', os, bare, un, ok', rv, q⟩ := h
    cases (show v = V.bl true from q)
    cases (show u = Value.bool true from rv)
    refine ⟨rfl, OldK.of_keep (fun c o e => ?_), os, bare⟩
    cases q2 : H c with
    | none => exact un.keep c o e q2 (fun z => by cases z) (fun z => by cases z)
    | some u =>
      rcases only c with z | ⟨ob, xs, z⟩
      · exact absurd (q2.symm.trans z) (by simp)
      · have fz := un.frzs c ob _ z
        have here := (ok c _ z).1
        have there := (ok' c _ fz).1
        rw [e] at here
        cases here
        exact there
/-- the goal that the head leaves -/
theorem walkG2 {l : PySem.W.OpenLaw} {n k : Nat} {q : Program} {loose : List Str} {XP : (Str → Option Value) → Heap → Prop} {YP : World → Heap → Prop} {d : DefRec} {K : Params → PySem.W.Frag} {sp : PySem.W.Frag → Sp} {x : Str}
    (hi : PyProof.Rows.importsNone q = true) (hn : l.most = some n) (hn2 : n ≤ sizeLine) (hdf : d.params.defaults = []) (room : Room k callerA) (hY : ∀ (w : World) (h : Heap), YP w h → (K w.params).In h)
    (F : ∀ (w : World) (mg : Str → Option Value) (fa : Addr) (h : Heap), (K w.params).In h → h.Ns mainGlobals mg → mg d.name = some (.ref fa) →
      ∃ fd : FuncData, (∀ (s : Shared) (u : Value), BindsTo s fd ⟨[u], []⟩ [(x, u)]) ∧ ∀ base : Heap, (K w.params).In base → base.Ns mainGlobals mg → SysB base → FnG l.prog w (K w.params) mg base CX0 k fa fd [x] (sp (K w.params)))
    (want : ∀ (K : PySem.W.Frag) (H : Hp) (a : Addr) (ns : List Int), ns.length ≤ n → Only H → SqL K H a (ns.map V.int) → sp K [.ref a] H (fun v _ => v = .bl true) (fun _ _ _ => False)) :
    PySem.W.WalkO q loose XP YP l.row.toRowW d [] (fun f vs => PySem.call f vs) := by
  refine Att.attach_call hn hdf (fun w s₀ st mg mb fa o pm cd doc a vs ns G Y ho hd hcd hmg hobj hints hlen hg => ?_)
  have KX := hY w _ Y
  obtain ⟨fd, bnd, ok⟩ := F w mg fa _ KX G.T.g hmg
  exact law_callG2 KX G.T.g G.T.b G.T.builtins G.T.nolimit hg hobj hints (Nat.le_trans hlen hn2) room (sys_of (G.T.seer hi)) ok bnd (fun H only hs => want (K w.params) H a ns hlen only hs)
end VL

namespace K11
open PySem PySem.Spec PyProof.Rows L2 VL
def topS (i : Nat) : Stmt := PySem.Challenge.pw_landedback_k11_errors_kept.main.body.getD i (.Pass ⟨0, 0, 0, 0⟩)
abbrev s_law_bag : Stmt := topS 24
abbrev s_law_take : Stmt := topS 25
abbrev s_law_alike : Stmt := topS 26
abbrev s_law_thing : Stmt := topS 27
abbrev s_law_errors : Stmt := topS 28
abbrev s_law_kinds : Stmt := topS 29
abbrev s_law_fields : Stmt := topS 30
abbrev s_law : Stmt := topS 31
theorem sc_law_bag : FnScope ["_law_script", "_law_cell"] ["_law_script"] (defScope s_law_bag) :=
  ⟨rfl, rfl, rfl, by decide +kernel, rfl, by decide +kernel, by decide +kernel⟩
theorem sc_law_take : FnScope ["_law_bag_here", "_law_many", "_law_cell", "_law_more", "_law_drawn", "_law_first", "_law_second"] ["_law_bag_here", "_law_many"] (defScope s_law_take) :=
  ⟨rfl, rfl, rfl, by decide +kernel, rfl, by decide +kernel, by decide +kernel⟩
theorem sc_law_alike : FnScope ["_law_found", "_law_due"] ["_law_found", "_law_due"] (defScope s_law_alike) :=
  ⟨rfl, rfl, rfl, by decide +kernel, rfl, by decide +kernel, by decide +kernel⟩
theorem sc_law_thing : FnScope ["_law_bag_here", "_law_some"] ["_law_bag_here"] (defScope s_law_thing) :=
  ⟨rfl, rfl, rfl, by decide +kernel, rfl, by decide +kernel, by decide +kernel⟩
theorem sc_law_errors : FnScope ["_law_a", "_law_b", "_law_c", "_law_found"] ["_law_a", "_law_b", "_law_c"] (defScope s_law_errors) :=
  ⟨rfl, rfl, rfl, by decide +kernel, rfl, by decide +kernel, by decide +kernel⟩
theorem sc_law_kinds : FnScope ["_law_e", "_law_found"] ["_law_e"] (defScope s_law_kinds) :=
  ⟨rfl, rfl, rfl, by decide +kernel, rfl, by decide +kernel, by decide +kernel⟩
theorem sc_law_fields : FnScope ["_law_some", "_law_first", "_law_second"] ["_law_some"] (defScope s_law_fields) :=
  ⟨rfl, rfl, rfl, by decide +kernel, rfl, by decide +kernel, by decide +kernel⟩
theorem sc_law : FnScope ["_law_script", "_law_bag_here", "_law_turn", "_law_things", "_law_some", "_law_thing_here", "_law_at", "_law_e", "_law_k"] ["_law_script"] (defScope s_law) :=
  ⟨rfl, rfl, rfl, by decide +kernel, rfl, by decide +kernel, by decide +kernel⟩
/-! ### the bag: draws -/
/-- the bag at b: what is left of a great number, the state, the number of the next cell, the cells -/
def Bag (H : Hp) (b cl : Addr) : Prop := ∃ (c st n : Int) (ns : List Int), H b = some (.lst [.int c, .int st, .int n, .ref cl]) ∧ H cl = some (.lst (ns.map V.int)) ∧ cl ≠ b ∧ 0 ≤ n ∧ ns.length ≤ 63
/-- take(bag, many): a number below many; the bag alone is changed -/
def spTake : Sp := fun vs H Q _ => ∃ (b cl : Addr) (m : Int), vs = [.ref b, .int m] ∧ Bag H b cl ∧ 0 < m ∧ m < 2 ^ 60 ∧
  ∀ (r : Int) (H' : Hp), 0 ≤ r → r < m → Bag H' b cl → (∀ a, a ≠ b → H' a = H a) → Q (.int r) H'
/-- bag(script): a new bag, all else as it was -/
def spBag (K : PySem.W.Frag) : Sp := fun vs H Q _ => ∃ (a : Addr) (ns : List Int), vs = [.ref a] ∧ SqL K H a (ns.map V.int) ∧ ns.length ≤ 63 ∧
  ∀ (b cl : Addr) (H' : Hp), Bag H' b cl → Same H H' → Q (.ref b) H'
section
variable {P : Program} {w : World} {K : PySem.W.Frag} {mg : Str → Option Value} {base : Heap}
theorem ok_take {f : Addr} {fd : FuncData} (F : Fun K "_law_take" "_law_take" s_law_take f fd) (m_len : mg "len" = none) (m_int : mg "int" = none) : FnOk P w K mg base CX0 1 f fd ["_law_bag_here", "_law_many"] spTake := by
  refine F.ok sc_law_take (fun vs H Q E h => ?_) (fun cdv A outer s H vs Q E hr h => ?_)
  · obtain ⟨b, cl, m, rfl, _⟩ := h
    rfl
  obtain ⟨b, cl, m, rfl, ⟨c, st, n, ns, hb, hc, ne, h0, h63⟩, hm0, hm1, q⟩ := h
  have hu := hu_of hr
  have hu64 := hr.units
  refine ⟨_, (C8.pss_cut (ps_if (pt_cmpR (op_eqk (K := K) hu64) (pe_ix (ix_k (K := K) hu) (pv 0) pe_int (fun _ _ => rfl)) pe_int (nomark _)) (pss_cons (ps_set (i := 2) sc_law_take.nd rfl (.inl rfl) pe_int) (C8.pss_cut (ps_if (pt_cmpR op_ltU (pe_ix (ix_k (K := K) hu) (pv 0) pe_int (fun _ _ => rfl)) (pe_callB (call_lenk (K := K)) (by rfl) m_len PySem.boot_len (pa_cons (pe_ix (ix_k (K := K) hu) (pv 0) pe_int (fun _ _ => rfl)) pa_nil)) (nomark _)) (pss_one (ps_set (i := 2) sc_law_take.nd rfl (.inl rfl) (pe_ix (ix_k (K := K) hu) (pe_ix (ix_k (K := K) hu) (pv 0) pe_int (fun _ _ => rfl)) (pe_ix (ix_k (K := K) hu) (pv 0) pe_int (fun _ _ => rfl)) (fun _ _ => rfl)))) pss_nil) (pss_cons (ps_augS (pv 0) pe_int (get_U hu) pe_int ip_add set_list) (C8.pss_cut (ps_if (pt_cmpR op_geU (pv 2) pe_int (nomark _)) (pss_one (ps_asg (pv 2) (pg_sub (pv 0) pe_int set_list))) pss_nil) (pss_cons (ps_set (i := 3) sc_law_take.nd rfl (.inl rfl) (pe_op (op_addk (K := K)) (pe_op op_mod (pe_callTy call_intU (by rfl) m_int (by decide +kernel) (pa_cons (pv 2) pa_nil)) pe_int) (pe_op op_mulU pe_int (pe_ix (ix_k (K := K) hu) (pv 0) pe_int (fun _ _ => rfl))))) (pss_one (ps_asg (pe_op op_mod (pe_callTy call_intU (by rfl) m_int (by decide +kernel) (pa_cons (pe_op (op_addk (K := K)) (pe_op op_mulU (pe_ix (ix_k (K := K) hu) (pv 0) pe_int (fun _ _ => rfl)) pe_int) (pv 3)) pa_nil)) pe_int) (pg_sub (pv 0) pe_int set_list)))))))) pss_nil) (pss_cons (ps_if (pt_cmpR op_gtU (pe_ix (ix_k (K := K) hu) (pv 0) pe_int (fun _ _ => rfl)) pe_int (nomark _)) (pss_cons (ps_set (i := 4) sc_law_take.nd rfl (.inl rfl) (pe_op op_mod (pe_callTy call_intU (by rfl) m_int (by decide +kernel) (pa_cons (pe_ix (ix_k (K := K) hu) (pv 0) pe_int (fun _ _ => rfl)) pa_nil)) (pv 1))) (pss_cons (ps_asg (pe_op op_fdivW (pe_ix (ix_k (K := K) hu) (pv 0) pe_int (fun _ _ => rfl)) (pv 1)) (pg_sub (pv 0) pe_int set_list)) (pss_one (ps_ret (pv 4))))) pss_nil) (pss_cons (ps_set (i := 5) sc_law_take.nd rfl (.inl rfl) (pe_op op_mod (pe_callTy call_intU (by rfl) m_int (by decide +kernel) (pa_cons (pe_op op_mulU (pe_op (op_addk (K := K)) (pe_ix (ix_k (K := K) hu) (pv 0) pe_int (fun _ _ => rfl)) pe_int) pe_int) pa_nil)) pe_int)) (pss_cons (ps_set (i := 6) sc_law_take.nd rfl (.inl rfl) (pe_op op_mod (pe_callTy call_intU (by rfl) m_int (by decide +kernel) (pa_cons (pe_op op_mulU (pe_op op_mod (pe_callTy call_intU (by rfl) m_int (by decide +kernel) (pa_cons (pe_op op_mulU (pv 5) (pv 5)) pa_nil)) pe_int) pe_int) pa_nil)) pe_int)) (pss_cons (ps_if (pt_cmpR op_gtU (pv 1) pe_int (nomark _)) (pss_one (ps_ret (pe_op op_mod (pe_callTy call_intU (by rfl) m_int (by decide +kernel) (pa_cons (pe_op (op_addk (K := K)) (pe_op op_mulU (pv 6) pe_int) (pv 5)) pa_nil)) (pv 1)))) pss_nil) (pss_one (ps_ret (pe_op op_mod (pe_callTy call_intU (by rfl) m_int (by decide +kernel) (pa_cons (pe_op op_fdivW (pv 6) pe_int) pa_nil)) (pv 1))))))))), ?_⟩
  refine ⟨fun σ H1 => ∃ (c st n : Int) (cell more : Option V), σ = [some (.ref b), some (.int m), cell, more, none, none, none] ∧ H1 b = some (.lst [.int c, .int st, .int n, .ref cl]) ∧ H1 cl = some (.lst (ns.map V.int)) ∧ 0 ≤ n ∧ (∀ a, a ≠ b → H1 a = H a), ?_, ?_⟩
  · -- a new cell is read, if nothing is left
    refine ⟨_, rfl, Or.inl ⟨_, _, _, _, rfl, rfl, SqL.of hb, rfl, Or.inl ⟨rfl, _, rfl, ?_⟩⟩⟩
    refine ite2 (fun _ => ?_) (fun _ => ?_)
    · refine ⟨fun σ H1 => H1 = H ∧ ∃ v : Int, σ = [some (.ref b), some (.int m), some (.int v), none, none, none, none], ?_, ?_⟩
      · refine ⟨_, rfl, Or.inl ⟨_, _, _, _, rfl, rfl, SqL.of hb, rfl, _, rfl, Or.inl ⟨_, _, _, _, rfl, rfl, SqL.of hb, rfl, Or.inl ⟨_, _, rfl, Or.inl (SqL.of hc), Or.inl ⟨_, _, rfl, rfl, _, rfl, ?_⟩⟩⟩⟩⟩
        refine ite2 (fun lt => ?_) (fun _ => ⟨rfl, 0, rfl⟩)
        have lt' : n < ((ns.map V.int).length : Int) := of_decide_eq_true lt
        rw [List.length_map] at lt'
        have at_ : atI (ns.map V.int) n = some (.int (ns[n.toNat]'(by omega))) := by
          have z := atI_nat (xs := ns.map V.int) (j := n.toNat) (v := .int (ns[n.toNat]'(by omega))) (by rw [List.getElem?_map, List.getElem?_eq_getElem (by omega)]; rfl)
          rwa [Int.toNat_of_nonneg h0] at z
        refine ⟨_, rfl, Or.inl ⟨_, _, _, _, rfl, rfl, SqL.of hb, rfl, _, rfl, Or.inl ⟨_, _, _, _, rfl, rfl, SqL.of hb, rfl, Or.inl ⟨_, _, _, _, rfl, rfl, SqL.of hc, at_, ?_⟩⟩⟩⟩
        exact ⟨rfl, _, rfl⟩
      · rintro σ H1 ⟨rfl, v, rfl⟩
        refine ⟨_, rfl, _, _, _, _, rfl, rfl, SqL.of hb, by decide, rfl, _, _, rfl, rfl, _, _, _, _, rfl, rfl, hb, rfl, ?_⟩
        have hb1 : (upd H1 b (.lst [.int c, .int st, .int (n + 1), .ref cl])) b = _ := upd_same
        have hc1 : (upd H1 b (.lst [.int c, .int st, .int (n + 1), .ref cl])) cl = _ := (upd_ne ne).trans hc
        refine ⟨fun σ H2 => ∃ c' : Int, σ = [some (.ref b), some (.int m), some (.int v), none, none, none, none] ∧ H2 = upd H1 b (.lst [.int c', .int st, .int (n + 1), .ref cl]), ?_, ?_⟩
        · refine ⟨_, rfl, Or.inl ⟨_, _, rfl, rfl, _, rfl, ?_⟩⟩
          refine ite2 (fun _ => ?_) (fun _ => ⟨c, rfl, rfl⟩)
          refine ⟨_, rfl, _, rfl, _, _, _, _, rfl, rfl, hb1, rfl, v, rfl, ?_⟩
          exact upd_upd
        · rintro σ H2 ⟨c', rfl, rfl⟩
          have hb2 : (upd H1 b (.lst [.int c', .int st, .int (n + 1), .ref cl])) b = _ := upd_same
          have hc2 : (upd H1 b (.lst [.int c', .int st, .int (n + 1), .ref cl])) cl = _ := (upd_ne ne).trans hc
          refine ⟨_, rfl, Or.inl ⟨_, rfl, _, _, rfl, rfl, (by show (0 : Int) < _; decide), _, rfl, Or.inl ⟨_, _, _, _, rfl, rfl, SqL.of hb2, rfl, Or.inl ⟨_, _, rfl, rfl, Or.inl (by decide), Or.inl ⟨_, _, rfl, rfl, ?_⟩⟩⟩⟩⟩
          refine ⟨_, rfl, Or.inl ⟨_, _, _, _, rfl, rfl, SqL.of hb2, rfl, Or.inl ⟨_, _, rfl, rfl, Or.inr (by decide), _, rfl, Or.inl ⟨_, _, rfl, rfl, Or.inl ⟨_, rfl, _, _, rfl, rfl, (by show (0 : Int) < _; decide), _, rfl, _, _, _, _, rfl, rfl, hb2, rfl, ?_⟩⟩⟩⟩⟩
          refine ⟨c', _, n + 1, _, _, rfl, upd_same, (upd_ne ne).trans hc2, by omega, fun a ha => ?_⟩
          rw [upd_ne ha, upd_ne ha]
    · exact ⟨c, st, n, none, none, rfl, hb, hc, h0, fun _ _ => rfl⟩
  · -- the draw
    rintro σ H1 ⟨c, st, n, cell, more, rfl, hb, hc, h0, hH⟩
    refine ⟨_, rfl, Or.inl ⟨_, _, _, _, rfl, rfl, SqL.of hb, rfl, Or.inl ⟨_, _, rfl, rfl, _, rfl, ?_⟩⟩⟩
    refine ite2 (fun _ => ?_) (fun _ => ?_)
    · refine ⟨_, rfl, Or.inl ⟨_, _, _, _, rfl, rfl, SqL.of hb, rfl, Or.inl ⟨_, rfl, _, rfl, _, _, rfl, rfl, hm0, ?_⟩⟩⟩
      refine ⟨_, rfl, Or.inl ⟨_, _, _, _, rfl, rfl, SqL.of hb, rfl, _, rfl, _, _, rfl, rfl, wide_div hm0 (b := 60) (by omega) (by decide) (by decide), _, rfl, _, _, _, _, rfl, rfl, hb, rfl, ?_⟩⟩
      refine ⟨_, rfl, ?_⟩
      refine q _ _ (Int.emod_nonneg _ (by omega)) (Int.emod_lt_of_pos _ hm0) ⟨c / m, st, n, ns, upd_same, (upd_ne ne).trans hc, ne, h0, h63⟩ (fun a ha => ?_)
      rw [upd_ne ha]
      exact hH a ha
    · have fin : ∀ r : Int, 0 ≤ r → r < m → Q (.int r) H1 := fun r r0 r1 => q r H1 r0 r1 ⟨c, st, n, ns, hb, hc, ne, h0, h63⟩ hH
      refine ⟨_, rfl, Or.inl ⟨_, _, _, _, rfl, rfl, SqL.of hb, rfl, Or.inl ⟨_, _, rfl, rfl, Or.inl ⟨_, _, rfl, rfl, Or.inr (by decide), Or.inl ⟨_, rfl, _, _, rfl, rfl, (by show (0 : Int) < _; decide), ?_⟩⟩⟩⟩⟩
      have f0 : 0 ≤ (st + 1) * 39373 % 1000000007 := Int.emod_nonneg _ (by decide)
      have f1 : (st + 1) * 39373 % 1000000007 < 1000000007 := Int.emod_lt_of_pos _ (by decide)
      refine ⟨_, rfl, _, rfl, Or.inl ⟨_, _, rfl, rfl, Or.inl ⟨by omega, by omega⟩, Or.inl ⟨_, rfl, _, _, rfl, rfl, (by show (0 : Int) < _; decide), Or.inl ⟨_, _, rfl, rfl, Or.inr (by decide), Or.inl ⟨_, rfl, _, _, rfl, rfl, (by show (0 : Int) < _; decide), ?_⟩⟩⟩⟩⟩
      refine ⟨_, rfl, Or.inl ⟨_, _, rfl, rfl, _, rfl, ?_⟩⟩
      refine ite2 (fun _ => ?_) (fun _ => ?_)
      · refine ⟨_, rfl, Or.inl ⟨_, _, rfl, rfl, Or.inr (by decide), _, rfl, Or.inl ⟨_, _, rfl, rfl, Or.inl ⟨_, rfl, _, rfl, _, _, rfl, rfl, hm0, ?_⟩⟩⟩⟩
        exact fin _ (Int.emod_nonneg _ (by omega)) (Int.emod_lt_of_pos _ hm0)
      · refine ⟨_, rfl, _, _, rfl, rfl, ⟨by decide, by decide⟩, Or.inl ⟨_, rfl, _, rfl, _, _, rfl, rfl, hm0, ?_⟩⟩
        exact fin _ (Int.emod_nonneg _ (by omega)) (Int.emod_lt_of_pos _ hm0)
end
theorem cut_ints (ns : List Int) (lo hi : Option Int) : ∃ ms : List Int, cutV (ns.map V.int) lo hi = ms.map V.int ∧ ms.length ≤ ns.length := by
  unfold cutV
  rw [← List.map_drop, ← List.map_take]
  exact ⟨_, rfl, by rw [List.length_take, List.length_drop]; omega⟩
section
variable {P : Program} {w : World} {K : PySem.W.Frag} {mg : Str → Option Value} {base : Heap}
theorem ok_bag {f : Addr} {fd : FuncData} (F : Fun K "_law_bag" "_law_bag" s_law_bag f fd) (m_abs : mg "abs" = none) : FnOk P w K mg base CX0 1 f fd ["_law_script"] (spBag K) := by
  refine F.ok sc_law_bag (fun vs H Q E h => ?_) (fun cdv A outer s H vs Q E hr h => ?_)
  · obtain ⟨a, ns, rfl, _⟩ := h
    rfl
  obtain ⟨a, ns, rfl, hS, h63, q⟩ := h
  refine ⟨_, (pss_one (ps_ret (pe_lst (pa_cons pe_int (pa_cons pe_int (pa_cons pe_int (pa_cons (pe_lc (own := [("_law_cell", 1)]) (g := gName 1) (tt := tYes) rfl sc_law_bag.nd (pi_listk (K := K) (pe_slice (sl_k (K := K)) (pv 0) po_none (po_some pe_int))) (blkOk_by (own := [("_law_cell", 1)]) (N := ["_law_script", "_law_cell"]) (sc := defScope s_law_bag) (by decide +kernel)) (fun _ _ _ _ _ => (pg_name (i := 1) sc_law_bag.nd rfl (.inl rfl))) (fun _ _ _ _ _ => pts_nil) (fun _ _ _ _ _ => (pe_callB call_abs (by rfl) m_abs (by decide +kernel) (pa_cons (pv 1) pa_nil)))) pa_nil))))))), ?_⟩
  obtain ⟨ms, em, lm⟩ := cut_ints ns none (some 63)
  refine ⟨_, rfl, _, rfl, Or.inl ⟨_, _, rfl, hS, fun p hp => ?_⟩⟩
  rw [em]
  refine ⟨_, rfl, ⟨_, SqL.of upd_same⟩, fun D hD => lc_list (K := K) (a := p) (xs := ms.map V.int) (fun i G => ∃ acc : List Int, acc.length = i ∧ G D = some (.lst (acc.map V.int)) ∧ G p = some (.lst (ms.map V.int)) ∧ Same H G) ?_ ?_ ?_ ?_⟩
  · have hpD : p ≠ D := ne_of_none upd_same hD
    exact ⟨[], rfl, upd_same, (upd_ne hpD).trans upd_same, (same_new hp).trans (same_new hD)⟩
  · rintro i G _ ⟨acc, _, _, hG, _⟩
    exact SqL.of hG
  · rintro i x G hx ⟨acc, la, hacc, hG, sm⟩
    have li : i < ms.length := by
      have z := (List.getElem?_eq_some_iff.mp hx).1
      rwa [List.length_map] at z
    obtain ⟨y, hy⟩ : ∃ y : Int, x = .int y := by
      rw [List.getElem?_map, List.getElem?_eq_getElem li] at hx
      exact ⟨_, (Option.some.inj hx).symm⟩
    subst hy
    refine ⟨rfl, ?_⟩
    refine ⟨_, rfl, _, rfl, acc.map V.int, hacc, by rw [List.length_map]; exact small1000 (by omega), ?_⟩
    refine ⟨acc ++ [if y < 0 then -y else y], by rw [List.length_append, la]; rfl, ?_, ?_, ?_⟩
    · rw [upd_same, List.map_append]
      rfl
    · by_cases e : p = D
      · exfalso
        have hpD : p ≠ D := ne_of_none upd_same hD
        exact hpD e
      · exact (upd_ne e).trans hG
    · intro c o hc
      have nD : c ≠ D := ne_of_none (o := o) (by rw [upd_ne (ne_of_none hc hp)]; exact hc) hD
      rw [upd_ne nD]
      exact sm c o hc
  · rintro G ⟨acc, la, hacc, hG, sm⟩
    rw [List.length_map] at la
    refine ⟨(by show 4 ≤ sizeLine; decide), fun b hb => ?_⟩
    have ne : D ≠ b := ne_of_none hacc hb
    exact q b D _ ⟨0, 1234567891, 0, acc, upd_same, (upd_ne ne).trans hacc, ne, by decide, by omega⟩ (sm.trans (same_new hb))
end

/-- the bag stands, and all that was tracked in H but the bag -/
def BagK (b cl : Addr) (H G : Hp) : Prop := Bag G b cl ∧ Keeps (fun a => a = b) H G
theorem Bag.tracked {H : Hp} {b cl p : Addr} (h : Bag H b cl) (n : H p = none) : p ≠ b ∧ p ≠ cl := by
  obtain ⟨c, st, n', ns, hb, hc, _⟩ := h
  exact ⟨(ne_of_none hb n).symm, (ne_of_none hc n).symm⟩
theorem Bag.upd {G : Hp} {b cl p : Addr} {o : HO} (h : Bag G b cl) (n1 : p ≠ b) (n2 : p ≠ cl) : Bag (L2.upd G p o) b cl := by
  obtain ⟨c, st, n', ns, hb, hc, r⟩ := h
  exact ⟨c, st, n', ns, (upd_ne n1.symm).trans hb, (upd_ne n2.symm).trans hc, r⟩
theorem Bag.new {G : Hp} {b cl p : Addr} {o : HO} (h : Bag G b cl) (n : G p = none) : Bag (L2.upd G p o) b cl := h.upd (h.tracked n).1 (h.tracked n).2
theorem BagK.refl {b cl : Addr} {H : Hp} (h : Bag H b cl) : BagK b cl H H := ⟨h, Keeps.refl⟩
theorem BagK.new {b cl p : Addr} {H G : Hp} {o : HO} (h : BagK b cl H G) (n : G p = none) : BagK b cl H (L2.upd G p o) := ⟨h.1.new n, h.2.trans (Keeps.new n)⟩
/-- an object that H does not know is put -/
theorem BagK.put {b cl p : Addr} {H G : Hp} {o : HO} (h : BagK b cl H G) (k : Bag H b cl) (n : H p = none) : BagK b cl H (L2.upd G p o) := ⟨h.1.upd (k.tracked n).1 (k.tracked n).2, h.2.updN n⟩
theorem BagK.take {b cl : Addr} {H G G' : Hp} (h : BagK b cl H G) (k : Bag G' b cl) (only : ∀ a, a ≠ b → G' a = G a) : BagK b cl H G' := ⟨k, h.2.trans fun a o n q => (only a n).trans q⟩
theorem BagK.trans {b cl : Addr} {H G G' : Hp} (h : BagK b cl H G) (k : BagK b cl G G') : BagK b cl H G' := ⟨k.1, h.2.trans k.2⟩
theorem BagK.at {b cl a : Addr} {H G : Hp} {o : HO} (h : BagK b cl H G) (n : a ≠ b) (q : H a = some o) : G a = some o := h.2 a o n q

abbrev i_Wrong : Stmt := inClass (topS 2) 0
theorem sci_Wrong : FnScope ["self", "place"] ["self", "place"] (defScope i_Wrong) := ⟨rfl, rfl, rfl, by decide +kernel, rfl, by decide +kernel, by decide +kernel⟩
theorem ok_i_Wrong {P : Program} {w : World} {K : PySem.W.Frag} {mg : Str → Option Value} {base : Heap} {f C : Addr} {fd : FuncData} (F : Fun K "__init__" "Wrong.__init__" i_Wrong f fd) (T : OexC K C) (hn : ∀ g ∈ (["place"] : List Str), PySem.W.findIn K (.ref C) g = some none) : FnOk P w K mg base CX0 1 f fd ["self", "place"] (spI C ["place"]) := by
  refine F.ok sci_Wrong (fun vs H Q E h => spI_len h) (fun cdv A outer s H vs Q E hr h => ?_)
  obtain ⟨a, xs, rfl, hl, ha, q⟩ := h
  match xs, hl with
  | [x0], _ =>
    refine ⟨_, (pss_one (ps_ost (pv 0) (pv 1))), ?_⟩
    exact init1 T (hn "place" (by simp)) ha q
abbrev i_BadStatement : Stmt := inClass (topS 3) 0
theorem sci_BadStatement : FnScope ["self", "function", "address"] ["self", "function", "address"] (defScope i_BadStatement) := ⟨rfl, rfl, rfl, by decide +kernel, rfl, by decide +kernel, by decide +kernel⟩
theorem ok_i_BadStatement {P : Program} {w : World} {K : PySem.W.Frag} {mg : Str → Option Value} {base : Heap} {f C : Addr} {fd : FuncData} (F : Fun K "__init__" "BadStatement.__init__" i_BadStatement f fd) (T : OexC K C) (hn : ∀ g ∈ (["function", "address"] : List Str), PySem.W.findIn K (.ref C) g = some none) : FnOk P w K mg base CX0 1 f fd ["self", "function", "address"] (spI C ["function", "address"]) := by
  refine F.ok sci_BadStatement (fun vs H Q E h => spI_len h) (fun cdv A outer s H vs Q E hr h => ?_)
  obtain ⟨a, xs, rfl, hl, ha, q⟩ := h
  match xs, hl with
  | [x0, x1], _ =>
    refine ⟨_, (pss_cons (ps_ost (pv 0) (pv 1)) (pss_one (ps_ost (pv 0) (pv 2)))), ?_⟩
    exact init2 T (hn "function" (by simp)) (hn "address" (by simp)) (by decide) ha q
abbrev i_BadCells : Stmt := inClass (topS 4) 0
theorem sci_BadCells : FnScope ["self", "many"] ["self", "many"] (defScope i_BadCells) := ⟨rfl, rfl, rfl, by decide +kernel, rfl, by decide +kernel, by decide +kernel⟩
theorem ok_i_BadCells {P : Program} {w : World} {K : PySem.W.Frag} {mg : Str → Option Value} {base : Heap} {f C : Addr} {fd : FuncData} (F : Fun K "__init__" "BadCells.__init__" i_BadCells f fd) (T : OexC K C) (hn : ∀ g ∈ (["many"] : List Str), PySem.W.findIn K (.ref C) g = some none) : FnOk P w K mg base CX0 1 f fd ["self", "many"] (spI C ["many"]) := by
  refine F.ok sci_BadCells (fun vs H Q E h => spI_len h) (fun cdv A outer s H vs Q E hr h => ?_)
  obtain ⟨a, xs, rfl, hl, ha, q⟩ := h
  match xs, hl with
  | [x0], _ =>
    refine ⟨_, (pss_one (ps_ost (pv 0) (pv 1))), ?_⟩
    exact init1 T (hn "many" (by simp)) ha q
abbrev i_BadKept : Stmt := inClass (topS 5) 0
theorem sci_BadKept : FnScope ["self", "function", "name"] ["self", "function", "name"] (defScope i_BadKept) := ⟨rfl, rfl, rfl, by decide +kernel, rfl, by decide +kernel, by decide +kernel⟩
theorem ok_i_BadKept {P : Program} {w : World} {K : PySem.W.Frag} {mg : Str → Option Value} {base : Heap} {f C : Addr} {fd : FuncData} (F : Fun K "__init__" "BadKept.__init__" i_BadKept f fd) (T : OexC K C) (hn : ∀ g ∈ (["function", "name"] : List Str), PySem.W.findIn K (.ref C) g = some none) : FnOk P w K mg base CX0 1 f fd ["self", "function", "name"] (spI C ["function", "name"]) := by
  refine F.ok sci_BadKept (fun vs H Q E h => spI_len h) (fun cdv A outer s H vs Q E hr h => ?_)
  obtain ⟨a, xs, rfl, hl, ha, q⟩ := h
  match xs, hl with
  | [x0, x1], _ =>
    refine ⟨_, (pss_cons (ps_ost (pv 0) (pv 1)) (pss_one (ps_ost (pv 0) (pv 2)))), ?_⟩
    exact init2 T (hn "function" (by simp)) (hn "name" (by simp)) (by decide) ha q
abbrev i_BadShut : Stmt := inClass (topS 6) 0
theorem sci_BadShut : FnScope ["self", "function", "address"] ["self", "function", "address"] (defScope i_BadShut) := ⟨rfl, rfl, rfl, by decide +kernel, rfl, by decide +kernel, by decide +kernel⟩
theorem ok_i_BadShut {P : Program} {w : World} {K : PySem.W.Frag} {mg : Str → Option Value} {base : Heap} {f C : Addr} {fd : FuncData} (F : Fun K "__init__" "BadShut.__init__" i_BadShut f fd) (T : OexC K C) (hn : ∀ g ∈ (["function", "address"] : List Str), PySem.W.findIn K (.ref C) g = some none) : FnOk P w K mg base CX0 1 f fd ["self", "function", "address"] (spI C ["function", "address"]) := by
  refine F.ok sci_BadShut (fun vs H Q E h => spI_len h) (fun cdv A outer s H vs Q E hr h => ?_)
  obtain ⟨a, xs, rfl, hl, ha, q⟩ := h
  match xs, hl with
  | [x0, x1], _ =>
    refine ⟨_, (pss_cons (ps_ost (pv 0) (pv 1)) (pss_one (ps_ost (pv 0) (pv 2)))), ?_⟩
    exact init2 T (hn "function" (by simp)) (hn "address" (by simp)) (by decide) ha q
abbrev i_Unknown : Stmt := inClass (topS 7) 0
theorem sci_Unknown : FnScope ["self", "function"] ["self", "function"] (defScope i_Unknown) := ⟨rfl, rfl, rfl, by decide +kernel, rfl, by decide +kernel, by decide +kernel⟩
theorem ok_i_Unknown {P : Program} {w : World} {K : PySem.W.Frag} {mg : Str → Option Value} {base : Heap} {f C : Addr} {fd : FuncData} (F : Fun K "__init__" "Unknown.__init__" i_Unknown f fd) (T : OexC K C) (hn : ∀ g ∈ (["function"] : List Str), PySem.W.findIn K (.ref C) g = some none) : FnOk P w K mg base CX0 1 f fd ["self", "function"] (spI C ["function"]) := by
  refine F.ok sci_Unknown (fun vs H Q E h => spI_len h) (fun cdv A outer s H vs Q E hr h => ?_)
  obtain ⟨a, xs, rfl, hl, ha, q⟩ := h
  match xs, hl with
  | [x0], _ =>
    refine ⟨_, (pss_one (ps_ost (pv 0) (pv 1))), ?_⟩
    exact init1 T (hn "function" (by simp)) ha q
abbrev i_NoName : Stmt := inClass (topS 8) 0
theorem sci_NoName : FnScope ["self", "name"] ["self", "name"] (defScope i_NoName) := ⟨rfl, rfl, rfl, by decide +kernel, rfl, by decide +kernel, by decide +kernel⟩
theorem ok_i_NoName {P : Program} {w : World} {K : PySem.W.Frag} {mg : Str → Option Value} {base : Heap} {f C : Addr} {fd : FuncData} (F : Fun K "__init__" "NoName.__init__" i_NoName f fd) (T : OexC K C) (hn : ∀ g ∈ (["name"] : List Str), PySem.W.findIn K (.ref C) g = some none) : FnOk P w K mg base CX0 1 f fd ["self", "name"] (spI C ["name"]) := by
  refine F.ok sci_NoName (fun vs H Q E h => spI_len h) (fun cdv A outer s H vs Q E hr h => ?_)
  obtain ⟨a, xs, rfl, hl, ha, q⟩ := h
  match xs, hl with
  | [x0], _ =>
    refine ⟨_, (pss_one (ps_ost (pv 0) (pv 1))), ?_⟩
    exact init1 T (hn "name" (by simp)) ha q
abbrev i_Over : Stmt := inClass (topS 9) 0
theorem sci_Over : FnScope ["self"] ["self"] (defScope i_Over) := ⟨rfl, rfl, rfl, by decide +kernel, rfl, by decide +kernel, by decide +kernel⟩
theorem ok_i_Over {P : Program} {w : World} {K : PySem.W.Frag} {mg : Str → Option Value} {base : Heap} {f C : Addr} {fd : FuncData} (F : Fun K "__init__" "Over.__init__" i_Over f fd) (T : OexC K C) (hn : ∀ g ∈ ([] : List Str), PySem.W.findIn K (.ref C) g = some none) : FnOk P w K mg base CX0 1 f fd ["self"] (spI C []) := by
  refine F.ok sci_Over (fun vs H Q E h => spI_len h) (fun cdv A outer s H vs Q E hr h => ?_)
  obtain ⟨a, xs, rfl, hl, ha, q⟩ := h
  match xs, hl with
  | [], _ =>
    exact ⟨_, pss_one ps_pass, q _ Keeps.refl (Or.inl ⟨rfl, ha⟩)⟩
abbrev i_Unfit : Stmt := inClass (topS 10) 0
theorem sci_Unfit : FnScope ["self"] ["self"] (defScope i_Unfit) := ⟨rfl, rfl, rfl, by decide +kernel, rfl, by decide +kernel, by decide +kernel⟩
theorem ok_i_Unfit {P : Program} {w : World} {K : PySem.W.Frag} {mg : Str → Option Value} {base : Heap} {f C : Addr} {fd : FuncData} (F : Fun K "__init__" "Unfit.__init__" i_Unfit f fd) (T : OexC K C) (hn : ∀ g ∈ ([] : List Str), PySem.W.findIn K (.ref C) g = some none) : FnOk P w K mg base CX0 1 f fd ["self"] (spI C []) := by
  refine F.ok sci_Unfit (fun vs H Q E h => spI_len h) (fun cdv A outer s H vs Q E hr h => ?_)
  obtain ⟨a, xs, rfl, hl, ha, q⟩ := h
  match xs, hl with
  | [], _ =>
    exact ⟨_, pss_one ps_pass, q _ Keeps.refl (Or.inl ⟨rfl, ha⟩)⟩
abbrev i_Nothing : Stmt := inClass (topS 11) 0
theorem sci_Nothing : FnScope ["self"] ["self"] (defScope i_Nothing) := ⟨rfl, rfl, rfl, by decide +kernel, rfl, by decide +kernel, by decide +kernel⟩
theorem ok_i_Nothing {P : Program} {w : World} {K : PySem.W.Frag} {mg : Str → Option Value} {base : Heap} {f C : Addr} {fd : FuncData} (F : Fun K "__init__" "Nothing.__init__" i_Nothing f fd) (T : OexC K C) (hn : ∀ g ∈ ([] : List Str), PySem.W.findIn K (.ref C) g = some none) : FnOk P w K mg base CX0 1 f fd ["self"] (spI C []) := by
  refine F.ok sci_Nothing (fun vs H Q E h => spI_len h) (fun cdv A outer s H vs Q E hr h => ?_)
  obtain ⟨a, xs, rfl, hl, ha, q⟩ := h
  match xs, hl with
  | [], _ =>
    exact ⟨_, pss_one ps_pass, q _ Keeps.refl (Or.inl ⟨rfl, ha⟩)⟩
abbrev i_Broken : Stmt := inClass (topS 12) 0
theorem sci_Broken : FnScope ["self", "at"] ["self", "at"] (defScope i_Broken) := ⟨rfl, rfl, rfl, by decide +kernel, rfl, by decide +kernel, by decide +kernel⟩
theorem ok_i_Broken {P : Program} {w : World} {K : PySem.W.Frag} {mg : Str → Option Value} {base : Heap} {f C : Addr} {fd : FuncData} (F : Fun K "__init__" "Broken.__init__" i_Broken f fd) (T : OexC K C) (hn : ∀ g ∈ (["at"] : List Str), PySem.W.findIn K (.ref C) g = some none) : FnOk P w K mg base CX0 1 f fd ["self", "at"] (spI C ["at"]) := by
  refine F.ok sci_Broken (fun vs H Q E h => spI_len h) (fun cdv A outer s H vs Q E hr h => ?_)
  obtain ⟨a, xs, rfl, hl, ha, q⟩ := h
  match xs, hl with
  | [x0], _ =>
    refine ⟨_, (pss_one (ps_ost (pv 0) (pv 1))), ?_⟩
    exact init1 T (hn "at" (by simp)) ha q
abbrev i_BadPlacing : Stmt := inClass (topS 13) 0
theorem sci_BadPlacing : FnScope ["self", "at"] ["self", "at"] (defScope i_BadPlacing) := ⟨rfl, rfl, rfl, by decide +kernel, rfl, by decide +kernel, by decide +kernel⟩
theorem ok_i_BadPlacing {P : Program} {w : World} {K : PySem.W.Frag} {mg : Str → Option Value} {base : Heap} {f C : Addr} {fd : FuncData} (F : Fun K "__init__" "BadPlacing.__init__" i_BadPlacing f fd) (T : OexC K C) (hn : ∀ g ∈ (["at"] : List Str), PySem.W.findIn K (.ref C) g = some none) : FnOk P w K mg base CX0 1 f fd ["self", "at"] (spI C ["at"]) := by
  refine F.ok sci_BadPlacing (fun vs H Q E h => spI_len h) (fun cdv A outer s H vs Q E hr h => ?_)
  obtain ⟨a, xs, rfl, hl, ha, q⟩ := h
  match xs, hl with
  | [x0], _ =>
    refine ⟨_, (pss_one (ps_ost (pv 0) (pv 1))), ?_⟩
    exact init1 T (hn "at" (by simp)) ha q
abbrev i_TooMany : Stmt := inClass (topS 14) 0
theorem sci_TooMany : FnScope ["self", "limit"] ["self", "limit"] (defScope i_TooMany) := ⟨rfl, rfl, rfl, by decide +kernel, rfl, by decide +kernel, by decide +kernel⟩
theorem ok_i_TooMany {P : Program} {w : World} {K : PySem.W.Frag} {mg : Str → Option Value} {base : Heap} {f C : Addr} {fd : FuncData} (F : Fun K "__init__" "TooMany.__init__" i_TooMany f fd) (T : OexC K C) (hn : ∀ g ∈ (["limit"] : List Str), PySem.W.findIn K (.ref C) g = some none) : FnOk P w K mg base CX0 1 f fd ["self", "limit"] (spI C ["limit"]) := by
  refine F.ok sci_TooMany (fun vs H Q E h => spI_len h) (fun cdv A outer s H vs Q E hr h => ?_)
  obtain ⟨a, xs, rfl, hl, ha, q⟩ := h
  match xs, hl with
  | [x0], _ =>
    refine ⟨_, (pss_one (ps_ost (pv 0) (pv 1))), ?_⟩
    exact init1 T (hn "limit" (by simp)) ha q
abbrev i_Faulty : Stmt := inClass (topS 15) 0
theorem sci_Faulty : FnScope ["self", "word", "function", "address"] ["self", "word", "function", "address"] (defScope i_Faulty) := ⟨rfl, rfl, rfl, by decide +kernel, rfl, by decide +kernel, by decide +kernel⟩
theorem ok_i_Faulty {P : Program} {w : World} {K : PySem.W.Frag} {mg : Str → Option Value} {base : Heap} {f C : Addr} {fd : FuncData} (F : Fun K "__init__" "Faulty.__init__" i_Faulty f fd) (T : OexC K C) (hn : ∀ g ∈ (["word", "function", "address"] : List Str), PySem.W.findIn K (.ref C) g = some none) : FnOk P w K mg base CX0 1 f fd ["self", "word", "function", "address"] (spI C ["word", "function", "address"]) := by
  refine F.ok sci_Faulty (fun vs H Q E h => spI_len h) (fun cdv A outer s H vs Q E hr h => ?_)
  obtain ⟨a, xs, rfl, hl, ha, q⟩ := h
  match xs, hl with
  | [x0, x1, x2], _ =>
    refine ⟨_, (pss_cons (ps_ost (pv 0) (pv 1)) (pss_cons (ps_ost (pv 0) (pv 2)) (pss_one (ps_ost (pv 0) (pv 3))))), ?_⟩
    exact init3 T (hn "word" (by simp)) (hn "function" (by simp)) (hn "address" (by simp)) (by decide) (by decide) (by decide) ha q
abbrev i_Unsteady : Stmt := inClass (topS 16) 0
theorem sci_Unsteady : FnScope ["self", "why"] ["self", "why"] (defScope i_Unsteady) := ⟨rfl, rfl, rfl, by decide +kernel, rfl, by decide +kernel, by decide +kernel⟩
theorem ok_i_Unsteady {P : Program} {w : World} {K : PySem.W.Frag} {mg : Str → Option Value} {base : Heap} {f C : Addr} {fd : FuncData} (F : Fun K "__init__" "Unsteady.__init__" i_Unsteady f fd) (T : OexC K C) (hn : ∀ g ∈ (["why"] : List Str), PySem.W.findIn K (.ref C) g = some none) : FnOk P w K mg base CX0 1 f fd ["self", "why"] (spI C ["why"]) := by
  refine F.ok sci_Unsteady (fun vs H Q E h => spI_len h) (fun cdv A outer s H vs Q E hr h => ?_)
  obtain ⟨a, xs, rfl, hl, ha, q⟩ := h
  match xs, hl with
  | [x0], _ =>
    refine ⟨_, (pss_one (ps_ost (pv 0) (pv 1))), ?_⟩
    exact init1 T (hn "why" (by simp)) ha q
abbrev i_NoDeed : Stmt := inClass (topS 17) 0
theorem sci_NoDeed : FnScope ["self"] ["self"] (defScope i_NoDeed) := ⟨rfl, rfl, rfl, by decide +kernel, rfl, by decide +kernel, by decide +kernel⟩
theorem ok_i_NoDeed {P : Program} {w : World} {K : PySem.W.Frag} {mg : Str → Option Value} {base : Heap} {f C : Addr} {fd : FuncData} (F : Fun K "__init__" "NoDeed.__init__" i_NoDeed f fd) (T : OexC K C) (hn : ∀ g ∈ ([] : List Str), PySem.W.findIn K (.ref C) g = some none) : FnOk P w K mg base CX0 1 f fd ["self"] (spI C []) := by
  refine F.ok sci_NoDeed (fun vs H Q E h => spI_len h) (fun cdv A outer s H vs Q E hr h => ?_)
  obtain ⟨a, xs, rfl, hl, ha, q⟩ := h
  match xs, hl with
  | [], _ =>
    exact ⟨_, pss_one ps_pass, q _ Keeps.refl (Or.inl ⟨rfl, ha⟩)⟩
abbrev i_Full : Stmt := inClass (topS 18) 0
theorem sci_Full : FnScope ["self", "limit"] ["self", "limit"] (defScope i_Full) := ⟨rfl, rfl, rfl, by decide +kernel, rfl, by decide +kernel, by decide +kernel⟩
theorem ok_i_Full {P : Program} {w : World} {K : PySem.W.Frag} {mg : Str → Option Value} {base : Heap} {f C : Addr} {fd : FuncData} (F : Fun K "__init__" "Full.__init__" i_Full f fd) (T : OexC K C) (hn : ∀ g ∈ (["limit"] : List Str), PySem.W.findIn K (.ref C) g = some none) : FnOk P w K mg base CX0 1 f fd ["self", "limit"] (spI C ["limit"]) := by
  refine F.ok sci_Full (fun vs H Q E h => spI_len h) (fun cdv A outer s H vs Q E hr h => ?_)
  obtain ⟨a, xs, rfl, hl, ha, q⟩ := h
  match xs, hl with
  | [x0], _ =>
    refine ⟨_, (pss_one (ps_ost (pv 0) (pv 1))), ?_⟩
    exact init1 T (hn "limit" (by simp)) ha q
abbrev i_Refused : Stmt := inClass (topS 19) 0
theorem sci_Refused : FnScope ["self", "deed", "why"] ["self", "deed", "why"] (defScope i_Refused) := ⟨rfl, rfl, rfl, by decide +kernel, rfl, by decide +kernel, by decide +kernel⟩
theorem ok_i_Refused {P : Program} {w : World} {K : PySem.W.Frag} {mg : Str → Option Value} {base : Heap} {f C : Addr} {fd : FuncData} (F : Fun K "__init__" "Refused.__init__" i_Refused f fd) (T : OexC K C) (hn : ∀ g ∈ (["deed", "why"] : List Str), PySem.W.findIn K (.ref C) g = some none) : FnOk P w K mg base CX0 1 f fd ["self", "deed", "why"] (spI C ["deed", "why"]) := by
  refine F.ok sci_Refused (fun vs H Q E h => spI_len h) (fun cdv A outer s H vs Q E hr h => ?_)
  obtain ⟨a, xs, rfl, hl, ha, q⟩ := h
  match xs, hl with
  | [x0, x1], _ =>
    refine ⟨_, (pss_cons (ps_ost (pv 0) (pv 1)) (pss_one (ps_ost (pv 0) (pv 2)))), ?_⟩
    exact init2 T (hn "deed" (by simp)) (hn "why" (by simp)) (by decide) ha q
abbrev i_NoEntry : Stmt := inClass (topS 20) 0
theorem sci_NoEntry : FnScope ["self", "many"] ["self", "many"] (defScope i_NoEntry) := ⟨rfl, rfl, rfl, by decide +kernel, rfl, by decide +kernel, by decide +kernel⟩
theorem ok_i_NoEntry {P : Program} {w : World} {K : PySem.W.Frag} {mg : Str → Option Value} {base : Heap} {f C : Addr} {fd : FuncData} (F : Fun K "__init__" "NoEntry.__init__" i_NoEntry f fd) (T : OexC K C) (hn : ∀ g ∈ (["many"] : List Str), PySem.W.findIn K (.ref C) g = some none) : FnOk P w K mg base CX0 1 f fd ["self", "many"] (spI C ["many"]) := by
  refine F.ok sci_NoEntry (fun vs H Q E h => spI_len h) (fun cdv A outer s H vs Q E hr h => ?_)
  obtain ⟨a, xs, rfl, hl, ha, q⟩ := h
  match xs, hl with
  | [x0], _ =>
    refine ⟨_, (pss_one (ps_ost (pv 0) (pv 1))), ?_⟩
    exact init1 T (hn "many" (by simp)) ha q
abbrev i_NoText : Stmt := inClass (topS 21) 0
theorem sci_NoText : FnScope ["self"] ["self"] (defScope i_NoText) := ⟨rfl, rfl, rfl, by decide +kernel, rfl, by decide +kernel, by decide +kernel⟩
theorem ok_i_NoText {P : Program} {w : World} {K : PySem.W.Frag} {mg : Str → Option Value} {base : Heap} {f C : Addr} {fd : FuncData} (F : Fun K "__init__" "NoText.__init__" i_NoText f fd) (T : OexC K C) (hn : ∀ g ∈ ([] : List Str), PySem.W.findIn K (.ref C) g = some none) : FnOk P w K mg base CX0 1 f fd ["self"] (spI C []) := by
  refine F.ok sci_NoText (fun vs H Q E h => spI_len h) (fun cdv A outer s H vs Q E hr h => ?_)
  obtain ⟨a, xs, rfl, hl, ha, q⟩ := h
  match xs, hl with
  | [], _ =>
    exact ⟨_, pss_one ps_pass, q _ Keeps.refl (Or.inl ⟨rfl, ha⟩)⟩
abbrev i_NoCommand : Stmt := inClass (topS 22) 0
theorem sci_NoCommand : FnScope ["self"] ["self"] (defScope i_NoCommand) := ⟨rfl, rfl, rfl, by decide +kernel, rfl, by decide +kernel, by decide +kernel⟩
theorem ok_i_NoCommand {P : Program} {w : World} {K : PySem.W.Frag} {mg : Str → Option Value} {base : Heap} {f C : Addr} {fd : FuncData} (F : Fun K "__init__" "NoCommand.__init__" i_NoCommand f fd) (T : OexC K C) (hn : ∀ g ∈ ([] : List Str), PySem.W.findIn K (.ref C) g = some none) : FnOk P w K mg base CX0 1 f fd ["self"] (spI C []) := by
  refine F.ok sci_NoCommand (fun vs H Q E h => spI_len h) (fun cdv A outer s H vs Q E hr h => ?_)
  obtain ⟨a, xs, rfl, hl, ha, q⟩ := h
  match xs, hl with
  | [], _ =>
    exact ⟨_, pss_one ps_pass, q _ Keeps.refl (Or.inl ⟨rfl, ha⟩)⟩

end K11

namespace K11
open PySem PySem.Spec PyProof.Rows L2 VL
/-! ### the things -/
/-- a plain thing that may be shown -/
def Fl (v : V) : Prop := v = .non ∨ (∃ b, v = .bl b) ∨ (∃ i : Int, v = .int i ∧ i.natAbs.log2 < 1920) ∨ ∃ z : Str, v = .str z ∧ PyData.strOk z = true ∧ z.length ≤ 10
/-- a thing, the addresses of which it is made, lists of at most n plain things -/
inductive Tg (H : Hp) (n : Nat) : V → List Addr → Prop where
  | flat {v : V} (h : Fl v) : Tg H n v []
  | tup {p q : Addr} (hp : H p = some (.tup [.int 1, .ref q])) (hq : H q = some (.tup [.int 2])) : Tg H n (.ref p) [p, q]
  | lst {p : Addr} {xs : List V} (hp : H p = some (.lst xs)) (hf : ∀ x ∈ xs, Fl x) (hn : xs.length ≤ n) : Tg H n (.ref p) [p]
  | ls2 {p q : Addr} {xs : List V} (hp : H p = some (.lst (.int 3 :: .ref q :: xs))) (hq : H q = some (.lst [.int 4])) (ne : p ≠ q) (hf : ∀ x ∈ xs, Fl x) (hn : xs.length ≤ n) : Tg H n (.ref p) [p, q]
  | dct {p : Addr} {kvs : List (Key × V)} (hp : H p = some (.dK kvs)) (hk : kvs = [(.inr "a", .int 1)] ∨ kvs = [(.inr "a", .int 1), (.inr "b", .int 2)]) : Tg H n (.ref p) [p]
theorem Tg.keep {H H' : Hp} {n : Nat} {v : V} {F : List Addr} (h : Tg H n v F) (e : ∀ a o, a ∈ F → H a = some o → H' a = some o) : Tg H' n v F := by
  cases h with
  | flat h => exact .flat h
  | tup hp hq => exact .tup (e _ _ (by simp) hp) (e _ _ (by simp) hq)
  | lst hp hf hn => exact .lst (e _ _ (by simp) hp) hf hn
  | ls2 hp hq ne hf hn => exact .ls2 (e _ _ (by simp) hp) (e _ _ (by simp) hq) ne hf hn
  | dct hp hk => exact .dct (e _ _ (by simp) hp) hk
theorem Tg.up {H : Hp} {n m : Nat} {v : V} {F : List Addr} (h : Tg H n v F) (e : n ≤ m) : Tg H m v F := by
  cases h with
  | flat h => exact .flat h
  | tup hp hq => exact .tup hp hq
  | lst hp hf hn => exact .lst hp hf (Nat.le_trans hn e)
  | ls2 hp hq ne hf hn => exact .ls2 hp hq ne hf (Nat.le_trans hn e)
  | dct hp hk => exact .dct hp hk
theorem Tg.there {H : Hp} {n : Nat} {v : V} {F : List Addr} (h : Tg H n v F) : ∀ a ∈ F, ∃ o, H a = some o ∧ ((∃ xs, o = .lst xs) ∨ (∃ xs, o = .tup xs) ∨ ∃ kvs, o = .dK kvs) := by
  intro a ha
  cases h with
  | flat h => cases ha
  | tup hp hq =>
    rcases (by simpa using ha : a = _ ∨ a = _) with rfl | rfl
    · exact ⟨_, hp, .inr (.inl ⟨_, rfl⟩)⟩
    · exact ⟨_, hq, .inr (.inl ⟨_, rfl⟩)⟩
  | lst hp hf hn =>
    obtain rfl : a = _ := by simpa using ha
    exact ⟨_, hp, .inl ⟨_, rfl⟩⟩
  | ls2 hp hq ne hf hn =>
    rcases (by simpa using ha : a = _ ∨ a = _) with rfl | rfl
    · exact ⟨_, hp, .inl ⟨_, rfl⟩⟩
    · exact ⟨_, hq, .inl ⟨_, rfl⟩⟩
  | dct hp hk =>
    obtain rfl : a = _ := by simpa using ha
    exact ⟨_, hp, .inr (.inr ⟨_, rfl⟩)⟩
/-- data of a plain thing -/
theorem Fl.dp {K : PySem.W.Frag} {H : Hp} {v : V} (h : Fl v) : ∃ d, Dp K H v d ∧ d.hasDict = false ∧ tame d = true ∧ d.depth = 0 ∧ szb d ≤ 1925 ∧ ∀ b, v ≠ .ref b := by
  rcases h with rfl | ⟨b, rfl⟩ | ⟨i, rfl, hi⟩ | ⟨z, rfl, hz, lz⟩
  · exact ⟨.none, .non, rfl, rfl, rfl, by decide, fun b e => by cases e⟩
  · exact ⟨.bool b, .bl b, rfl, rfl, rfl, (by show 5 ≤ _; decide), fun b e => by cases e⟩
  · exact ⟨.int i, .int i, rfl, decide_eq_true hi, rfl, (by show 1925 ≤ _; decide), fun b e => by cases e⟩
  · exact ⟨.str z, .str z, rfl, hz, rfl, (by show 10 * z.length + 2 ≤ _; omega), fun b e => by cases e⟩
theorem Fl.dps {K : PySem.W.Frag} {H : Hp} : ∀ {xs : List V}, (∀ x ∈ xs, Fl x) → ∃ ds, DpAll K H xs ds ∧ PyData.hasDictAll ds = false ∧ tameAll ds = true ∧ PyData.depthAll ds = 0 ∧ szbAll ds ≤ 1927 * xs.length
  | [], _ => ⟨[], .nil, rfl, rfl, rfl, Nat.le_refl _⟩
  | x :: xs, h => by
    obtain ⟨d, h1, h2, h3, h4, h5, _⟩ := (h x List.mem_cons_self).dp (K := K) (H := H)
    obtain ⟨ds, k1, k2, k3, k4, k5⟩ := Fl.dps (K := K) (H := H) fun y hy => h y (List.mem_cons_of_mem _ hy)
    refine ⟨d :: ds, .cons h1 k1, ?_, ?_, ?_, ?_⟩
    · simp only [PyData.hasDictAll, h2, k2, Bool.or_false]
    · show (tame d && tameAll ds) = true
      rw [h3, k3]; rfl
    · simp only [PyData.depthAll, h4, k4, Nat.max_self]
    · show szb d + 2 + szbAll ds ≤ 1927 * (xs.length + 1)
      omega
/-- data of a thing -/
theorem Tg.dr {K : PySem.W.Frag} {H : Hp} {n : Nat} {v : V} {F : List Addr} (h : Tg H n v F) (hn : n ≤ 100) : ∃ d, Dr K H v d ∧ tame d = true ∧ d.depth ≤ 3 ∧ szb d ≤ 400000 := by
  cases h with
  | flat h =>
    obtain ⟨d, h1, h2, h3, h4, h5, _⟩ := h.dp (K := K) (H := H)
    exact ⟨d, .dp h1 h2, h3, by omega, by omega⟩
  | tup hp hq => exact ⟨.tuple [.int 1, .tuple [.int 2]], .dp (.tup (SqT.of hp) (.cons (.int 1) (.cons (.tup (SqT.of hq) (.cons (.int 2) .nil)) .nil))) rfl, by decide +kernel, by decide, by decide⟩
  | @lst p xs hp hf hl =>
    obtain ⟨ds, k1, k2, k3, k4, k5⟩ := Fl.dps (K := K) (H := H) hf
    refine ⟨.list ds, .dp (.lst (SqL.of hp) k1) (by simpa only [PyData.hasDict] using k2), k3, ?_, ?_⟩
    · simp only [PyData.depth, k4]; omega
    · show szbAll ds + 3 ≤ _
      have : 1927 * xs.length ≤ 1927 * 100 := Nat.mul_le_mul_left _ (by omega)
      omega
  | @ls2 p q xs hp hq ne hf hl =>
    obtain ⟨ds, k1, k2, k3, k4, k5⟩ := Fl.dps (K := K) (H := H) hf
    refine ⟨.list (.int 3 :: .list [.int 4] :: ds), .dp (.lst (SqL.of hp) (.cons (.int 3) (.cons (.lst (SqL.of hq) (.cons (.int 4) .nil)) k1))) ?_, ?_, ?_, ?_⟩
    · simp only [PyData.hasDict, PyData.hasDictAll, k2, Bool.or_false]
    · show (tame (.int 3) && (tame (.list [.int 4]) && tameAll ds)) = true
      rw [k3]; decide +kernel
    · simp only [PyData.depth, PyData.depthAll, k4]; decide
    · show szb (.int 3) + 2 + (szb (.list [.int 4]) + 2 + szbAll ds) + 3 ≤ _
      have z1 : szb (.int 3) = 1925 := rfl
      have z2 : szb (.list [.int 4]) = 1930 := rfl
      have : 1927 * xs.length ≤ 1927 * 100 := Nat.mul_le_mul_left _ (by omega)
      omega
  | @dct p kvs hp hk =>
    rcases hk with rfl | rfl
    · refine ⟨_, .dct hp (.cons (.int 1) .nil) (fun x hx b => ?_), by decide +kernel, by decide, by decide +kernel⟩
      have e : x = .int 1 := by simpa using hx
      rw [e]
      intro z
      cases z
    · refine ⟨_, .dct hp (.cons (.int 1) (.cons (.int 2) .nil)) (fun x hx b => ?_), by decide +kernel, by decide, by decide +kernel⟩
      rcases (by simpa using hx : x = .int 1 ∨ x = .int 2) with e | e <;> (rw [e]; intro z; cases z)
/-- thing(bag): a thing of which every address is new -/
def spThing : Sp := fun vs H Q _ => ∃ (b cl : Addr), vs = [.ref b] ∧ Bag H b cl ∧ ∀ (v : V) (F : List Addr) (H' : Hp), BagK b cl H H' → Tg H' 1 v F → (∀ a ∈ F, H a = none) → Q v H'
/-- all of a list are things that are new since H -/
def Tgs (H G : Hp) (xs : List V) : Prop := ∀ x ∈ xs, ∃ F, Tg (fr H G) 1 x F
theorem Tgs.mono {H G G' : Hp} {xs : List V} (h : Tgs H G xs) (e : Same (fr H G) (fr H G')) : Tgs H G' xs := fun x hx => by
  obtain ⟨F, t⟩ := h x hx
  exact ⟨F, t.keep fun a o _ q => e a o q⟩
theorem fr_free {H G : Hp} {a : Addr} {o : HO} (h : fr H G a = some o) : H a = none := by
  cases q : H a with
  | none => rfl
  | some u =>
    have e : fr H G a = none := by unfold fr; rw [q]; rfl
    rw [e] at h
    cases h
theorem Bag.neb {H : Hp} {b cl : Addr} (h : Bag H b cl) : ∀ a, a = b → H a ≠ none := fun a e => by
  obtain ⟨c, st, n, ns, hb, _⟩ := h
  rw [e, hb]
  simp
theorem fr_take {b cl : Addr} {H G G' : Hp} (h : Bag H b cl) (only : ∀ a, a ≠ b → G' a = G a) : Same (fr H G) (fr H G') := fr_keeps (S := fun a => a = b) (fun a o n q => (only a n).trans q) h.neb
theorem step_new {b cl q : Addr} {H G : Hp} {o : HO} {L : List V} (k : BagK b cl H G) (bag : Bag H b cl) (t : Tgs H G L) (n : G q = none) (th : H q = none → ∃ F, Tg (fr H (upd G q o)) 1 (.ref q) F) :
    BagK b cl H (upd G q o) ∧ Tgs H (upd G q o) (.ref q :: L) := by
  refine ⟨k.new n, fun x hx => ?_⟩
  rcases List.mem_cons.mp hx with e | hx
  · rw [e]
    exact th (k.2.free (k.1.tracked n).1 n)
  · exact (t.mono (fr_new n)) x hx
section
variable {P : Program} {w : World} {K : PySem.W.Frag} {mg : Str → Option Value} {base : Heap}
theorem ok_thing {f : Addr} {fd : FuncData} (F : Fun K "_law_thing" "_law_thing" s_law_thing f fd) (c_law_take : C8.Cal P w K mg base 1 "_law_take" spTake []) : FnOk P w K mg base CX0 2 f fd ["_law_bag_here"] spThing := by
  refine F.ok sc_law_thing (fun vs H Q E h => ?_) (fun cdv A outer s H vs Q E hr h => ?_)
  · obtain ⟨b, cl, rfl, _⟩ := h
    rfl
  obtain ⟨b, cl, rfl, bag, q⟩ := h
  have hu := hu_of hr
  refine ⟨_, (pss_cons (ps_set (i := 1) sc_law_thing.nd rfl (.inl rfl) (pe_lst (pa_cons (pe_op op_sub (C8.pe_c c_law_take hr (by decide) rfl (pa_cons (pv 0) (pa_cons pe_int pa_nil))) pe_int) (pa_cons (pe_op op_pow pe_int pe_int) (pa_cons pe_str (pa_cons pe_str (pa_cons pe_bl (pa_cons pe_non (pa_cons (pe_tup (pa_cons pe_int (pa_cons (pe_tup (pa_cons pe_int pa_nil)) pa_nil))) (pa_cons (pe_lst (pa_cons pe_int (pa_cons (pe_lst (pa_cons pe_int pa_nil)) pa_nil))) (pa_cons (pe_disp (pps_cons pe_str pe_int pps_nil) (by rfl) (by rfl) (fun z => by cases z) (by decide)) (pa_cons (pe_lst pa_nil) (pa_cons (pe_lst (pa_cons pe_str pa_nil)) pa_nil))))))))))))) (pss_one (ps_ret (pe_ix (ix_k (K := K) hu) (pv 1) (C8.pe_c c_law_take hr (by decide) rfl (pa_cons (pv 0) (pa_cons pe_int pa_nil))) (fun _ _ => rfl))))), ?_⟩
  refine ⟨_, rfl, _, _, _, rfl, bag, by decide, by decide, fun r G1 r0 r1 bag1 only1 => ?_⟩
  refine ⟨_, _, rfl, rfl, ?_⟩
  refine ⟨_, _, rfl, rfl, ⟨by decide, by decide, by decide⟩, ?_⟩
  refine absT (fun G => BagK b cl H G ∧ Tgs H G []) ⟨(BagK.refl bag).take bag1 only1, fun x hx => by cases hx⟩ (fun G2 h2 => ?_)
  refine ⟨(by show 1 ≤ sizeLine; decide), fun u hu1 => ⟨(by show 2 ≤ sizeLine; decide), fun t ht => ?_⟩⟩
  refine absT (fun G => BagK b cl H G ∧ Tgs H G [.ref t]) ?_ (fun G3 h3 => ?_)
  · have k3 := h2.1.new (o := .tup [.int 2]) hu1
    refine step_new k3 bag (fun x hx => by cases hx) ht fun nt => ⟨_, .tup (q := u) (fr_at upd_same nt) (fr_at ((upd_ne (ne_of_none upd_same ht)).trans upd_same) (h2.1.2.free (h2.1.1.tracked hu1).1 hu1))⟩
  refine ⟨(by show 1 ≤ sizeLine; decide), fun v hv => ⟨(by show 2 ≤ sizeLine; decide), fun l hl => ?_⟩⟩
  refine absT (fun G => BagK b cl H G ∧ Tgs H G [.ref l, .ref t]) ?_ (fun G4 h4 => ?_)
  · have k3 := h3.1.new (o := .lst [.int 4]) hv
    refine step_new k3 bag (h3.2.mono (fr_new hv)) hl fun nt => ⟨_, .ls2 (xs := []) (q := v) (fr_at upd_same nt) (fr_at ((upd_ne (ne_of_none upd_same hl)).trans upd_same) (h3.1.2.free (h3.1.1.tracked hv).1 hv)) (ne_of_none upd_same hl).symm (fun x hx => by cases hx) (by decide)⟩
  refine fun d hd => ⟨upd_same, [(Sum.inr "a", .int 1)], rfl, (by show 1 ≤ 15; decide), ?_⟩
  rw [upd_upd]
  refine absT (fun G => BagK b cl H G ∧ Tgs H G [.ref d, .ref l, .ref t]) (step_new h4.1 bag h4.2 hd fun nt => ⟨_, .dct (fr_at upd_same nt) (.inl rfl)⟩) (fun G5 h5 => ?_)
  refine ⟨(by show 0 ≤ sizeLine; decide), fun e he => ?_⟩
  refine absT (fun G => BagK b cl H G ∧ Tgs H G [.ref e, .ref d, .ref l, .ref t]) (step_new h5.1 bag h5.2 he fun nt => ⟨_, .lst (fr_at upd_same nt) (fun x hx => by cases hx) (by decide)⟩) (fun G6 h6 => ?_)
  refine ⟨(by show 1 ≤ sizeLine; decide), fun g hg => ?_⟩
  refine absT (fun G => BagK b cl H G ∧ Tgs H G [.ref g, .ref e, .ref d, .ref l, .ref t]) (step_new h6.1 bag h6.2 hg fun nt => ⟨_, .lst (fr_at upd_same nt) (fun x hx => ?_) (by decide)⟩) (fun G7 h7 => ?_)
  · have e : x = .str "old" := by simpa using hx
    exact .inr (.inr (.inr ⟨_, e, by decide +kernel, by decide +kernel⟩))
  refine ⟨(by show 11 ≤ sizeLine; decide), fun c hc => ?_⟩
  have nc := (h7.1.1.tracked hc).1
  refine setS [some (.ref b), some (.ref c)] (fun G => BagK b cl H G ∧ ∃ xs : List V, xs.length = 11 ∧ G c = some (.lst xs) ∧ Tgs H G xs) ⟨h7.1.new hc, _, ?_, upd_same, ?_⟩ (fun G8 h8 => ?_)
  · rfl
  · have t8 := h7.2.mono (fr_new (o := .lst [.int (r - 500), .int ((10 : Int) ^ (39 : Int).toNat), .str "main", .str "", .bl true, .non, .ref t, .ref l, .ref d, .ref e, .ref g]) hc)
    intro x hx
    simp only [List.mem_cons, List.not_mem_nil, or_false] at hx
    rcases hx with z | z | z | z | z | z | z | z | z | z | z
    all_goals rw [z]
    · exact ⟨[], .flat (.inr (.inr (.inl ⟨_, rfl, PySem.Flt.log2_lt_of (by decide) (Nat.lt_of_lt_of_le (show (r - 500).natAbs < 1024 by omega) (by decide +kernel))⟩)))⟩
    · exact ⟨[], .flat (.inr (.inr (.inl ⟨_, rfl, by decide +kernel⟩)))⟩
    · exact ⟨[], .flat (.inr (.inr (.inr ⟨_, rfl, by decide +kernel, by decide +kernel⟩)))⟩
    · exact ⟨[], .flat (.inr (.inr (.inr ⟨_, rfl, by decide +kernel, by decide +kernel⟩)))⟩
    · exact ⟨[], .flat (.inr (.inl ⟨_, rfl⟩))⟩
    · exact ⟨[], .flat (.inl rfl)⟩
    · exact t8 _ (by simp)
    · exact t8 _ (by simp)
    · exact t8 _ (by simp)
    · exact t8 _ (by simp)
    · exact t8 _ (by simp)
  obtain ⟨k8, xs, lx, hx, tx⟩ := h8
  refine ⟨_, rfl, _, rfl, _, _, _, rfl, k8.1, by decide, by decide, fun j G9 j0 j1 bag9 only9 => ?_⟩
  have hj : j.toNat < xs.length := by omega
  have at_j := atI_nat (xs := xs) (j := j.toNat) (List.getElem?_eq_getElem hj)
  rw [Int.toNat_of_nonneg j0] at at_j
  obtain ⟨F, tF⟩ := (tx.mono (fr_take bag only9)) _ (List.getElem_mem hj)
  exact Or.inl ⟨_, _, _, _, rfl, rfl, SqL.of ((only9 _ nc).trans hx), at_j, q _ F _ (k8.take bag9 only9) (tF.keep fun a o _ q => fr_same _ _ q) (fun a ha => by obtain ⟨o, ho, _⟩ := tF.there a ha; exact fr_free ho)⟩
end
end K11

namespace K11
open PySem PySem.Spec PyProof.Rows L2 VL
/-! ### the errors -/
/-- their fields, by number -/
def errTab (x y z : V) : Nat → List (Str × V)
  | 0 => [("place", x)]
  | 1 => [("function", x), ("address", y)]
  | 2 => [("many", x)]
  | 3 => [("function", x), ("name", y)]
  | 4 => [("function", x), ("address", y)]
  | 5 => [("function", x)]
  | 6 => [("name", x)]
  | 7 => []
  | 8 => []
  | 9 => []
  | 10 => [("at", x)]
  | 11 => [("at", x)]
  | 12 => [("limit", x)]
  | 13 => [("word", x), ("function", y), ("address", z)]
  | 14 => [("why", x)]
  | 15 => []
  | 16 => [("limit", x)]
  | 17 => [("deed", x), ("why", y)]
  | 18 => [("many", x)]
  | 19 => []
  | 20 => []
  | _ => []
/-- errors of the classes c i, made since B -/
def ErrsAt (B H : Hp) (c : Nat → Addr) (x y z : V) (es : List V) : Prop := ∃ a : Nat → Addr, es = (List.range 21).map (fun i => V.ref (a i)) ∧ ∀ i, i < 21 → EL B H (a i) (c i) (errTab x y z i)
theorem ErrsAt.same {B H H' : Hp} {c : Nat → Addr} {x y z : V} {es : List V} (e : ∀ c o, B c = none → H c = some o → H' c = some o) (h : ErrsAt B H c x y z es) : ErrsAt B H' c x y z es := by
  obtain ⟨a, r, h⟩ := h
  exact ⟨a, r, fun i hi => (h i hi).same e⟩
def Els (B G : Hp) : List (Addr × Addr × List (Str × V)) → Prop
  | [] => True
  | (a, C, l) :: r => EL B G a C l ∧ Els B G r
theorem Els.same {B H H' : Hp} (e : Same H H') : ∀ {L : List (Addr × Addr × List (Str × V))}, Els B H L → Els B H' L
  | [], _ => trivial
  | (a, C, l) :: r, h => ⟨h.1.same fun c o _ q => e c o q, Els.same e h.2⟩
/-- errors so far -/
def Ev (B G : Hp) (L : List (Addr × Addr × List (Str × V))) : Prop := Same B G ∧ Els B G L
theorem Ev.new {B G : Hp} {L : List (Addr × Addr × List (Str × V))} {p : Addr} {o : HO} (h : Ev B G L) (n : G p = none) : Ev B (upd G p o) L := ⟨h.1.trans (same_new n), h.2.same (same_new n)⟩
theorem errIn {B : Hp} {C a : Addr} {fs : List Str} {H : Hp} {R : Hp → Prop} {E : XK} {xs : List V} {L : List (Addr × Addr × List (Str × V))} (inv : Ev B H L) (na : H a = none) (hl : xs.length = fs.length) (k : ∀ G, Ev B G ((a, C, fs.zip xs) :: L) → (∀ c o, H c = some o → G c = some o) → R G) :
    spI C fs (.ref a :: xs) (upd H a (exo a C none)) (fun v H2 => v = .non ∧ R H2) E := by
  refine ⟨a, xs, rfl, hl, upd_same, fun H' kp h => ⟨rfl, ?_⟩⟩
  have s1 : Same H H' := fun c o hc => kp c o (ne_of_none hc na) (by rw [upd_ne (ne_of_none hc na)]; exact hc)
  refine k H' ⟨inv.1.trans s1, ⟨inv.1.free na, ?_⟩, inv.2.same s1⟩ s1
  rcases h with ⟨e, h⟩ | ⟨d, gs, nd, h1, h2, h3⟩
  · subst e
    exact Or.inl ⟨rfl, h⟩
  · have nda : d ≠ a := fun z => by rw [z, upd_same] at nd; cases nd
    rw [upd_ne nda] at nd
    exact Or.inr ⟨d, gs, inv.1.free nd, h1, h2, h3⟩
/-- errors(a, b, c): the twenty-one, new -/
def spErrs (c : Nat → Addr) : Sp := fun vs H Q _ => ∃ x y z, vs = [x, y, z] ∧ ∀ (r : Addr) (es : List V) (H' : Hp), Same H H' → H r = none → H' r = some (.lst es) → ErrsAt H H' c x y z es → Q (.ref r) H'
section
variable {P : Program} {w : World} {K : PySem.W.Frag} {mg : Str → Option Value} {base : Heap} {c : Nat → Addr}
theorem ok_errors {f : Addr} {fd : FuncData} (F : Fun K "_law_errors" "_law_errors" s_law_errors f fd) (c_Wrong : Mk1 P w K mg base "Wrong" (c 0) ["place"]) (c_BadStatement : Mk1 P w K mg base "BadStatement" (c 1) ["function", "address"]) (c_BadCells : Mk1 P w K mg base "BadCells" (c 2) ["many"]) (c_BadKept : Mk1 P w K mg base "BadKept" (c 3) ["function", "name"]) (c_BadShut : Mk1 P w K mg base "BadShut" (c 4) ["function", "address"]) (c_Unknown : Mk1 P w K mg base "Unknown" (c 5) ["function"]) (c_NoName : Mk1 P w K mg base "NoName" (c 6) ["name"]) (c_Over : Mk1 P w K mg base "Over" (c 7) []) (c_Unfit : Mk1 P w K mg base "Unfit" (c 8) []) (c_Nothing : Mk1 P w K mg base "Nothing" (c 9) []) (c_Broken : Mk1 P w K mg base "Broken" (c 10) ["at"]) (c_BadPlacing : Mk1 P w K mg base "BadPlacing" (c 11) ["at"]) (c_TooMany : Mk1 P w K mg base "TooMany" (c 12) ["limit"]) (c_Faulty : Mk1 P w K mg base "Faulty" (c 13) ["word", "function", "address"]) (c_Unsteady : Mk1 P w K mg base "Unsteady" (c 14) ["why"]) (c_NoDeed : Mk1 P w K mg base "NoDeed" (c 15) []) (c_Full : Mk1 P w K mg base "Full" (c 16) ["limit"]) (c_Refused : Mk1 P w K mg base "Refused" (c 17) ["deed", "why"]) (c_NoEntry : Mk1 P w K mg base "NoEntry" (c 18) ["many"]) (c_NoText : Mk1 P w K mg base "NoText" (c 19) []) (c_NoCommand : Mk1 P w K mg base "NoCommand" (c 20) []) : FnOk P w K mg base CX0 3 f fd ["_law_a", "_law_b", "_law_c"] (spErrs c) := by
  refine F.ok sc_law_errors (fun vs H Q E h => ?_) (fun cdv A outer s H vs Q E hr h => ?_)
  · obtain ⟨x, y, z, rfl, _⟩ := h
    rfl
  obtain ⟨x, y, z, rfl, q⟩ := h
  have hu := hu_of hr
  refine ⟨_, (pss_cons (ps_set (i := 3) sc_law_errors.nd rfl (.inl rfl) (pe_lst (pa_cons (pe_mk1 c_Wrong hr (by decide) rfl (pa_cons (pv 0) pa_nil)) (pa_cons (pe_mk1 c_BadStatement hr (by decide) rfl (pa_cons (pv 0) (pa_cons (pv 1) pa_nil))) (pa_cons (pe_mk1 c_BadCells hr (by decide) rfl (pa_cons (pv 0) pa_nil)) (pa_cons (pe_mk1 c_BadKept hr (by decide) rfl (pa_cons (pv 0) (pa_cons (pv 1) pa_nil))) (pa_cons (pe_mk1 c_BadShut hr (by decide) rfl (pa_cons (pv 0) (pa_cons (pv 1) pa_nil))) (pa_cons (pe_mk1 c_Unknown hr (by decide) rfl (pa_cons (pv 0) pa_nil)) (pa_cons (pe_mk1 c_NoName hr (by decide) rfl (pa_cons (pv 0) pa_nil)) (pa_cons (pe_mk10 c_Over hr (by decide) rfl) pa_nil)))))))))) (pss_cons (ps_set (i := 3) sc_law_errors.nd rfl (.inl rfl) (pe_op (op_addk (K := K)) (pv 3) (pe_lst (pa_cons (pe_mk10 c_Unfit hr (by decide) rfl) (pa_cons (pe_mk10 c_Nothing hr (by decide) rfl) (pa_cons (pe_mk1 c_Broken hr (by decide) rfl (pa_cons (pv 0) pa_nil)) (pa_cons (pe_mk1 c_BadPlacing hr (by decide) rfl (pa_cons (pv 0) pa_nil)) (pa_cons (pe_mk1 c_TooMany hr (by decide) rfl (pa_cons (pv 0) pa_nil)) (pa_cons (pe_mk1 c_Faulty hr (by decide) rfl (pa_cons (pv 0) (pa_cons (pv 1) (pa_cons (pv 2) pa_nil)))) (pa_cons (pe_mk1 c_Unsteady hr (by decide) rfl (pa_cons (pv 0) pa_nil)) (pa_cons (pe_mk10 c_NoDeed hr (by decide) rfl) pa_nil))))))))))) (pss_one (ps_ret (pe_op (op_addk (K := K)) (pv 3) (pe_lst (pa_cons (pe_mk1 c_Full hr (by decide) rfl (pa_cons (pv 0) pa_nil)) (pa_cons (pe_mk1 c_Refused hr (by decide) rfl (pa_cons (pv 0) (pa_cons (pv 1) pa_nil))) (pa_cons (pe_mk1 c_NoEntry hr (by decide) rfl (pa_cons (pv 0) pa_nil)) (pa_cons (pe_mk10 c_NoText hr (by decide) rfl) (pa_cons (pe_mk10 c_NoCommand hr (by decide) rfl) pa_nil))))))))))), ?_⟩
  have inv0 : Ev H H [] := ⟨Same.refl H, trivial⟩
  refine ⟨_, rfl, (by show 1 ≤ 1000; decide), fun a0 n0 => errIn inv0 n0 rfl (fun G0 i0 s0 => ?_)⟩
  refine ⟨_, rfl, _, rfl, (by show 2 ≤ 1000; decide), fun a1 n1 => errIn i0 n1 rfl (fun G1 i1 s1 => ?_)⟩
  refine ⟨_, rfl, (by show 1 ≤ 1000; decide), fun a2 n2 => errIn i1 n2 rfl (fun G2 i2 s2 => ?_)⟩
  refine ⟨_, rfl, _, rfl, (by show 2 ≤ 1000; decide), fun a3 n3 => errIn i2 n3 rfl (fun G3 i3 s3 => ?_)⟩
  refine ⟨_, rfl, _, rfl, (by show 2 ≤ 1000; decide), fun a4 n4 => errIn i3 n4 rfl (fun G4 i4 s4 => ?_)⟩
  refine ⟨_, rfl, (by show 1 ≤ 1000; decide), fun a5 n5 => errIn i4 n5 rfl (fun G5 i5 s5 => ?_)⟩
  refine ⟨_, rfl, (by show 1 ≤ 1000; decide), fun a6 n6 => errIn i5 n6 rfl (fun G6 i6 s6 => ?_)⟩
  refine ⟨(by show 0 ≤ 1000; decide), fun a7 n7 => errIn i6 n7 rfl (fun G7 i7 s7 => ?_)⟩
  refine ⟨(by show 8 ≤ sizeLine; decide), fun p0 m0 => ?_⟩
  refine setS [some x, some y, some z, some (.ref p0)] (fun G => Ev H G [(a7, c 7, []), (a6, c 6, [("name", x)]), (a5, c 5, [("function", x)]), (a4, c 4, [("function", x), ("address", y)]), (a3, c 3, [("function", x), ("name", y)]), (a2, c 2, [("many", x)]), (a1, c 1, [("function", x), ("address", y)]), (a0, c 0, [("place", x)])] ∧ G p0 = some (.lst [.ref a0, .ref a1, .ref a2, .ref a3, .ref a4, .ref a5, .ref a6, .ref a7])) ⟨i7.new m0, upd_same⟩ (fun G8 h8 => ?_)
  obtain ⟨j0, hp0⟩ := h8
  refine ⟨_, rfl, ?_⟩
  refine ⟨(by show 0 ≤ 1000; decide), fun a8 n8 => errIn j0 n8 rfl (fun G8 i8 s8 => ?_)⟩
  refine ⟨(by show 0 ≤ 1000; decide), fun a9 n9 => errIn i8 n9 rfl (fun G9 i9 s9 => ?_)⟩
  refine ⟨_, rfl, (by show 1 ≤ 1000; decide), fun a10 n10 => errIn i9 n10 rfl (fun G10 i10 s10 => ?_)⟩
  refine ⟨_, rfl, (by show 1 ≤ 1000; decide), fun a11 n11 => errIn i10 n11 rfl (fun G11 i11 s11 => ?_)⟩
  refine ⟨_, rfl, (by show 1 ≤ 1000; decide), fun a12 n12 => errIn i11 n12 rfl (fun G12 i12 s12 => ?_)⟩
  refine ⟨_, rfl, _, rfl, _, rfl, (by show 3 ≤ 1000; decide), fun a13 n13 => errIn i12 n13 rfl (fun G13 i13 s13 => ?_)⟩
  refine ⟨_, rfl, (by show 1 ≤ 1000; decide), fun a14 n14 => errIn i13 n14 rfl (fun G14 i14 s14 => ?_)⟩
  refine ⟨(by show 0 ≤ 1000; decide), fun a15 n15 => errIn i14 n15 rfl (fun G15 i15 s15 => ?_)⟩
  refine ⟨(by show 8 ≤ sizeLine; decide), fun p1 m1 => ?_⟩
  have hp0' := (s15 _ _ (s14 _ _ (s13 _ _ (s12 _ _ (s11 _ _ (s10 _ _ (s9 _ _ (s8 _ _ hp0))))))))
  refine Or.inr (Or.inr (Or.inl ⟨_, _, _, _, rfl, rfl, (upd_ne (ne_of_none hp0' m1)).trans hp0', upd_same, (by show 16 ≤ sizeLine; decide), fun p2 m2 => ?_⟩))
  refine setS [some x, some y, some z, some (.ref p2)] (fun G => Ev H G [(a15, c 15, []), (a14, c 14, [("why", x)]), (a13, c 13, [("word", x), ("function", y), ("address", z)]), (a12, c 12, [("limit", x)]), (a11, c 11, [("at", x)]), (a10, c 10, [("at", x)]), (a9, c 9, []), (a8, c 8, []), (a7, c 7, []), (a6, c 6, [("name", x)]), (a5, c 5, [("function", x)]), (a4, c 4, [("function", x), ("address", y)]), (a3, c 3, [("function", x), ("name", y)]), (a2, c 2, [("many", x)]), (a1, c 1, [("function", x), ("address", y)]), (a0, c 0, [("place", x)])] ∧ G p2 = some (.lst [.ref a0, .ref a1, .ref a2, .ref a3, .ref a4, .ref a5, .ref a6, .ref a7, .ref a8, .ref a9, .ref a10, .ref a11, .ref a12, .ref a13, .ref a14, .ref a15])) ⟨(i15.new m1).new m2, upd_same⟩ (fun G16 h16 => ?_)
  obtain ⟨j1, hp2⟩ := h16
  refine ⟨_, rfl, ?_⟩
  refine ⟨_, rfl, (by show 1 ≤ 1000; decide), fun a16 n16 => errIn j1 n16 rfl (fun G16 i16 s16 => ?_)⟩
  refine ⟨_, rfl, _, rfl, (by show 2 ≤ 1000; decide), fun a17 n17 => errIn i16 n17 rfl (fun G17 i17 s17 => ?_)⟩
  refine ⟨_, rfl, (by show 1 ≤ 1000; decide), fun a18 n18 => errIn i17 n18 rfl (fun G18 i18 s18 => ?_)⟩
  refine ⟨(by show 0 ≤ 1000; decide), fun a19 n19 => errIn i18 n19 rfl (fun G19 i19 s19 => ?_)⟩
  refine ⟨(by show 0 ≤ 1000; decide), fun a20 n20 => errIn i19 n20 rfl (fun G20 i20 s20 => ?_)⟩
  refine ⟨(by show 5 ≤ sizeLine; decide), fun p3 m3 => ?_⟩
  have hp2' := (s20 _ _ (s19 _ _ (s18 _ _ (s17 _ _ (s16 _ _ hp2)))))
  refine Or.inr (Or.inr (Or.inl ⟨_, _, _, _, rfl, rfl, (upd_ne (ne_of_none hp2' m3)).trans hp2', upd_same, (by show 21 ≤ sizeLine; decide), fun p4 m4 => ?_⟩))
  have j2 := (i20.new (o := .lst [.ref a16, .ref a17, .ref a18, .ref a19, .ref a20]) m3).new (o := .lst ([.ref a0, .ref a1, .ref a2, .ref a3, .ref a4, .ref a5, .ref a6, .ref a7, .ref a8, .ref a9, .ref a10, .ref a11, .ref a12, .ref a13, .ref a14, .ref a15] ++ [.ref a16, .ref a17, .ref a18, .ref a19, .ref a20])) m4
  refine q p4 _ _ j2.1 ((i20.new m3).1.free m4) upd_same ⟨fun i => [a0, a1, a2, a3, a4, a5, a6, a7, a8, a9, a10, a11, a12, a13, a14, a15, a16, a17, a18, a19, a20].getD i 0, rfl, fun i hi => ?_⟩
  obtain ⟨e20, e19, e18, e17, e16, e15, e14, e13, e12, e11, e10, e9, e8, e7, e6, e5, e4, e3, e2, e1, e0, _⟩ := j2.2
  match i, hi with
  | 0, _ => exact e0
  | 1, _ => exact e1
  | 2, _ => exact e2
  | 3, _ => exact e3
  | 4, _ => exact e4
  | 5, _ => exact e5
  | 6, _ => exact e6
  | 7, _ => exact e7
  | 8, _ => exact e8
  | 9, _ => exact e9
  | 10, _ => exact e10
  | 11, _ => exact e11
  | 12, _ => exact e12
  | 13, _ => exact e13
  | 14, _ => exact e14
  | 15, _ => exact e15
  | 16, _ => exact e16
  | 17, _ => exact e17
  | 18, _ => exact e18
  | 19, _ => exact e19
  | 20, _ => exact e20
  | n + 21, h => exact absurd h (by omega)
end
end K11

namespace K11
open PySem PySem.Spec PyProof.Rows L2 VL
/-- kinds(e): of which of the twenty-one classes -/
def spKinds (K : PySem.W.Frag) (c : Nat → Addr) : Sp := fun vs H Q _ => ∃ (a C : Addr) (bs : Nat → Bool), vs = [.ref a] ∧ ExA K C ∧ ExAt H a C ∧ (∀ j, j < 21 → PySem.W.kitOne K (.ref C) (.ref (c j)) = some (bs j)) ∧
  ∀ (r : Addr) (H' : Hp), Same H H' → H' r = some (.lst ((List.range 21).map fun j => .bl (bs j))) → Q (.ref r) H'
/-- one field -/
theorem fldx {B H : Hp} {n : Str} {a C : Addr} {l : List (Str × V)} {v : V} (h : EL B H a C l) (m : (n, v) ∈ l) : ∃ (d : Addr) (gs : List (Str × V)), H a = some (exo a C (some d)) ∧ H d = some (exd d gs) ∧ gs.lookup n = some v := by
  obtain ⟨_, h⟩ := h
  rcases h with ⟨rfl, _⟩ | ⟨d, gs, _, h1, h2, h3⟩
  · cases m
  · exact ⟨d, gs, h1, h2, h3 _ _ m⟩
/-- the names of the fields, by number -/
def errNames : Nat → List Str
  | 0 => ["place"]
  | 1 => ["function", "address"]
  | 2 => ["many"]
  | 3 => ["function", "name"]
  | 4 => ["function", "address"]
  | 5 => ["function"]
  | 6 => ["name"]
  | 7 => []
  | 8 => []
  | 9 => []
  | 10 => ["at"]
  | 11 => ["at"]
  | 12 => ["limit"]
  | 13 => ["word", "function", "address"]
  | 14 => ["why"]
  | 15 => []
  | 16 => ["limit"]
  | 17 => ["deed", "why"]
  | 18 => ["many"]
  | 19 => []
  | 20 => []
  | _ => []
/-- fields(errors): the fields, three lists -/
def spFields (c : Nat → Addr) : Sp := fun vs H Q _ => ∃ (s : Addr) (es : List V) (B : Hp) (x y z : V), vs = [.ref s] ∧ H s = some (.lst es) ∧ ErrsAt B H c x y z es ∧
  ∀ (r p q t : Addr) (H' : Hp), Same H H' → H r = none → H' r = some (.lst [.ref p, .ref q, .ref t]) → H p = none → H' p = some (.lst (List.replicate 15 x)) → H q = none → H' q = some (.lst (List.replicate 5 y)) → H t = none → H' t = some (.lst [z]) → Q (.ref r) H'
section
variable {P : Program} {w : World} {K : PySem.W.Frag} {mg : Str → Option Value} {base : Heap} {c : Nat → Addr}
theorem ok_kinds {f : Addr} {fd : FuncData} (F : Fun K "_law_kinds" "_law_kinds" s_law_kinds f fd) (m_isinstance : mg "isinstance" = none) (g_Wrong : ∃ u, mg "Wrong" = some u ∧ RelV (.ref (c 0)) u) (g_BadStatement : ∃ u, mg "BadStatement" = some u ∧ RelV (.ref (c 1)) u) (g_BadCells : ∃ u, mg "BadCells" = some u ∧ RelV (.ref (c 2)) u) (g_BadKept : ∃ u, mg "BadKept" = some u ∧ RelV (.ref (c 3)) u) (g_BadShut : ∃ u, mg "BadShut" = some u ∧ RelV (.ref (c 4)) u) (g_Unknown : ∃ u, mg "Unknown" = some u ∧ RelV (.ref (c 5)) u) (g_NoName : ∃ u, mg "NoName" = some u ∧ RelV (.ref (c 6)) u) (g_Over : ∃ u, mg "Over" = some u ∧ RelV (.ref (c 7)) u) (g_Unfit : ∃ u, mg "Unfit" = some u ∧ RelV (.ref (c 8)) u) (g_Nothing : ∃ u, mg "Nothing" = some u ∧ RelV (.ref (c 9)) u) (g_Broken : ∃ u, mg "Broken" = some u ∧ RelV (.ref (c 10)) u) (g_BadPlacing : ∃ u, mg "BadPlacing" = some u ∧ RelV (.ref (c 11)) u) (g_TooMany : ∃ u, mg "TooMany" = some u ∧ RelV (.ref (c 12)) u) (g_Faulty : ∃ u, mg "Faulty" = some u ∧ RelV (.ref (c 13)) u) (g_Unsteady : ∃ u, mg "Unsteady" = some u ∧ RelV (.ref (c 14)) u) (g_NoDeed : ∃ u, mg "NoDeed" = some u ∧ RelV (.ref (c 15)) u) (g_Full : ∃ u, mg "Full" = some u ∧ RelV (.ref (c 16)) u) (g_Refused : ∃ u, mg "Refused" = some u ∧ RelV (.ref (c 17)) u) (g_NoEntry : ∃ u, mg "NoEntry" = some u ∧ RelV (.ref (c 18)) u) (g_NoText : ∃ u, mg "NoText" = some u ∧ RelV (.ref (c 19)) u) (g_NoCommand : ∃ u, mg "NoCommand" = some u ∧ RelV (.ref (c 20)) u) : FnOk P w K mg base CX0 1 f fd ["_law_e"] (spKinds K c) := by
  refine F.ok sc_law_kinds (fun vs H Q E h => ?_) (fun cdv A outer s H vs Q E hr h => ?_)
  · obtain ⟨a, C, bs, rfl, _⟩ := h
    rfl
  obtain ⟨a, C, bs, rfl, T, hx, hk, q⟩ := h
  have hu := hu_of hr
  refine ⟨_, (pss_cons (ps_set (i := 1) sc_law_kinds.nd rfl (.inl rfl) (pe_lst (pa_cons (pe_callB (call_isXk (K := K)) (by rfl) m_isinstance (by decide +kernel) (pa_cons (pv 0) (pa_cons (C8.pe_gc rfl g_Wrong) pa_nil))) (pa_cons (pe_callB (call_isXk (K := K)) (by rfl) m_isinstance (by decide +kernel) (pa_cons (pv 0) (pa_cons (C8.pe_gc rfl g_BadStatement) pa_nil))) (pa_cons (pe_callB (call_isXk (K := K)) (by rfl) m_isinstance (by decide +kernel) (pa_cons (pv 0) (pa_cons (C8.pe_gc rfl g_BadCells) pa_nil))) (pa_cons (pe_callB (call_isXk (K := K)) (by rfl) m_isinstance (by decide +kernel) (pa_cons (pv 0) (pa_cons (C8.pe_gc rfl g_BadKept) pa_nil))) pa_nil)))))) (pss_cons (ps_set (i := 1) sc_law_kinds.nd rfl (.inl rfl) (pe_op (op_addk (K := K)) (pv 1) (pe_lst (pa_cons (pe_callB (call_isXk (K := K)) (by rfl) m_isinstance (by decide +kernel) (pa_cons (pv 0) (pa_cons (C8.pe_gc rfl g_BadShut) pa_nil))) (pa_cons (pe_callB (call_isXk (K := K)) (by rfl) m_isinstance (by decide +kernel) (pa_cons (pv 0) (pa_cons (C8.pe_gc rfl g_Unknown) pa_nil))) (pa_cons (pe_callB (call_isXk (K := K)) (by rfl) m_isinstance (by decide +kernel) (pa_cons (pv 0) (pa_cons (C8.pe_gc rfl g_NoName) pa_nil))) (pa_cons (pe_callB (call_isXk (K := K)) (by rfl) m_isinstance (by decide +kernel) (pa_cons (pv 0) (pa_cons (C8.pe_gc rfl g_Over) pa_nil))) pa_nil))))))) (pss_cons (ps_set (i := 1) sc_law_kinds.nd rfl (.inl rfl) (pe_op (op_addk (K := K)) (pv 1) (pe_lst (pa_cons (pe_callB (call_isXk (K := K)) (by rfl) m_isinstance (by decide +kernel) (pa_cons (pv 0) (pa_cons (C8.pe_gc rfl g_Unfit) pa_nil))) (pa_cons (pe_callB (call_isXk (K := K)) (by rfl) m_isinstance (by decide +kernel) (pa_cons (pv 0) (pa_cons (C8.pe_gc rfl g_Nothing) pa_nil))) (pa_cons (pe_callB (call_isXk (K := K)) (by rfl) m_isinstance (by decide +kernel) (pa_cons (pv 0) (pa_cons (C8.pe_gc rfl g_Broken) pa_nil))) (pa_cons (pe_callB (call_isXk (K := K)) (by rfl) m_isinstance (by decide +kernel) (pa_cons (pv 0) (pa_cons (C8.pe_gc rfl g_BadPlacing) pa_nil))) pa_nil))))))) (pss_cons (ps_set (i := 1) sc_law_kinds.nd rfl (.inl rfl) (pe_op (op_addk (K := K)) (pv 1) (pe_lst (pa_cons (pe_callB (call_isXk (K := K)) (by rfl) m_isinstance (by decide +kernel) (pa_cons (pv 0) (pa_cons (C8.pe_gc rfl g_TooMany) pa_nil))) (pa_cons (pe_callB (call_isXk (K := K)) (by rfl) m_isinstance (by decide +kernel) (pa_cons (pv 0) (pa_cons (C8.pe_gc rfl g_Faulty) pa_nil))) (pa_cons (pe_callB (call_isXk (K := K)) (by rfl) m_isinstance (by decide +kernel) (pa_cons (pv 0) (pa_cons (C8.pe_gc rfl g_Unsteady) pa_nil))) (pa_cons (pe_callB (call_isXk (K := K)) (by rfl) m_isinstance (by decide +kernel) (pa_cons (pv 0) (pa_cons (C8.pe_gc rfl g_NoDeed) pa_nil))) pa_nil))))))) (pss_cons (ps_set (i := 1) sc_law_kinds.nd rfl (.inl rfl) (pe_op (op_addk (K := K)) (pv 1) (pe_lst (pa_cons (pe_callB (call_isXk (K := K)) (by rfl) m_isinstance (by decide +kernel) (pa_cons (pv 0) (pa_cons (C8.pe_gc rfl g_Full) pa_nil))) (pa_cons (pe_callB (call_isXk (K := K)) (by rfl) m_isinstance (by decide +kernel) (pa_cons (pv 0) (pa_cons (C8.pe_gc rfl g_Refused) pa_nil))) (pa_cons (pe_callB (call_isXk (K := K)) (by rfl) m_isinstance (by decide +kernel) (pa_cons (pv 0) (pa_cons (C8.pe_gc rfl g_NoEntry) pa_nil))) (pa_cons (pe_callB (call_isXk (K := K)) (by rfl) m_isinstance (by decide +kernel) (pa_cons (pv 0) (pa_cons (C8.pe_gc rfl g_NoText) pa_nil))) pa_nil))))))) (pss_one (ps_ret (pe_op (op_addk (K := K)) (pv 1) (pe_lst (pa_cons (pe_callB (call_isXk (K := K)) (by rfl) m_isinstance (by decide +kernel) (pa_cons (pv 0) (pa_cons (C8.pe_gc rfl g_NoCommand) pa_nil))) pa_nil)))))))))), ?_⟩
  refine ⟨_, rfl, Or.inr ⟨a, C, _, _, bs 0, rfl, .own _, T, hx, hk 0 (by decide), ?_⟩⟩
  refine ⟨_, rfl, Or.inr ⟨a, C, _, _, bs 1, rfl, .own _, T, hx, hk 1 (by decide), ?_⟩⟩
  refine ⟨_, rfl, Or.inr ⟨a, C, _, _, bs 2, rfl, .own _, T, hx, hk 2 (by decide), ?_⟩⟩
  refine ⟨_, rfl, Or.inr ⟨a, C, _, _, bs 3, rfl, .own _, T, hx, hk 3 (by decide), ?_⟩⟩
  refine ⟨(by show 4 ≤ sizeLine; decide), fun p0 n0 => ?_⟩
  refine setS [some (.ref a), some (.ref p0)] (fun G => Same H G ∧ G p0 = some (.lst [.bl (bs 0), .bl (bs 1), .bl (bs 2), .bl (bs 3)])) ⟨same_new n0, upd_same⟩ (fun G0 h0 => ?_)
  have hx0 := hx.mono h0.1
  refine ⟨_, rfl, ?_⟩
  refine ⟨_, rfl, Or.inr ⟨a, C, _, _, bs 4, rfl, .own _, T, hx0, hk 4 (by decide), ?_⟩⟩
  refine ⟨_, rfl, Or.inr ⟨a, C, _, _, bs 5, rfl, .own _, T, hx0, hk 5 (by decide), ?_⟩⟩
  refine ⟨_, rfl, Or.inr ⟨a, C, _, _, bs 6, rfl, .own _, T, hx0, hk 6 (by decide), ?_⟩⟩
  refine ⟨_, rfl, Or.inr ⟨a, C, _, _, bs 7, rfl, .own _, T, hx0, hk 7 (by decide), ?_⟩⟩
  refine ⟨(by show 4 ≤ sizeLine; decide), fun q0 m0 => ?_⟩
  refine Or.inr (Or.inr (Or.inl ⟨_, _, _, _, rfl, rfl, (upd_ne (ne_of_none h0.2 m0)).trans h0.2, upd_same, (by show 8 ≤ sizeLine; decide), fun p1 n1 => ?_⟩))
  refine setS [some (.ref a), some (.ref p1)] (fun G => Same H G ∧ G p1 = some (.lst [.bl (bs 0), .bl (bs 1), .bl (bs 2), .bl (bs 3), .bl (bs 4), .bl (bs 5), .bl (bs 6), .bl (bs 7)])) ⟨(h0.1.trans (same_new m0)).trans (same_new n1), upd_same⟩ (fun G1 h1 => ?_)
  have hx1 := hx.mono h1.1
  refine ⟨_, rfl, ?_⟩
  refine ⟨_, rfl, Or.inr ⟨a, C, _, _, bs 8, rfl, .own _, T, hx1, hk 8 (by decide), ?_⟩⟩
  refine ⟨_, rfl, Or.inr ⟨a, C, _, _, bs 9, rfl, .own _, T, hx1, hk 9 (by decide), ?_⟩⟩
  refine ⟨_, rfl, Or.inr ⟨a, C, _, _, bs 10, rfl, .own _, T, hx1, hk 10 (by decide), ?_⟩⟩
  refine ⟨_, rfl, Or.inr ⟨a, C, _, _, bs 11, rfl, .own _, T, hx1, hk 11 (by decide), ?_⟩⟩
  refine ⟨(by show 4 ≤ sizeLine; decide), fun q1 m1 => ?_⟩
  refine Or.inr (Or.inr (Or.inl ⟨_, _, _, _, rfl, rfl, (upd_ne (ne_of_none h1.2 m1)).trans h1.2, upd_same, (by show 12 ≤ sizeLine; decide), fun p2 n2 => ?_⟩))
  refine setS [some (.ref a), some (.ref p2)] (fun G => Same H G ∧ G p2 = some (.lst [.bl (bs 0), .bl (bs 1), .bl (bs 2), .bl (bs 3), .bl (bs 4), .bl (bs 5), .bl (bs 6), .bl (bs 7), .bl (bs 8), .bl (bs 9), .bl (bs 10), .bl (bs 11)])) ⟨(h1.1.trans (same_new m1)).trans (same_new n2), upd_same⟩ (fun G2 h2 => ?_)
  have hx2 := hx.mono h2.1
  refine ⟨_, rfl, ?_⟩
  refine ⟨_, rfl, Or.inr ⟨a, C, _, _, bs 12, rfl, .own _, T, hx2, hk 12 (by decide), ?_⟩⟩
  refine ⟨_, rfl, Or.inr ⟨a, C, _, _, bs 13, rfl, .own _, T, hx2, hk 13 (by decide), ?_⟩⟩
  refine ⟨_, rfl, Or.inr ⟨a, C, _, _, bs 14, rfl, .own _, T, hx2, hk 14 (by decide), ?_⟩⟩
  refine ⟨_, rfl, Or.inr ⟨a, C, _, _, bs 15, rfl, .own _, T, hx2, hk 15 (by decide), ?_⟩⟩
  refine ⟨(by show 4 ≤ sizeLine; decide), fun q2 m2 => ?_⟩
  refine Or.inr (Or.inr (Or.inl ⟨_, _, _, _, rfl, rfl, (upd_ne (ne_of_none h2.2 m2)).trans h2.2, upd_same, (by show 16 ≤ sizeLine; decide), fun p3 n3 => ?_⟩))
  refine setS [some (.ref a), some (.ref p3)] (fun G => Same H G ∧ G p3 = some (.lst [.bl (bs 0), .bl (bs 1), .bl (bs 2), .bl (bs 3), .bl (bs 4), .bl (bs 5), .bl (bs 6), .bl (bs 7), .bl (bs 8), .bl (bs 9), .bl (bs 10), .bl (bs 11), .bl (bs 12), .bl (bs 13), .bl (bs 14), .bl (bs 15)])) ⟨(h2.1.trans (same_new m2)).trans (same_new n3), upd_same⟩ (fun G3 h3 => ?_)
  have hx3 := hx.mono h3.1
  refine ⟨_, rfl, ?_⟩
  refine ⟨_, rfl, Or.inr ⟨a, C, _, _, bs 16, rfl, .own _, T, hx3, hk 16 (by decide), ?_⟩⟩
  refine ⟨_, rfl, Or.inr ⟨a, C, _, _, bs 17, rfl, .own _, T, hx3, hk 17 (by decide), ?_⟩⟩
  refine ⟨_, rfl, Or.inr ⟨a, C, _, _, bs 18, rfl, .own _, T, hx3, hk 18 (by decide), ?_⟩⟩
  refine ⟨_, rfl, Or.inr ⟨a, C, _, _, bs 19, rfl, .own _, T, hx3, hk 19 (by decide), ?_⟩⟩
  refine ⟨(by show 4 ≤ sizeLine; decide), fun q3 m3 => ?_⟩
  refine Or.inr (Or.inr (Or.inl ⟨_, _, _, _, rfl, rfl, (upd_ne (ne_of_none h3.2 m3)).trans h3.2, upd_same, (by show 20 ≤ sizeLine; decide), fun p4 n4 => ?_⟩))
  refine setS [some (.ref a), some (.ref p4)] (fun G => Same H G ∧ G p4 = some (.lst [.bl (bs 0), .bl (bs 1), .bl (bs 2), .bl (bs 3), .bl (bs 4), .bl (bs 5), .bl (bs 6), .bl (bs 7), .bl (bs 8), .bl (bs 9), .bl (bs 10), .bl (bs 11), .bl (bs 12), .bl (bs 13), .bl (bs 14), .bl (bs 15), .bl (bs 16), .bl (bs 17), .bl (bs 18), .bl (bs 19)])) ⟨(h3.1.trans (same_new m3)).trans (same_new n4), upd_same⟩ (fun G4 h4 => ?_)
  have hx4 := hx.mono h4.1
  refine ⟨_, rfl, ?_⟩
  refine ⟨_, rfl, Or.inr ⟨a, C, _, _, bs 20, rfl, .own _, T, hx4, hk 20 (by decide), ?_⟩⟩
  refine ⟨(by show 1 ≤ sizeLine; decide), fun q4 m4 => ?_⟩
  refine Or.inr (Or.inr (Or.inl ⟨_, _, _, _, rfl, rfl, (upd_ne (ne_of_none h4.2 m4)).trans h4.2, upd_same, (by show 21 ≤ sizeLine; decide), fun p n => ?_⟩))
  exact q p _ ((h4.1.trans (same_new m4)).trans (same_new n)) upd_same
theorem ok_fields {f : Addr} {fd : FuncData} (F : Fun K "_law_fields" "_law_fields" s_law_fields f fd) (hX : ∀ i, i < 21 → XfC K (c i)) (hN : ∀ i, i < 21 → ∀ n ∈ errNames i, PySem.W.findIn K (.ref (c i)) n = some none) : FnOk P w K mg base CX0 1 f fd ["_law_some"] (spFields c) := by
  refine F.ok sc_law_fields (fun vs H Q E h => ?_) (fun cdv A outer s H vs Q E hr h => ?_)
  · obtain ⟨s, es, B, x, y, z, rfl, _⟩ := h
    rfl
  obtain ⟨s, es, B, x, y, z, rfl, hs, ⟨a, rfl, he⟩, q⟩ := h
  have hu := hu_of hr
  refine ⟨_, (pss_cons (ps_set (i := 1) sc_law_fields.nd rfl (.inl rfl) (pe_lst (pa_cons (pe_xv (K := K) (pe_ix (ix_k (K := K) hu) (pv 0) pe_int (fun _ _ => rfl))) (pa_cons (pe_xv (K := K) (pe_ix (ix_k (K := K) hu) (pv 0) pe_int (fun _ _ => rfl))) (pa_cons (pe_xv (K := K) (pe_ix (ix_k (K := K) hu) (pv 0) pe_int (fun _ _ => rfl))) (pa_cons (pe_xv (K := K) (pe_ix (ix_k (K := K) hu) (pv 0) pe_int (fun _ _ => rfl))) (pa_cons (pe_xv (K := K) (pe_ix (ix_k (K := K) hu) (pv 0) pe_int (fun _ _ => rfl))) (pa_cons (pe_xv (K := K) (pe_ix (ix_k (K := K) hu) (pv 0) pe_int (fun _ _ => rfl))) pa_nil)))))))) (pss_cons (ps_set (i := 1) sc_law_fields.nd rfl (.inl rfl) (pe_op (op_addk (K := K)) (pv 1) (pe_lst (pa_cons (pe_xv (K := K) (pe_ix (ix_k (K := K) hu) (pv 0) pe_int (fun _ _ => rfl))) (pa_cons (pe_xv (K := K) (pe_ix (ix_k (K := K) hu) (pv 0) pe_int (fun _ _ => rfl))) (pa_cons (pe_xv (K := K) (pe_ix (ix_k (K := K) hu) (pv 0) pe_int (fun _ _ => rfl))) (pa_cons (pe_xv (K := K) (pe_ix (ix_k (K := K) hu) (pv 0) pe_int (fun _ _ => rfl))) (pa_cons (pe_xv (K := K) (pe_ix (ix_k (K := K) hu) (pv 0) pe_int (fun _ _ => rfl))) (pa_cons (pe_xv (K := K) (pe_ix (ix_k (K := K) hu) (pv 0) pe_int (fun _ _ => rfl))) pa_nil))))))))) (pss_cons (ps_set (i := 1) sc_law_fields.nd rfl (.inl rfl) (pe_op (op_addk (K := K)) (pv 1) (pe_lst (pa_cons (pe_xv (K := K) (pe_ix (ix_k (K := K) hu) (pv 0) pe_int (fun _ _ => rfl))) (pa_cons (pe_xv (K := K) (pe_ix (ix_k (K := K) hu) (pv 0) pe_int (fun _ _ => rfl))) (pa_cons (pe_xv (K := K) (pe_ix (ix_k (K := K) hu) (pv 0) pe_int (fun _ _ => rfl))) pa_nil)))))) (pss_cons (ps_set (i := 2) sc_law_fields.nd rfl (.inl rfl) (pe_lst (pa_cons (pe_xv (K := K) (pe_ix (ix_k (K := K) hu) (pv 0) pe_int (fun _ _ => rfl))) (pa_cons (pe_xv (K := K) (pe_ix (ix_k (K := K) hu) (pv 0) pe_int (fun _ _ => rfl))) (pa_cons (pe_xv (K := K) (pe_ix (ix_k (K := K) hu) (pv 0) pe_int (fun _ _ => rfl))) (pa_cons (pe_xv (K := K) (pe_ix (ix_k (K := K) hu) (pv 0) pe_int (fun _ _ => rfl))) (pa_cons (pe_xv (K := K) (pe_ix (ix_k (K := K) hu) (pv 0) pe_int (fun _ _ => rfl))) pa_nil))))))) (pss_one (ps_ret (pe_lst (pa_cons (pv 1) (pa_cons (pv 2) (pa_cons (pe_lst (pa_cons (pe_xv (K := K) (pe_ix (ix_k (K := K) hu) (pv 0) pe_int (fun _ _ => rfl))) pa_nil)) pa_nil)))))))))), ?_⟩
  have st : ∀ {G : Hp}, Same H G → ∀ i, i < 21 → EL B G (a i) (c i) (errTab x y z i) := fun e i hi => (he i hi).same fun c o _ q => e c o q
  have sm0 := Same.refl H
  obtain ⟨d0, f0, u0, v0, w0⟩ := fldx (st sm0 0 (by decide)) (show (("place" : Str), x) ∈ errTab x y z 0 by simp [errTab])
  refine ⟨_, rfl, Or.inl ⟨_, _, _, _, rfl, rfl, SqL.of (sm0 _ _ hs), rfl, _, _, d0, f0, _, rfl, hX 0 (by decide), hN 0 (by decide) "place" (by simp [errNames]), u0, v0, w0, ?_⟩⟩
  obtain ⟨d1, f1, u1, v1, w1⟩ := fldx (st sm0 1 (by decide)) (show (("function" : Str), x) ∈ errTab x y z 1 by simp [errTab])
  refine ⟨_, rfl, Or.inl ⟨_, _, _, _, rfl, rfl, SqL.of (sm0 _ _ hs), rfl, _, _, d1, f1, _, rfl, hX 1 (by decide), hN 1 (by decide) "function" (by simp [errNames]), u1, v1, w1, ?_⟩⟩
  obtain ⟨d2, f2, u2, v2, w2⟩ := fldx (st sm0 2 (by decide)) (show (("many" : Str), x) ∈ errTab x y z 2 by simp [errTab])
  refine ⟨_, rfl, Or.inl ⟨_, _, _, _, rfl, rfl, SqL.of (sm0 _ _ hs), rfl, _, _, d2, f2, _, rfl, hX 2 (by decide), hN 2 (by decide) "many" (by simp [errNames]), u2, v2, w2, ?_⟩⟩
  obtain ⟨d3, f3, u3, v3, w3⟩ := fldx (st sm0 3 (by decide)) (show (("function" : Str), x) ∈ errTab x y z 3 by simp [errTab])
  refine ⟨_, rfl, Or.inl ⟨_, _, _, _, rfl, rfl, SqL.of (sm0 _ _ hs), rfl, _, _, d3, f3, _, rfl, hX 3 (by decide), hN 3 (by decide) "function" (by simp [errNames]), u3, v3, w3, ?_⟩⟩
  obtain ⟨d4, f4, u4, v4, w4⟩ := fldx (st sm0 4 (by decide)) (show (("function" : Str), x) ∈ errTab x y z 4 by simp [errTab])
  refine ⟨_, rfl, Or.inl ⟨_, _, _, _, rfl, rfl, SqL.of (sm0 _ _ hs), rfl, _, _, d4, f4, _, rfl, hX 4 (by decide), hN 4 (by decide) "function" (by simp [errNames]), u4, v4, w4, ?_⟩⟩
  obtain ⟨d5, f5, u5, v5, w5⟩ := fldx (st sm0 5 (by decide)) (show (("function" : Str), x) ∈ errTab x y z 5 by simp [errTab])
  refine ⟨_, rfl, Or.inl ⟨_, _, _, _, rfl, rfl, SqL.of (sm0 _ _ hs), rfl, _, _, d5, f5, _, rfl, hX 5 (by decide), hN 5 (by decide) "function" (by simp [errNames]), u5, v5, w5, ?_⟩⟩
  refine ⟨(by show 6 ≤ sizeLine; decide), fun p0 n0 => ?_⟩
  refine setS [some (.ref s), some (.ref p0), none] (fun G => Same H G ∧ H p0 = none ∧ G p0 = some (.lst [x, x, x, x, x, x])) ⟨same_new n0, n0, upd_same⟩ (fun G0 h0 => ?_)
  obtain ⟨sm1, _, hp0⟩ := h0
  refine ⟨_, rfl, ?_⟩
  obtain ⟨d6, f6, u6, v6, w6⟩ := fldx (st sm1 6 (by decide)) (show (("name" : Str), x) ∈ errTab x y z 6 by simp [errTab])
  refine ⟨_, rfl, Or.inl ⟨_, _, _, _, rfl, rfl, SqL.of (sm1 _ _ hs), rfl, _, _, d6, f6, _, rfl, hX 6 (by decide), hN 6 (by decide) "name" (by simp [errNames]), u6, v6, w6, ?_⟩⟩
  obtain ⟨d7, f7, u7, v7, w7⟩ := fldx (st sm1 10 (by decide)) (show (("at" : Str), x) ∈ errTab x y z 10 by simp [errTab])
  refine ⟨_, rfl, Or.inl ⟨_, _, _, _, rfl, rfl, SqL.of (sm1 _ _ hs), rfl, _, _, d7, f7, _, rfl, hX 10 (by decide), hN 10 (by decide) "at" (by simp [errNames]), u7, v7, w7, ?_⟩⟩
  obtain ⟨d8, f8, u8, v8, w8⟩ := fldx (st sm1 11 (by decide)) (show (("at" : Str), x) ∈ errTab x y z 11 by simp [errTab])
  refine ⟨_, rfl, Or.inl ⟨_, _, _, _, rfl, rfl, SqL.of (sm1 _ _ hs), rfl, _, _, d8, f8, _, rfl, hX 11 (by decide), hN 11 (by decide) "at" (by simp [errNames]), u8, v8, w8, ?_⟩⟩
  obtain ⟨d9, f9, u9, v9, w9⟩ := fldx (st sm1 12 (by decide)) (show (("limit" : Str), x) ∈ errTab x y z 12 by simp [errTab])
  refine ⟨_, rfl, Or.inl ⟨_, _, _, _, rfl, rfl, SqL.of (sm1 _ _ hs), rfl, _, _, d9, f9, _, rfl, hX 12 (by decide), hN 12 (by decide) "limit" (by simp [errNames]), u9, v9, w9, ?_⟩⟩
  obtain ⟨d10, f10, u10, v10, w10⟩ := fldx (st sm1 13 (by decide)) (show (("word" : Str), x) ∈ errTab x y z 13 by simp [errTab])
  refine ⟨_, rfl, Or.inl ⟨_, _, _, _, rfl, rfl, SqL.of (sm1 _ _ hs), rfl, _, _, d10, f10, _, rfl, hX 13 (by decide), hN 13 (by decide) "word" (by simp [errNames]), u10, v10, w10, ?_⟩⟩
  obtain ⟨d11, f11, u11, v11, w11⟩ := fldx (st sm1 14 (by decide)) (show (("why" : Str), x) ∈ errTab x y z 14 by simp [errTab])
  refine ⟨_, rfl, Or.inl ⟨_, _, _, _, rfl, rfl, SqL.of (sm1 _ _ hs), rfl, _, _, d11, f11, _, rfl, hX 14 (by decide), hN 14 (by decide) "why" (by simp [errNames]), u11, v11, w11, ?_⟩⟩
  refine ⟨(by show 6 ≤ sizeLine; decide), fun q0 m0 => ?_⟩
  refine Or.inr (Or.inr (Or.inl ⟨_, _, _, _, rfl, rfl, (upd_ne (ne_of_none hp0 m0)).trans hp0, upd_same, (by show 12 ≤ sizeLine; decide), fun p1 n1 => ?_⟩))
  refine setS [some (.ref s), some (.ref p1), none] (fun G => Same H G ∧ G p1 = some (.lst [x, x, x, x, x, x, x, x, x, x, x, x])) ⟨(sm1.trans (same_new m0)).trans (same_new n1), upd_same⟩ (fun G1 h1 => ?_)
  obtain ⟨sm2, hp1⟩ := h1
  refine ⟨_, rfl, ?_⟩
  obtain ⟨d12, f12, u12, v12, w12⟩ := fldx (st sm2 16 (by decide)) (show (("limit" : Str), x) ∈ errTab x y z 16 by simp [errTab])
  refine ⟨_, rfl, Or.inl ⟨_, _, _, _, rfl, rfl, SqL.of (sm2 _ _ hs), rfl, _, _, d12, f12, _, rfl, hX 16 (by decide), hN 16 (by decide) "limit" (by simp [errNames]), u12, v12, w12, ?_⟩⟩
  obtain ⟨d13, f13, u13, v13, w13⟩ := fldx (st sm2 17 (by decide)) (show (("deed" : Str), x) ∈ errTab x y z 17 by simp [errTab])
  refine ⟨_, rfl, Or.inl ⟨_, _, _, _, rfl, rfl, SqL.of (sm2 _ _ hs), rfl, _, _, d13, f13, _, rfl, hX 17 (by decide), hN 17 (by decide) "deed" (by simp [errNames]), u13, v13, w13, ?_⟩⟩
  obtain ⟨d14, f14, u14, v14, w14⟩ := fldx (st sm2 18 (by decide)) (show (("many" : Str), x) ∈ errTab x y z 18 by simp [errTab])
  refine ⟨_, rfl, Or.inl ⟨_, _, _, _, rfl, rfl, SqL.of (sm2 _ _ hs), rfl, _, _, d14, f14, _, rfl, hX 18 (by decide), hN 18 (by decide) "many" (by simp [errNames]), u14, v14, w14, ?_⟩⟩
  refine ⟨(by show 3 ≤ sizeLine; decide), fun q1 m1 => ?_⟩
  refine Or.inr (Or.inr (Or.inl ⟨_, _, _, _, rfl, rfl, (upd_ne (ne_of_none hp1 m1)).trans hp1, upd_same, (by show 15 ≤ sizeLine; decide), fun p2 n2 => ?_⟩))
  refine setS [some (.ref s), some (.ref p2), none] (fun G => Same H G ∧ H p2 = none ∧ G p2 = some (.lst (List.replicate 15 x))) ⟨(sm2.trans (same_new m1)).trans (same_new n2), (sm2.trans (same_new m1)).free n2, upd_same⟩ (fun G2 h2 => ?_)
  obtain ⟨sm3, hn2, hp2⟩ := h2
  obtain ⟨d15, f15, u15, v15, w15⟩ := fldx (st sm3 1 (by decide)) (show (("address" : Str), y) ∈ errTab x y z 1 by simp [errTab])
  refine ⟨_, rfl, Or.inl ⟨_, _, _, _, rfl, rfl, SqL.of (sm3 _ _ hs), rfl, _, _, d15, f15, _, rfl, hX 1 (by decide), hN 1 (by decide) "address" (by simp [errNames]), u15, v15, w15, ?_⟩⟩
  obtain ⟨d16, f16, u16, v16, w16⟩ := fldx (st sm3 3 (by decide)) (show (("name" : Str), y) ∈ errTab x y z 3 by simp [errTab])
  refine ⟨_, rfl, Or.inl ⟨_, _, _, _, rfl, rfl, SqL.of (sm3 _ _ hs), rfl, _, _, d16, f16, _, rfl, hX 3 (by decide), hN 3 (by decide) "name" (by simp [errNames]), u16, v16, w16, ?_⟩⟩
  obtain ⟨d17, f17, u17, v17, w17⟩ := fldx (st sm3 4 (by decide)) (show (("address" : Str), y) ∈ errTab x y z 4 by simp [errTab])
  refine ⟨_, rfl, Or.inl ⟨_, _, _, _, rfl, rfl, SqL.of (sm3 _ _ hs), rfl, _, _, d17, f17, _, rfl, hX 4 (by decide), hN 4 (by decide) "address" (by simp [errNames]), u17, v17, w17, ?_⟩⟩
  obtain ⟨d18, f18, u18, v18, w18⟩ := fldx (st sm3 13 (by decide)) (show (("function" : Str), y) ∈ errTab x y z 13 by simp [errTab])
  refine ⟨_, rfl, Or.inl ⟨_, _, _, _, rfl, rfl, SqL.of (sm3 _ _ hs), rfl, _, _, d18, f18, _, rfl, hX 13 (by decide), hN 13 (by decide) "function" (by simp [errNames]), u18, v18, w18, ?_⟩⟩
  obtain ⟨d19, f19, u19, v19, w19⟩ := fldx (st sm3 17 (by decide)) (show (("why" : Str), y) ∈ errTab x y z 17 by simp [errTab])
  refine ⟨_, rfl, Or.inl ⟨_, _, _, _, rfl, rfl, SqL.of (sm3 _ _ hs), rfl, _, _, d19, f19, _, rfl, hX 17 (by decide), hN 17 (by decide) "why" (by simp [errNames]), u19, v19, w19, ?_⟩⟩
  refine ⟨(by show 5 ≤ sizeLine; decide), fun p3 n3 => ?_⟩
  refine setS [some (.ref s), some (.ref p2), some (.ref p3)] (fun G => Same H G ∧ H p3 = none ∧ G p2 = some (.lst (List.replicate 15 x)) ∧ G p3 = some (.lst (List.replicate 5 y))) ⟨sm3.trans (same_new n3), sm3.free n3, (upd_ne (ne_of_none hp2 n3)).trans hp2, upd_same⟩ (fun G3 h3 => ?_)
  obtain ⟨sm4, hn3, hp2, hp3⟩ := h3
  refine ⟨_, rfl, _, rfl, ?_⟩
  obtain ⟨d20, f20, u20, v20, w20⟩ := fldx (st sm4 13 (by decide)) (show (("address" : Str), z) ∈ errTab x y z 13 by simp [errTab])
  refine ⟨_, rfl, Or.inl ⟨_, _, _, _, rfl, rfl, SqL.of (sm4 _ _ hs), rfl, _, _, d20, f20, _, rfl, hX 13 (by decide), hN 13 (by decide) "address" (by simp [errNames]), u20, v20, w20, ?_⟩⟩
  refine ⟨(by show 1 ≤ sizeLine; decide), fun p4 n4 => ⟨(by show 3 ≤ sizeLine; decide), fun r n5 => ?_⟩⟩
  have sm5 := sm4.trans (same_new (o := .lst [z]) n4)
  have hp2' := (same_new (o := .lst [z]) n4) _ _ hp2
  have hp3' := (same_new (o := .lst [z]) n4) _ _ hp3
  have sn := same_new (o := .lst [.ref p2, .ref p3, .ref p4]) n5
  exact q r p2 p3 p4 _ (sm5.trans sn) (sm5.free n5) upd_same hn2 (sn _ _ hp2') hn3 (sn _ _ hp3') (sm4.free n4) (sn _ _ upd_same)
/-! ### alike: twins -/
def spAlikeT (K : PySem.W.Frag) : Sp := fun vs H Q _ => ∃ (a b : Addr) (d : PyData), vs = [.ref a, .ref b] ∧ a ≠ b ∧ Tw K H (.ref a) (.ref b) d ∧ tame d = true ∧ d.depth ≤ 60 ∧ szb d ≤ 16777216 ∧ Q (.bl true) H
theorem ok_alike {f : Addr} {fd : FuncData} (F : Fun K "_law_alike" "_law_alike" s_law_alike f fd) (hsys : SysB base) (m_repr : mg "repr" = none) : FnG P w K mg base CX0 1 f fd ["_law_found", "_law_due"] (spAlikeT K) := by
  refine okG F sc_law_alike (fun vs H Q E h => ?_) (fun cdv A outer s H vs Q E hG hr h => ?_)
  · obtain ⟨a, b, d, rfl, _⟩ := h
    rfl
  obtain ⟨a, b, d, rfl, ne, tw, ta, dep, sz, q⟩ := h
  have hu64 := hr.units
  have room : d.shown.length ≤ sizeLine := Nat.le_trans (shown_len d ta) (by rw [sizeLine_eq]; exact sz)
  refine ⟨_, (pss_one (ps_ret (pe_andTk (K := K) (pe_cmpR (op_eqTk (K := K) hsys hu64) (pv 0) (pv 1) (nomark _)) (pe_one (pe_cmpR (op_eqk (K := K) hu64) (pe_callB (call_reprTk (K := K) hsys hG hu64) (by rfl) m_repr (by decide +kernel) (pa_cons (pv 0) pa_nil)) (pe_callB (call_reprTk (K := K) hsys hG hu64) (by rfl) m_repr (by decide +kernel) (pa_cons (pv 1) pa_nil)) (nomark _)))))), ?_⟩
  refine ⟨_, rfl, _, rfl, a, b, d, rfl, rfl, ne, tw, dep, _, rfl, ?_⟩
  refine iteT ?_
  refine ⟨_, rfl, a, _, _, d, rfl, tw, .inl rfl, tame_showable d ta, dep, room, _, rfl, b, _, _, d, rfl, tw, .inr rfl, tame_showable d ta, dep, room, Or.inl ⟨rfl, ?_⟩⟩
  rw [decide_eq_true rfl]
  exact q
end
end K11

namespace K11
open PySem PySem.Spec PyProof.Rows L2 VL
/-! ### the three things of a turn -/
structure T3 (t : Nat → V) (F : Nat → List Addr) (n : Nat) (G : Hp) : Prop where
  tg : ∀ k, k < 3 → Tg G n (t k) (F k)
  dj : ∀ j k, j < 3 → k < 3 → j ≠ k → ∀ a ∈ F k, a ∉ F j
theorem T3.keep {t : Nat → V} {F : Nat → List Addr} {n : Nat} {G G' : Hp} (h : T3 t F n G) (e : Same G G') : T3 t F n G' := ⟨fun k hk => (h.tg k hk).keep fun a o _ q => e a o q, h.dj⟩
/-- the things so far, in the list at D; all new since B -/
def ThA (B : Hp) (D : Addr) (G : Hp) (acc : List V) : Prop := ∃ F : Nat → List Addr, (∀ k v, acc[k]? = some v → Tg G 1 v (F k)) ∧ (∀ k, k < acc.length → ∀ a ∈ F k, B a = none ∧ a ≠ D) ∧ (∀ j k, j < acc.length → k < acc.length → j ≠ k → ∀ a ∈ F k, a ∉ F j)
theorem ThA.step {B G G3 : Hp} {b cl D : Addr} {acc : List V} {v : V} {Fv : List Addr} {o : HO} (h : ThA B D G acc) (hD : G D = some (.lst acc)) (bag : Bag B b cl) (k0 : BagK b cl B G) (k3 : BagK b cl G G3) (tv : Tg G3 1 v Fv) (nv : ∀ a ∈ Fv, G a = none) : ThA B D (upd G3 D o) (acc ++ [v]) := by
  obtain ⟨F, h1, h2, h3⟩ := h
  have nb : ∀ a, B a = none → a ≠ b := fun a e z => bag.neb a z e
  have vB : ∀ a ∈ Fv, B a = none ∧ a ≠ D := fun a ha => by
    refine ⟨k0.2.free (fun z => ?_) (nv a ha), fun z => ?_⟩
    · have e := nv a ha
      exact k0.1.neb a z e
    · have e := nv a ha
      rw [z, hD] at e
      cases e
  have tr : ∀ k, k < acc.length → ∀ a ∈ F k, ∃ o, G a = some o := fun k hk a ha => by
    obtain ⟨o, e, _⟩ := (h1 k _ (List.getElem?_eq_getElem hk)).there a ha
    exact ⟨o, e⟩
  refine ⟨fun k => if k = acc.length then Fv else F k, fun k u hk => ?_, fun k hk => ?_, fun j k hj hk ne => ?_⟩
  · dsimp only
    by_cases e : k = acc.length
    · rw [if_pos e]
      rw [e, List.getElem?_append_right (Nat.le_refl _), Nat.sub_self] at hk
      have z : v = u := by simpa using hk
      rw [← z]
      exact tv.keep fun a o ha q => by rw [upd_ne (vB a ha).2]; exact q
    · rw [if_neg e]
      have hl : k < acc.length := by
        have z := (List.getElem?_eq_some_iff.mp hk).1
        rw [List.length_append] at z
        have z2 : k < acc.length + 1 := z
        omega
      rw [List.getElem?_append_left hl] at hk
      exact (h1 k u hk).keep fun a o ha q => by
        rw [upd_ne (h2 k hl a ha).2]
        exact k3.2 a o (nb a (h2 k hl a ha).1) q
  · dsimp only
    by_cases e : k = acc.length
    · rw [if_pos e]
      exact vB
    · rw [if_neg e]
      rw [List.length_append] at hk
      have z2 : k < acc.length + 1 := hk
      exact h2 k (by omega)
  · rw [List.length_append] at hj hk
    have hj2 : j < acc.length + 1 := hj
    have hk2 : k < acc.length + 1 := hk
    intro a ha hz
    dsimp only at ha hz
    by_cases ek : k = acc.length
    · rw [if_pos ek] at ha
      have ej : ¬ j = acc.length := fun z => ne (z.trans ek.symm)
      rw [if_neg ej] at hz
      obtain ⟨o, e⟩ := tr j (by omega) a hz
      rw [nv a ha] at e
      cases e
    · rw [if_neg ek] at ha
      by_cases ej : j = acc.length
      · rw [if_pos ej] at hz
        obtain ⟨o, e⟩ := tr k (by omega) a ha
        rw [nv a hz] at e
        cases e
      · rw [if_neg ej] at hz
        exact h3 j k (by omega) (by omega) ne a ha hz
theorem ThA.three {B G : Hp} {D : Addr} {acc : List V} (h : ThA B D G acc) (l : acc.length = 3) : ∃ (t : Nat → V) (F : Nat → List Addr), acc = [t 0, t 1, t 2] ∧ T3 t F 1 G ∧ ∀ k, k < 3 → ∀ a ∈ F k, B a = none ∧ a ≠ D := by
  obtain ⟨F, h1, h2, h3⟩ := h
  match acc, l with
  | [x, y, z], _ =>
    refine ⟨fun k => [x, y, z].getD k .non, F, rfl, ⟨fun k hk => ?_, fun j k hj hk ne => h3 j k hj hk ne⟩, fun k hk => h2 k hk⟩
    match k, hk with
    | 0, _ => exact h1 0 x rfl
    | 1, _ => exact h1 1 y rfl
    | 2, _ => exact h1 2 z rfl
    | k + 3, h => exact absurd h (by omega)
/-- data of many of one thing -/
theorem rep_all {d : PyData} (h : tame d = true) : ∀ n : Nat, tameAll (List.replicate n d) = true ∧ PyData.depthAll (List.replicate n d) ≤ d.depth ∧ szbAll (List.replicate n d) = n * (szb d + 2)
  | 0 => ⟨rfl, Nat.zero_le _, by show 0 = _; omega⟩
  | n + 1 => by
    obtain ⟨h1, h2, h3⟩ := rep_all h n
    refine ⟨?_, ?_, ?_⟩
    · show (tame d && tameAll (List.replicate n d)) = true
      rw [h, h1]; rfl
    · show PyData.depthAll (d :: List.replicate n d) ≤ _
      simp only [PyData.depthAll]
      omega
    · show szb d + 2 + szbAll (List.replicate n d) = (n + 1) * (szb d + 2)
      rw [h3, Nat.add_mul]
      omega
/-- the two triples of lists are twins -/
theorem twin3 {K : PySem.W.Frag} {G : Hp} {t : Nat → V} {F : Nat → List Addr} {n : Nat} (T : T3 t F n G) (hn : n ≤ 100) {r p q u r' p' q' u' : Addr} (hr : G r = some (.lst [.ref p, .ref q, .ref u])) (hp : G p = some (.lst (List.replicate 15 (t 0)))) (hq : G q = some (.lst (List.replicate 5 (t 1)))) (hu : G u = some (.lst [t 2]))
    (hr' : G r' = some (.lst [.ref p', .ref q', .ref u'])) (hp' : G p' = some (.lst (List.replicate 15 (t 0)))) (hq' : G q' = some (.lst (List.replicate 5 (t 1)))) (hu' : G u' = some (.lst [t 2])) (nr : r ≠ r') (np : p ≠ p') (nq : q ≠ q') (nu : u ≠ u') :
    ∃ d, Tw K G (.ref r) (.ref r') d ∧ tame d = true ∧ d.depth ≤ 60 ∧ szb d ≤ 16777216 := by
  obtain ⟨d0, a0, b0, c0, e0⟩ := (T.tg 0 (by decide)).dr (K := K) hn
  obtain ⟨d1, a1, b1, c1, e1⟩ := (T.tg 1 (by decide)).dr (K := K) hn
  obtain ⟨d2, a2, b2, c2, e2⟩ := (T.tg 2 (by decide)).dr (K := K) hn
  obtain ⟨x0, y0, z0⟩ := rep_all b0 15
  obtain ⟨x1, y1, z1⟩ := rep_all b1 5
  refine ⟨.list [.list (List.replicate 15 d0), .list (List.replicate 5 d1), .list [d2]], .lst nr (SqL.of hr) (SqL.of hr') (.cons (.lst np (SqL.of hp) (SqL.of hp') (TwAll.rep a0 15)) (.cons (.lst nq (SqL.of hq) (SqL.of hq') (TwAll.rep a1 5)) (.cons (.lst nu (SqL.of hu) (SqL.of hu') (.cons (.same a2) .nil)) .nil))), ?_, ?_, ?_⟩
  · show (tameAll (List.replicate 15 d0) && (tameAll (List.replicate 5 d1) && ((tame d2 && true) && true))) = true
    rw [x0, x1, b2]; rfl
  · simp only [PyData.depth, PyData.depthAll] at *
    omega
  · show szbAll (List.replicate 15 d0) + 3 + 2 + (szbAll (List.replicate 5 d1) + 3 + 2 + ((szb d2 + 2 + 0) + 3 + 2 + 0)) + 3 ≤ _
    rw [z0, z1]
    omega
/-- how a thing may be changed -/
theorem Tg.chg {K : PySem.W.Frag} {H : Hp} {n : Nat} {v : V} {F : List Addr} (h : Tg H n v F) : ∃ (ty : String) (b1 b2 : Bool), TyX K H v (.type ty) ∧ kitB ty "list" = some b1 ∧ kitB ty "dict" = some b2 ∧
    (b1 = true → ∃ p xs, v = .ref p ∧ p ∈ F ∧ H p = some (.lst xs) ∧ xs.length ≤ n + 2 ∧ Tg (upd H p (.lst (xs ++ [.str "new"]))) (n + 1) v F) ∧
    (b2 = true → ∃ p kvs, v = .ref p ∧ p ∈ F ∧ H p = some (.dK kvs) ∧ kvs.length ≤ 2 ∧ Tg (upd H p (.dK (putK kvs (.inr "b") (.int 2)))) n v F) := by
  have fnew : Fl (.str "new") := .inr (.inr (.inr ⟨_, rfl, by decide +kernel, by decide +kernel⟩))
  have fapp : ∀ {xs : List V}, (∀ x ∈ xs, Fl x) → ∀ x ∈ xs ++ [.str "new"], Fl x := fun hf x hx => by
    rcases List.mem_append.mp hx with z | z
    · exact hf x z
    · rw [List.mem_singleton.mp z]; exact fnew
  cases h with
  | flat h =>
    rcases h with rfl | ⟨b, rfl⟩ | ⟨i, rfl, _⟩ | ⟨z, rfl, _⟩
    · exact ⟨_, false, false, .base .non, by decide +kernel, by decide +kernel, fun h => Bool.noConfusion h, fun h => Bool.noConfusion h⟩
    · exact ⟨_, false, false, .base (.bl b), by decide +kernel, by decide +kernel, fun h => Bool.noConfusion h, fun h => Bool.noConfusion h⟩
    · exact ⟨_, false, false, .base (.int i), by decide +kernel, by decide +kernel, fun h => Bool.noConfusion h, fun h => Bool.noConfusion h⟩
    · exact ⟨_, false, false, .base (.str z), by decide +kernel, by decide +kernel, fun h => Bool.noConfusion h, fun h => Bool.noConfusion h⟩
  | tup hp hq => exact ⟨_, false, false, .base (.tup hp), by decide +kernel, by decide +kernel, fun h => Bool.noConfusion h, fun h => Bool.noConfusion h⟩
  | @lst p xs hp hf hn =>
    refine ⟨_, true, false, .base (.lst hp), by decide +kernel, by decide +kernel, fun _ => ⟨p, xs, rfl, by simp, hp, by omega, .lst upd_same (fapp hf) ?_⟩, fun h => Bool.noConfusion h⟩
    rw [List.length_append]
    exact Nat.succ_le_succ hn
  | @ls2 p q xs hp hq ne hf hn =>
    refine ⟨_, true, false, .base (.lst hp), by decide +kernel, by decide +kernel, fun _ => ⟨p, _, rfl, by simp, hp, ?_, .ls2 (xs := xs ++ [.str "new"]) upd_same ((upd_ne ne.symm).trans hq) ne (fapp hf) ?_⟩, fun h => Bool.noConfusion h⟩
    · show xs.length + 1 + 1 ≤ _
      omega
    · rw [List.length_append]
      exact Nat.succ_le_succ hn
  | @dct p kvs hp hk =>
    refine ⟨_, false, true, .base (.dK hp), by decide +kernel, by decide +kernel, fun h => Bool.noConfusion h, fun _ => ⟨p, kvs, rfl, by simp, hp, ?_, .dct upd_same (.inr ?_)⟩⟩
    · rcases hk with rfl | rfl <;> decide
    · rcases hk with rfl | rfl <;> rfl
theorem T3.put {t : Nat → V} {F : Nat → List Addr} {n m i : Nat} {G : Hp} {p : Addr} {o : HO} (h : T3 t F n G) (e : n ≤ m) (hi : i < 3) (hp : p ∈ F i) (hT : Tg (upd G p o) m (t i) (F i)) : T3 t F m (upd G p o) := by
  refine ⟨fun k hk => ?_, h.dj⟩
  by_cases z : k = i
  · rw [z]; exact hT
  · refine ((h.tg k hk).up e).keep fun a o' ha q => ?_
    have ne : a ≠ p := fun y => h.dj i k hi hk (fun y => z y.symm) a ha (by rw [y]; exact hp)
    rw [upd_ne ne]
    exact q
theorem T3.up {t : Nat → V} {F : Nat → List Addr} {n m : Nat} {G : Hp} (h : T3 t F n G) (e : n ≤ m) : T3 t F m G := ⟨fun k hk => (h.tg k hk).up e, h.dj⟩
/-- lists of truths as data -/
theorem dp_bls {K : PySem.W.Frag} {H : Hp} : ∀ bs : List Bool, DpAll K H (bs.map V.bl) (bs.map PyData.bool)
  | [] => .nil
  | b :: bs => .cons (.bl b) (dp_bls bs)
theorem bls_tame : ∀ bs : List Bool, tameAll (bs.map PyData.bool) = true
  | [] => rfl
  | b :: bs => by
    show (tame (.bool b) && tameAll (bs.map PyData.bool)) = true
    rw [bls_tame bs]; rfl
theorem bls_nodict : ∀ bs : List Bool, PyData.hasDictAll (bs.map PyData.bool) = false
  | [] => rfl
  | b :: bs => by
    show (PyData.hasDict (.bool b) || PyData.hasDictAll (bs.map PyData.bool)) = false
    rw [bls_nodict bs]; rfl
theorem bls_depth : ∀ bs : List Bool, PyData.depthAll (bs.map PyData.bool) = 0
  | [] => rfl
  | b :: bs => by
    show max (PyData.depth (.bool b)) (PyData.depthAll (bs.map PyData.bool)) = 0
    rw [bls_depth bs]; rfl
theorem bls_shaped (bs : List Bool) : SeqAt.shaped (.list (bs.map PyData.bool)) = true ∧ PyData.eqv (.list (bs.map PyData.bool)) (.list (bs.map PyData.bool)) = true := by
  have ta : tame (.list (bs.map PyData.bool)) = true := bls_tame bs
  have nd : PyData.hasDict (.list (bs.map PyData.bool)) = false := by simpa only [PyData.hasDict] using bls_nodict bs
  have cl := tame_canLay _ ta nd
  refine ⟨?_, SeqAt.eqv_refl _ cl⟩
  have dep : PyData.depth (.list (bs.map PyData.bool)) = 1 := by simp only [PyData.depth, bls_depth]
  show (PyData.canLay0 _ && decide (PyData.depth _ ≤ 64)) = true
  rw [cl, dep]
  rfl
/-- no truth among these -/
theorem no_true : ∀ n : Nat, inV (.bl true) ((List.range n).map fun _ => V.bl false) = false := fun n => by
  unfold inV
  rw [List.any_eq_false]
  intro y hy
  obtain ⟨_, _, rfl⟩ := List.mem_map.mp hy
  decide
theorem all_flat (bs : Nat → Bool) (n : Nat) : ((List.range n).map fun j => V.bl (bs j)).all flatV = true := by
  rw [List.all_eq_true]
  intro y hy
  obtain ⟨_, _, rfl⟩ := List.mem_map.mp hy
  rfl
/-- the classes: which are of which -/
structure Kits (K : PySem.W.Frag) (c : Nat → Addr) (cB : Addr) : Prop where
  ex : ∀ i, i < 21 → ExA K (c i)
  exB : ExA K cB
  kk : ∀ i j, i < 21 → j < 21 → PySem.W.kitOne K (.ref (c i)) (.ref (c j)) = some (decide (j = i))
  kB : ∀ i, i < 21 → PySem.W.kitOne K (.ref (c i)) (.ref cB) = some true
  kV : ∀ i, i < 21 → PySem.W.kitOne K (.ref (c i)) (.type "ValueError") = some true
  bk : ∀ j, j < 21 → PySem.W.kitOne K (.ref cB) (.ref (c j)) = some false
  bV : PySem.W.kitOne K (.ref cB) (.type "ValueError") = some true
theorem Bag.mono {H H' : Hp} {b cl : Addr} (h : Bag H b cl) (e : Same H H') : Bag H' b cl := by
  obtain ⟨c, st, n, ns, e1, e2, r⟩ := h
  exact ⟨c, st, n, ns, e _ _ e1, e _ _ e2, r⟩
theorem lc_map {α : Type} {xs : List α} {f : α → V} {acc : List V} (l : acc.length = xs.length) (r : ∀ (k : Nat) y, acc[k]? = some y → ∃ x, xs[k]? = some x ∧ y = f x) : acc = xs.map f := by
  refine List.ext_getElem? fun k => ?_
  rw [List.getElem?_map]
  cases e : acc[k]? with
  | none =>
    have z := List.getElem?_eq_none_iff.mp e
    rw [List.getElem?_eq_none (by omega)]
    rfl
  | some y =>
    obtain ⟨x, hx, rfl⟩ := r k y e
    rw [hx]
    rfl
/-! ### the law -/
def spLaw (K : PySem.W.Frag) : Sp := fun vs H Q _ => ∃ (a : Addr) (ns : List Int), vs = [.ref a] ∧ SqL K H a (ns.map V.int) ∧ ns.length ≤ 63 ∧ ∀ H', Q (.bl true) H'
section
variable {P : Program} {w : World} {K : PySem.W.Frag} {mg : Str → Option Value} {base : Heap} {c : Nat → Addr} {cB : Addr}
theorem ok_law {f : Addr} {fd : FuncData} (F : Fun K "law" "law" s_law f fd) (Z : Kits K c cB) (c_law_bag : C8.Cal P w K mg base 1 "_law_bag" (spBag K) []) (c_law_thing : C8.Cal P w K mg base 2 "_law_thing" spThing []) (c_law_errors : C8.Cal P w K mg base 3 "_law_errors" (spErrs c) [])
    (c_law_kinds : C8.Cal P w K mg base 1 "_law_kinds" (spKinds K c) []) (c_law_fields : C8.Cal P w K mg base 1 "_law_fields" (spFields c) []) (c_law_alike : CalG P w K mg base 1 "_law_alike" (spAlikeT K) []) (c_BackError : MkE K mg "BackError" cB) (g_BackError : ∃ u, mg "BackError" = some u ∧ RelV (.ref cB) u)
    (m_range : mg "range" = none) (m_enumerate : mg "enumerate" = none) (m_isinstance : mg "isinstance" = none) (m_list : mg "list" = none) (m_dict : mg "dict" = none) (m_ValueError : mg "ValueError" = none) : FnG P w K mg base CX0 4 f fd ["_law_script"] (spLaw K) := by
  refine okG F sc_law (fun vs H Q E h => ?_) (fun cdv A outer s H vs Q E hG hr h => ?_)
  · obtain ⟨a, ns, rfl, _⟩ := h
    rfl
  obtain ⟨a, ns, rfl, hS, h63, q⟩ := h
  have hu := hu_of hr
  have hu64 := hr.units
  refine ⟨_, (pss_cons (ps_set (i := 1) sc_law.nd rfl (.inr rfl) (C8.pe_c c_law_bag hr (by decide) rfl (pa_cons (pv 0) pa_nil))) (pss_cons (ps_for PassesOwn.never rfl (pi_range1 rfl m_range (pa_cons pe_int pa_nil)) (pg_name (i := 2) sc_law.nd rfl (.inl rfl)) (pss_cons (ps_setLc (i := 3) (own := [("_law_k", 8)]) (g := gName 8) (tt := tYes) rfl sc_law.nd rfl rfl (sw_true rfl rfl rfl (by decide +kernel)) (pi_range1 rfl m_range (pa_cons pe_int pa_nil)) (blkOk_by (own := [("_law_k", 8)]) (N := ["_law_script", "_law_bag_here", "_law_turn", "_law_things", "_law_some", "_law_thing_here", "_law_at", "_law_e", "_law_k"]) (sc := defScope s_law) (by decide +kernel)) (fun _ _ _ _ _ => (pg_name (i := 8) sc_law.nd rfl (.inl rfl))) (fun _ _ _ _ _ => pts_nil) (fun _ _ _ _ _ => (C8.pe_c c_law_thing hr (by decide) rfl (pa_cons (pv 1) pa_nil)))) (pss_cons (ps_set (i := 4) sc_law.nd rfl (.inl rfl) (C8.pe_c c_law_errors hr (by decide) rfl (pa_cons (pe_ix (ix_k (K := K) hu) (pv 3) pe_int (fun _ _ => rfl)) (pa_cons (pe_ix (ix_k (K := K) hu) (pv 3) pe_int (fun _ _ => rfl)) (pa_cons (pe_ix (ix_k (K := K) hu) (pv 3) pe_int (fun _ _ => rfl)) pa_nil))))) (pss_cons (ps_if (pt_not (pt_trk (K := K) (pe_cG c_law_alike hG hr (by decide) rfl (pa_cons (C8.pe_c c_law_fields hr (by decide) rfl (pa_cons (pv 4) pa_nil)) (pa_cons (pe_lst (pa_cons (pe_op op_mulU (pe_lst (pa_cons (pe_ix (ix_k (K := K) hu) (pv 3) pe_int (fun _ _ => rfl)) pa_nil)) pe_int) (pa_cons (pe_op op_mulU (pe_lst (pa_cons (pe_ix (ix_k (K := K) hu) (pv 3) pe_int (fun _ _ => rfl)) pa_nil)) pe_int) (pa_cons (pe_lst (pa_cons (pe_ix (ix_k (K := K) hu) (pv 3) pe_int (fun _ _ => rfl)) pa_nil)) pa_nil)))) pa_nil))) (by intro _; rfl))) (pss_one (ps_ret pe_bl)) pss_nil) (pss_cons (ps_for PassesOwn.never rfl (pi_listk (K := K) (pv 3)) (pg_name (i := 5) sc_law.nd rfl (.inl rfl)) (C8.pss_cut (ps_if (pt_trk (K := K) (pe_callB (call_isXk (K := K)) (by rfl) m_isinstance (by decide +kernel) (pa_cons (pv 5) (pa_cons (pe_bltn (v := .ty "list") rfl m_list (show bootBuiltins "list" = some (.type "list") by decide +kernel) rfl) pa_nil))) (by intro _; rfl)) (pss_one (ps_expr (pe_bmk (K := K) PySem.F.plainAttrs_list PySem.F.slot_list_append PySem.F.type_list_append mt_append (pv 5) (pa_cons pe_str pa_nil)))) pss_nil) (pss_one (ps_if (pt_trk (K := K) (pe_callB (call_isXk (K := K)) (by rfl) m_isinstance (by decide +kernel) (pa_cons (pv 5) (pa_cons (pe_bltn (v := .ty "dict") rfl m_dict (show bootBuiltins "dict" = some (.type "dict") by decide +kernel) rfl) pa_nil))) (by intro _; rfl)) (pss_one (ps_asg pe_int (pg_sub (pv 5) pe_str (set_dict hu)))) pss_nil)))) (pss_cons (ps_if (pt_not (pt_trk (K := K) (pe_cG c_law_alike hG hr (by decide) rfl (pa_cons (C8.pe_c c_law_fields hr (by decide) rfl (pa_cons (pv 4) pa_nil)) (pa_cons (pe_lst (pa_cons (pe_op op_mulU (pe_lst (pa_cons (pe_ix (ix_k (K := K) hu) (pv 3) pe_int (fun _ _ => rfl)) pa_nil)) pe_int) (pa_cons (pe_op op_mulU (pe_lst (pa_cons (pe_ix (ix_k (K := K) hu) (pv 3) pe_int (fun _ _ => rfl)) pa_nil)) pe_int) (pa_cons (pe_lst (pa_cons (pe_ix (ix_k (K := K) hu) (pv 3) pe_int (fun _ _ => rfl)) pa_nil)) pa_nil)))) pa_nil))) (by intro _; rfl))) (pss_one (ps_ret pe_bl)) pss_nil) (pss_cons (ps_for PassesOwn.never rfl (pi_enumk (K := K) (by rfl) m_enumerate (pa_cons (pv 4) pa_nil)) (pg_tupk (K := K) rfl (pgs_cons (pg_name (i := 6) sc_law.nd rfl (.inr rfl)) (pgs_cons (pg_name (i := 7) sc_law.nd rfl (.inl rfl)) pgs_nil))) (pss_cons (ps_if (pt_cmpR (op_nek (K := K) hu64) (C8.pe_c c_law_kinds hr (by decide) rfl (pa_cons (pv 7) pa_nil)) (pe_lc (own := [("_law_k", 8)]) (g := gName 8) (tt := tYes) rfl sc_law.nd (pi_range1 rfl m_range (pa_cons pe_int pa_nil)) (blkOk_by (own := [("_law_k", 8)]) (N := ["_law_script", "_law_bag_here", "_law_turn", "_law_things", "_law_some", "_law_thing_here", "_law_at", "_law_e", "_law_k"]) (sc := defScope s_law) (by decide +kernel)) (fun _ _ _ _ _ => (pg_name (i := 8) sc_law.nd rfl (.inl rfl))) (fun _ _ _ _ _ => pts_nil) (fun _ _ _ _ _ => (pe_cmpR (op_eqk (K := K) hu64) (pv 8) (pv 6) (nomark _)))) (nomark _)) (pss_one (ps_ret pe_bl)) pss_nil) (pss_one (ps_if (PW.pt (pw_or (pt_not (pt_trk (K := K) (pe_callB (call_isXk (K := K)) (by rfl) m_isinstance (by decide +kernel) (pa_cons (pv 7) (pa_cons (C8.pe_gc rfl g_BackError) pa_nil))) (by intro _; rfl))) (pw_or1 (pt_not (pt_trk (K := K) (pe_callB (call_isXk (K := K)) (by rfl) m_isinstance (by decide +kernel) (pa_cons (pv 7) (pa_cons (pe_bltn (v := .ty "ValueError") rfl m_ValueError (show bootBuiltins "ValueError" = some (.type "ValueError") by decide +kernel) rfl) pa_nil))) (by intro _; rfl)))))) (pss_one (ps_ret pe_bl)) pss_nil)))) (pss_one (ps_for PassesOwn.never rfl (pi_listk (K := K) (pe_lst (pa_cons (pe_mkE c_BackError rfl (pa_cons (pe_ix (ix_k (K := K) hu) (pv 3) pe_int (fun _ _ => rfl)) pa_nil)) (pa_cons (pe_mkE0 c_BackError rfl) (pa_cons (pe_mkE c_BackError rfl (pa_cons pe_str (pa_cons pe_int pa_nil))) pa_nil))))) (pg_name (i := 7) sc_law.nd rfl (.inl rfl)) (pss_one (ps_if (PW.pt (pw_or (pt_cmpR (op_ink (K := K) hu) pe_bl (C8.pe_c c_law_kinds hr (by decide) rfl (pa_cons (pv 7) pa_nil)) rfl) (pw_or1 (pt_not (pt_trk (K := K) (pe_callB (call_isXk (K := K)) (by rfl) m_isinstance (by decide +kernel) (pa_cons (pv 7) (pa_cons (pe_bltn (v := .ty "ValueError") rfl m_ValueError (show bootBuiltins "ValueError" = some (.type "ValueError") by decide +kernel) rfl) pa_nil))) (by intro _; rfl)))))) (pss_one (ps_ret pe_bl)) pss_nil))))))))))) (pss_one (ps_ret pe_bl)))), ?_⟩
  refine ⟨_, rfl, _, _, rfl, hS, h63, fun b cl G1 bag1 sm1 => ?_⟩
  refine ⟨_, rfl, by decide, by decide, for_range (lo := 0) (n := 5) (fun i σ G => (∃ o2 o3 o4 o5 o6 o7, σ = [some (.ref a), some (.ref b), o2, o3, o4, o5, o6, o7, none]) ∧ Bag G b cl) ⟨⟨_, _, _, _, _, _, rfl⟩, bag1⟩ ?_ (fun σ G h => ?_)⟩
  case refine_2 => exact q G
  rintro turn σ B hturn ⟨⟨o2, o3, o4, o5, o6, o7, rfl⟩, bag⟩
  -- three things
  refine ⟨_, rfl, by decide, by decide, fun D hD => ?_⟩
  have hDt := bag.tracked hD
  refine lcR (n := 3) (fun _ _ => True) (fun G => BagK b cl B G ∧ ∀ acc, G D = some (.lst acc) → ThA B D G acc) ⟨(BagK.refl bag).new hD, fun acc h => ?_⟩ (fun i G hi hP => ?_) (fun G hP => ?_)
  · rw [upd_same] at h
    cases h
    exact ⟨fun _ => [], fun k v h => by simp at h, fun k h => absurd h (by simp), fun j k h => absurd h (by simp)⟩
  · obtain ⟨acc, la, ra, hacc, iv, th⟩ := hP.get
    refine ⟨_, rfl, _, _, rfl, iv.1, fun v Fv G3 k3 tv nv => ?_⟩
    have hacc3 : G3 D = some (.lst acc) := k3.at hDt.1 hacc
    refine LcQ.mk la ra hacc3 (small1000 (by omega)) trivial ⟨(iv.trans k3).put bag hD, fun acc' h => ?_⟩
    rw [upd_same] at h
    cases h
    exact (th acc hacc).step hacc bag iv k3 tv nv
  obtain ⟨acc, la, ra, hacc, iv, th⟩ := hP.get
  obtain ⟨t, F, rfl, T, nd⟩ := (th acc hacc).three la
  refine setS [some (.ref a), some (.ref b), some (.int (0 + turn)), some (.ref D), o4, o5, o6, o7, none] (fun G => BagK b cl B G ∧ G D = some (.lst [t 0, t 1, t 2]) ∧ T3 t F 1 G) ⟨iv, hacc, T⟩ (fun G2 h2 => ?_)
  obtain ⟨k2, hD2, T2⟩ := h2
  -- the errors
  refine ⟨_, rfl, Or.inl ⟨_, _, _, _, rfl, rfl, SqL.of hD2, rfl, ?_⟩⟩
  refine ⟨_, rfl, Or.inl ⟨_, _, _, _, rfl, rfl, SqL.of hD2, rfl, ?_⟩⟩
  refine ⟨_, rfl, Or.inl ⟨_, _, _, _, rfl, rfl, SqL.of hD2, rfl, ?_⟩⟩
  refine ⟨t 0, t 1, t 2, rfl, fun s es G3 sm3 ns hs he => ?_⟩
  refine setS [some (.ref a), some (.ref b), some (.int (0 + turn)), some (.ref D), some (.ref s), o5, o6, o7, none] (fun G => Same G2 G ∧ G s = some (.lst es) ∧ ErrsAt G2 G c (t 0) (t 1) (t 2) es) ⟨sm3, hs, he⟩ (fun G4 h4 => ?_)
  obtain ⟨sm4, hs4, he4⟩ := h4
  -- alike
  refine ⟨_, rfl, s, es, G2, t 0, t 1, t 2, rfl, hs4, he4, fun r p q0 u X0 sx nr hr0 np hp nq hq nu hu0 => ?_⟩
  refine ⟨_, rfl, Or.inl ⟨_, _, _, _, rfl, rfl, SqL.of (sx _ _ (sm4 _ _ hD2)), rfl, ?_⟩⟩
  refine ⟨(by show 1 ≤ sizeLine; decide), fun w0 m0 => Or.inr (Or.inr ⟨_, _, _, rfl, rfl, upd_same, by decide, by decide, (by show 1 * 15 ≤ sizeLine; decide), fun p1 m1 => ?_⟩)⟩
  refine absT (fun G => Same X0 G ∧ X0 p1 = none ∧ G p1 = some (.lst (List.replicate 15 (t 0)))) ⟨(same_new m0).trans (same_new m1), (same_new m0).free m1, upd_same⟩ (fun X1 x1 => ?_)
  obtain ⟨y1, np1, hp1⟩ := x1
  refine ⟨_, rfl, Or.inl ⟨_, _, _, _, rfl, rfl, SqL.of (y1 _ _ (sx _ _ (sm4 _ _ hD2))), rfl, ?_⟩⟩
  refine ⟨(by show 1 ≤ sizeLine; decide), fun w1 m2 => Or.inr (Or.inr ⟨_, _, _, rfl, rfl, upd_same, by decide, by decide, (by show 1 * 5 ≤ sizeLine; decide), fun q1 m3 => ?_⟩)⟩
  refine absT (fun G => Same X1 G ∧ X1 q1 = none ∧ G q1 = some (.lst (List.replicate 5 (t 1)))) ⟨(same_new m2).trans (same_new m3), (same_new m2).free m3, upd_same⟩ (fun X2 x2 => ?_)
  obtain ⟨y2, nq1, hq1⟩ := x2
  refine ⟨_, rfl, Or.inl ⟨_, _, _, _, rfl, rfl, SqL.of (y2 _ _ (y1 _ _ (sx _ _ (sm4 _ _ hD2)))), rfl, ?_⟩⟩
  refine ⟨(by show 1 ≤ sizeLine; decide), fun u1 m4 => ⟨(by show 3 ≤ sizeLine; decide), fun r1 m5 => ?_⟩⟩
  have y3 := same_new (o := .lst [t 2]) m4
  have y4 := same_new (o := .lst [.ref p1, .ref q1, .ref u1]) m5
  have yy := ((y1.trans y2).trans y3).trans y4
  obtain ⟨d, tw, ta, dep, sz⟩ := twin3 (K := K) (((T2.keep sm4).keep sx).keep yy) (n := 1) (by decide) (yy _ _ hr0) (yy _ _ hp) (yy _ _ hq) (yy _ _ hu0) upd_same (y4 _ _ (y3 _ _ (y2 _ _ hp1))) (y4 _ _ (y3 _ _ hq1)) (y4 _ _ upd_same) (ne_of_none (y3 _ _ (y2 _ _ (y1 _ _ hr0))) m5) (ne_of_none hp np1) (ne_of_none (y1 _ _ hq) nq1) (ne_of_none (y2 _ _ (y1 _ _ hu0)) m4)
  refine ⟨r, r1, d, rfl, ne_of_none (y3 _ _ (y2 _ _ (y1 _ _ hr0))) m5, tw, ta, dep, sz, _, rfl, ?_⟩
  refine iteF ?_
  -- the things are changed
  have sA := sx.trans yy
  have sl : ∀ o5 o6 o7 : Option V, True := fun _ _ _ => trivial
  dsimp only
  refine absS [some (.ref a), some (.ref b), some (.int (0 + turn)), some (.ref D), some (.ref s), o5, o6, o7, none] (fun G => Bag G b cl ∧ G D = some (.lst [t 0, t 1, t 2]) ∧ G s = some (.lst es) ∧ T3 t F 1 G ∧ ErrsAt G2 G c (t 0) (t 1) (t 2) es) ⟨k2.1.mono (sm4.trans sA), sA _ _ (sm4 _ _ hD2), sA _ _ hs4, (T2.keep sm4).keep sA, he4.same fun c o _ q => sA c o q⟩ (fun G5 h5 => ?_)
  clear yy y1 y2 y3 y4 sA
  obtain ⟨bag5, hD5, hs5, T5, he5⟩ := h5
  -- every address of a thing was there ahead of the errors, and was not there ahead of the turn
  have trF : ∀ k, k < 3 → ∀ a ∈ F k, ∃ o, G2 a = some o := fun k hk a ha => by
    obtain ⟨o, e, _⟩ := (T2.tg k hk).there a ha
    exact ⟨o, e⟩
  have ne2 : ∀ {p : Addr}, G2 p = none → ¬ ∃ k, k < 3 ∧ p ∈ F k := fun n ⟨k, hk, ha⟩ => by
    obtain ⟨o, e⟩ := trF k hk _ ha
    rw [n] at e
    cases e
  have neB : ∀ {p : Addr}, B p ≠ none → ¬ ∃ k, k < 3 ∧ p ∈ F k := fun n ⟨k, hk, ha⟩ => n (nd k hk _ ha).1
  have neD : ¬ ∃ k, k < 3 ∧ D ∈ F k := fun ⟨k, hk, ha⟩ => (nd k hk _ ha).2 rfl
  have bne : B b ≠ none ∧ B cl ≠ none := by
    obtain ⟨_, _, _, _, e1, e2, _⟩ := bag
    rw [e1, e2]
    exact ⟨by simp, by simp⟩
  refine ⟨_, rfl, _, rfl, ⟨_, SqL.of hD5⟩, for_list (K := K) (a := D) (xs := [t 0, t 1, t 2]) (fun i σ H => (∃ o5, σ = [some (.ref a), some (.ref b), some (.int (0 + turn)), some (.ref D), some (.ref s), o5, o6, o7, none]) ∧ T3 t F (1 + i) H ∧ Keeps (fun a => ∃ k, k < 3 ∧ a ∈ F k) G5 H) ⟨⟨_, rfl⟩, T5, Keeps.refl⟩ ?_ ?_ ?_⟩
  · rintro i σ H _ ⟨_, _, kp⟩
    exact SqL.of (kp _ _ neD hD5)
  · rintro i x σ H hx ⟨⟨o5, rfl⟩, TH, kp⟩
    have hi : i < 3 := by
      have z := (List.getElem?_eq_some_iff.mp hx).1
      exact z
    have ex : x = t i := by
      match i, hi with
      | 0, _ => exact (Option.some.inj hx).symm
      | 1, _ => exact (Option.some.inj hx).symm
      | 2, _ => exact (Option.some.inj hx).symm
      | k + 3, h => exact absurd h (by omega)
    have hT := TH.tg i hi
    rw [← ex] at hT
    obtain ⟨ty, b1, b2, hty, e1, e2, L, _⟩ := hT.chg (K := K)
    refine ⟨fun σ' H' => σ' = [some (.ref a), some (.ref b), some (.int (0 + turn)), some (.ref D), some (.ref s), some x, o6, o7, none] ∧ T3 t F (1 + (i + 1)) H' ∧ Keeps (fun a => ∃ k, k < 3 ∧ a ∈ F k) G5 H', ?_, ?_⟩
    · refine ⟨_, rfl, Or.inl ⟨_, _, _, _, _, rfl, .ty _, hty, kit_ty e1, _, rfl, ?_⟩⟩
      cases b1 with
      | false => exact iteF ⟨rfl, TH.up (by omega), kp⟩
      | true =>
        refine iteT ?_
        obtain ⟨p, xs, ev, hp, hH, lx, hT'⟩ := L rfl
        subst ev
        refine ⟨_, rfl, .inl ⟨rfl, _, SqL.of hH⟩, p, xs, _, rfl, rfl, hH, small1000 (by omega), rfl, ?_, kp.updS ⟨i, hi, hp⟩⟩
        refine TH.put (by omega) hi hp ?_
        rw [← ex]
        exact hT'
    · rintro σ' H' ⟨rfl, TH', kp'⟩
      have hT' := TH'.tg i hi
      rw [← ex] at hT'
      obtain ⟨ty, b1, b2, hty, e1, e2, _, Dk⟩ := hT'.chg (K := K)
      refine ⟨_, rfl, Or.inl ⟨_, _, _, _, _, rfl, .ty _, hty, kit_ty e2, _, rfl, ?_⟩⟩
      cases b2 with
      | false => exact iteF ⟨⟨_, rfl⟩, TH', kp'⟩
      | true =>
        refine iteT ?_
        obtain ⟨p, kvs, ev, hp, hH, lx, hT''⟩ := Dk rfl
        subst ev
        refine ⟨_, rfl, p, _, rfl, DPut.k (k := .inr "b") hH (small1000 (by omega)), ⟨_, rfl⟩, ?_, kp'.updS ⟨i, hi, hp⟩⟩
        refine TH'.put (Nat.le_refl _) hi hp ?_
        rw [← ex]
        exact hT''
  rintro σ G6 ⟨⟨o5, rfl⟩, T6, kp6⟩
  have bag6 : Bag G6 b cl := by
    obtain ⟨c1, st1, n1, ns1, e1, e2, r1⟩ := bag5
    exact ⟨c1, st1, n1, ns1, kp6 _ _ (neB bne.1) e1, kp6 _ _ (neB bne.2) e2, r1⟩
  have hD6 := kp6 _ _ neD hD5
  have hs6 := kp6 _ _ (ne2 ns) hs5
  have he6 := he5.same fun c o n q => kp6 c o (ne2 n) q
  -- alike
  refine ⟨_, rfl, s, es, G2, t 0, t 1, t 2, rfl, hs6, he6, fun r p q0 u X0 sx nr hr0 np hp nq hq nu hu0 => ?_⟩
  refine ⟨_, rfl, Or.inl ⟨_, _, _, _, rfl, rfl, SqL.of (sx _ _ hD6), rfl, ?_⟩⟩
  refine ⟨(by show 1 ≤ sizeLine; decide), fun w0 m0 => Or.inr (Or.inr ⟨_, _, _, rfl, rfl, upd_same, by decide, by decide, (by show 1 * 15 ≤ sizeLine; decide), fun p1 m1 => ?_⟩)⟩
  refine absT (fun G => Same X0 G ∧ X0 p1 = none ∧ G p1 = some (.lst (List.replicate 15 (t 0)))) ⟨(same_new m0).trans (same_new m1), (same_new m0).free m1, upd_same⟩ (fun X1 x1 => ?_)
  obtain ⟨y1, np1, hp1⟩ := x1
  refine ⟨_, rfl, Or.inl ⟨_, _, _, _, rfl, rfl, SqL.of (y1 _ _ (sx _ _ hD6)), rfl, ?_⟩⟩
  refine ⟨(by show 1 ≤ sizeLine; decide), fun w1 m2 => Or.inr (Or.inr ⟨_, _, _, rfl, rfl, upd_same, by decide, by decide, (by show 1 * 5 ≤ sizeLine; decide), fun q1 m3 => ?_⟩)⟩
  refine absT (fun G => Same X1 G ∧ X1 q1 = none ∧ G q1 = some (.lst (List.replicate 5 (t 1)))) ⟨(same_new m2).trans (same_new m3), (same_new m2).free m3, upd_same⟩ (fun X2 x2 => ?_)
  obtain ⟨y2, nq1, hq1⟩ := x2
  refine ⟨_, rfl, Or.inl ⟨_, _, _, _, rfl, rfl, SqL.of (y2 _ _ (y1 _ _ (sx _ _ hD6))), rfl, ?_⟩⟩
  refine ⟨(by show 1 ≤ sizeLine; decide), fun u1 m4 => ⟨(by show 3 ≤ sizeLine; decide), fun r1 m5 => ?_⟩⟩
  have y3 := same_new (o := .lst [t 2]) m4
  have y4 := same_new (o := .lst [.ref p1, .ref q1, .ref u1]) m5
  have yy := ((y1.trans y2).trans y3).trans y4
  obtain ⟨d, tw, ta, dep, sz⟩ := twin3 (K := K) ((T6.keep sx).keep yy) (n := 4) (by decide) (yy _ _ hr0) (yy _ _ hp) (yy _ _ hq) (yy _ _ hu0) upd_same (y4 _ _ (y3 _ _ (y2 _ _ hp1))) (y4 _ _ (y3 _ _ hq1)) (y4 _ _ upd_same) (ne_of_none (y3 _ _ (y2 _ _ (y1 _ _ hr0))) m5) (ne_of_none hp np1) (ne_of_none (y1 _ _ hq) nq1) (ne_of_none (y2 _ _ (y1 _ _ hu0)) m4)
  refine ⟨r, r1, d, rfl, ne_of_none (y3 _ _ (y2 _ _ (y1 _ _ hr0))) m5, tw, ta, dep, sz, _, rfl, ?_⟩
  refine iteF ?_
  have sA := sx.trans yy
  dsimp only
  refine absS [some (.ref a), some (.ref b), some (.int (0 + turn)), some (.ref D), some (.ref s), o5, o6, o7, none] (fun G => Bag G b cl ∧ G D = some (.lst [t 0, t 1, t 2]) ∧ G s = some (.lst es) ∧ ErrsAt G2 G c (t 0) (t 1) (t 2) es) ⟨bag6.mono sA, sA _ _ hD6, sA _ _ hs6, he6.same fun c o _ q => sA c o q⟩ (fun G7 h7 => ?_)
  clear yy y1 y2 y3 y4 sA
  obtain ⟨bag7, hD7, hs7, he7⟩ := h7
  obtain ⟨ad, hes, hel⟩ := he7
  have les : es.length = 21 := by rw [hes]; simp
  -- each of one class alone
  refine ⟨_, rfl, s, es, rfl, SqL.of hs7, for_it walk_enum (fun i σ H => (∃ o6 o7, σ = [some (.ref a), some (.ref b), some (.int (0 + turn)), some (.ref D), some (.ref s), o5, o6, o7, none]) ∧ Same G7 H) ⟨⟨_, _, rfl⟩, Same.refl _⟩ (fun i σ H _ h => SqL.of (h.2 _ _ hs7)) ?_ ?_⟩
  · rintro i x σ H H' hi ⟨⟨o6, o7, rfl⟩, sm⟩ ⟨T0, p, v, hx, nT, hH', ep, ev⟩
    subst hx hH'
    have ep' : p = .int (i : Nat) := (Option.some.inj ep).symm
    subst ep'
    have hi21 : i < 21 := by rw [← les]; exact hi
    have ev' : v = .ref (ad i) := by
      have ev2 : es[i]? = some v := ev
      rw [hes, List.getElem?_map, List.getElem?_eq_getElem (by simpa using hi21)] at ev2
      have z := Option.some.inj ev2
      rw [← z]
      simp
    subst ev'
    have sH := sm.trans (same_new (o := .tup [.int (i : Nat), .ref (ad i)]) nT)
    have hX : ExAt (upd H T0 (.tup [.int (i : Nat), .ref (ad i)])) (ad i) (c i) := (hel i hi21).ex.mono sH
    refine ⟨_, _, rfl, SqT.of upd_same, rfl, _, _, rfl, _, _, rfl, rfl, ?_⟩
    refine ⟨_, rfl, ad i, c i, fun j => decide (j = i), rfl, Z.ex i hi21, hX, fun j hj => Z.kk i j hi21 hj, fun r H2 s2 hr2 => ?_⟩
    refine ⟨_, rfl, by decide, by decide, fun D2 hD2' => ?_⟩
    refine lcR (n := 21) (fun k y => y = .bl (decide (k = i))) (fun G => Same H2 G) (same_new hD2') (fun k G hk hP => ?_) (fun G hP => ?_)
    · obtain ⟨acc, la, ra, hacc, iv⟩ := hP.get
      refine ⟨_, rfl, _, rfl, Or.inl ⟨rfl, ?_⟩⟩
      refine LcQ.mk la ra hacc (small1000 (by omega)) ?_ (fun c o q => ?_)
      · congr 1
        rw [dec_int]
        rw [Bool.eq_iff_iff, beq_iff_eq, decide_eq_true_iff]
        omega
      · rw [upd_ne (ne_of_none q hD2')]
        exact iv c o q
    · obtain ⟨acc, la, ra, hacc, iv⟩ := hP.get
      have e := lc_map (xs := List.range 21) (f := fun k => V.bl (decide (k = i))) (by rw [la]; simp) (fun k y h => by
        have hk : k < 21 := by
          have z := (List.getElem?_eq_some_iff.mp h).1
          omega
        exact ⟨k, by simp [hk], ra k y h⟩)
      have e2 : ((List.range 21).map fun j => V.bl (decide (j = i))) = ((List.range 21).map fun j => decide (j = i)).map V.bl := by rw [List.map_map]; rfl
      rw [e, e2] at hacc
      rw [e2] at hr2
      obtain ⟨sh, eqv⟩ := bls_shaped ((List.range 21).map fun j => decide (j = i))
      refine Or.inr ⟨_, _, .lst (SqL.of (iv _ _ hr2)) (dp_bls _), .lst (SqL.of hacc) (dp_bls _), sh, sh, _, rfl, ?_⟩
      rw [eqv]
      refine iteF ?_
      have hX' := hX.mono (s2.trans iv)
      refine ⟨_, rfl, Or.inr ⟨ad i, c i, _, _, true, rfl, .own _, Z.ex i hi21, hX', Z.kB i hi21, _, rfl, ?_⟩⟩
      refine iteF ⟨_, rfl, Or.inr ⟨ad i, c i, _, _, true, rfl, .ty _, Z.ex i hi21, hX', Z.kV i hi21, _, rfl, ?_⟩⟩
      exact iteF ⟨⟨_, _, rfl⟩, (sH.trans s2).trans iv⟩
  rintro σ G8 ⟨⟨o6, o7, rfl⟩, sm8⟩
  -- errors of no class but the first
  refine ⟨_, rfl, Or.inl ⟨_, _, _, _, rfl, rfl, SqL.of (sm8 _ _ hD7), rfl, ?_⟩⟩
  refine ⟨(by show 1 ≤ 1000; decide), fun x0 n0 => ⟨(by show 0 ≤ 1000; decide), fun x1 n1 => ⟨(by show 2 ≤ 1000; decide), fun x2 n2 => ⟨(by show 3 ≤ sizeLine; decide), fun l nl => ?_⟩⟩⟩⟩
  have z0 := same_new (o := ExO (.ref cB) x0) n0
  have z1 := same_new (o := ExO (.ref cB) x1) n1
  have z2 := same_new (o := ExO (.ref cB) x2) n2
  have z3 := same_new (o := .lst [.ref x0, .ref x1, .ref x2]) nl
  have hx0 := z3 _ _ (z2 _ _ (z1 _ _ (show (upd G8 x0 (ExO (.ref cB) x0)) x0 = some (ExO (.ref cB) x0) from upd_same)))
  have hx1 := z3 _ _ (z2 _ _ (show (upd (upd G8 x0 (ExO (.ref cB) x0)) x1 (ExO (.ref cB) x1)) x1 = some (ExO (.ref cB) x1) from upd_same))
  have hx2 := z3 _ _ (show (upd (upd (upd G8 x0 (ExO (.ref cB) x0)) x1 (ExO (.ref cB) x1)) x2 (ExO (.ref cB) x2)) x2 = some (ExO (.ref cB) x2) from upd_same)
  have zz := ((z0.trans z1).trans z2).trans z3
  refine ⟨_, rfl, ⟨_, SqL.of upd_same⟩, for_list (K := K) (a := l) (xs := [.ref x0, .ref x1, .ref x2]) (fun i σ H => (∃ o7, σ = [some (.ref a), some (.ref b), some (.int (0 + turn)), some (.ref D), some (.ref s), o5, o6, o7, none]) ∧ Same _ H) ⟨⟨_, rfl⟩, Same.refl _⟩ (fun i σ H _ h => SqL.of (h.2 _ _ upd_same)) ?_ ?_⟩
  · rintro i x σ H hx ⟨⟨o7, rfl⟩, sm⟩
    obtain ⟨y, rfl, hy⟩ : ∃ y, x = .ref y ∧ H y = some (ExO (.ref cB) y) := by
      match i, hx with
      | 0, h => exact ⟨x0, (Option.some.inj h).symm, sm _ _ hx0⟩
      | 1, h => exact ⟨x1, (Option.some.inj h).symm, sm _ _ hx1⟩
      | 2, h => exact ⟨x2, (Option.some.inj h).symm, sm _ _ hx2⟩
      | k + 3, h => exact absurd h (by simp)
    have hX : ExAt H y cB := .inr (.inr hy)
    refine ⟨_, rfl, y, cB, fun _ => false, rfl, Z.exB, hX, fun j hj => Z.bk j hj, fun r H2 s2 hr2 => ?_⟩
    refine Or.inl ⟨r, _, rfl, .inl (SqL.of hr2), rfl, all_flat (fun _ => false) 21, _, rfl, ?_⟩
    have nt := no_true 21
    show (if (if false = true then _ else inV (.bl true) ((List.range 21).map fun _ => V.bl false)) = true then _ else _)
    rw [if_neg Bool.false_ne_true, nt]
    refine iteF ⟨_, rfl, Or.inr ⟨y, cB, _, _, true, rfl, .ty _, Z.exB, hX.mono s2, Z.bV, _, rfl, ?_⟩⟩
    exact iteF ⟨⟨_, rfl⟩, sm.trans s2⟩
  rintro σ G9 ⟨⟨o7, rfl⟩, sm9⟩
  exact ⟨⟨_, _, _, _, _, _, rfl⟩, bag7.mono (sm8.trans (zz.trans sm9))⟩
end
end K11

namespace K11
open PySem PySem.Spec PyProof.Rows L2 VL
/-- all that the written part says of the classes, asked at once -/
def kitsB (K : PySem.W.Frag) (cs : List Addr) (cB : Addr) : Bool := (cs.all fun a => exAB K a && (decide (PySem.W.kitOne K (.ref a) (.ref cB) = some true) && (decide (PySem.W.kitOne K (.ref a) (.type "ValueError") = some true) && decide (PySem.W.kitOne K (.ref cB) (.ref a) = some false)))) &&
  (exAB K cB && (decide (PySem.W.kitOne K (.ref cB) (.type "ValueError") = some true) && (List.range 21).all fun i => (List.range 21).all fun j => decide (PySem.W.kitOne K (.ref (cs.getD i 0)) (.ref (cs.getD j 0)) = some (decide (j = i)))))
theorem kitsB_ok {K : PySem.W.Frag} {cs : List Addr} {cB : Addr} (l : cs.length = 21) (h : kitsB K cs cB = true) : Kits K (fun i => cs.getD i 0) cB := by
  obtain ⟨h1, h⟩ := Bool.and_eq_true_iff.mp h
  obtain ⟨h2, h⟩ := Bool.and_eq_true_iff.mp h
  obtain ⟨h3, h4⟩ := Bool.and_eq_true_iff.mp h
  rw [List.all_eq_true] at h1
  have at_ : ∀ i, i < 21 → cs.getD i 0 ∈ cs := fun i hi => by
    rw [List.getD_eq_getElem?_getD, List.getElem?_eq_getElem (by omega)]
    exact List.getElem_mem _
  have g : ∀ i, i < 21 → exAB K (cs.getD i 0) = true ∧ PySem.W.kitOne K (.ref (cs.getD i 0)) (.ref cB) = some true ∧ PySem.W.kitOne K (.ref (cs.getD i 0)) (.type "ValueError") = some true ∧ PySem.W.kitOne K (.ref cB) (.ref (cs.getD i 0)) = some false := fun i hi => by
    obtain ⟨a1, z⟩ := Bool.and_eq_true_iff.mp (h1 _ (at_ i hi))
    obtain ⟨a2, z⟩ := Bool.and_eq_true_iff.mp z
    obtain ⟨a3, a4⟩ := Bool.and_eq_true_iff.mp z
    exact ⟨a1, of_decide_eq_true a2, of_decide_eq_true a3, of_decide_eq_true a4⟩
  refine ⟨fun i hi => exAB_ok (g i hi).1, exAB_ok h2, fun i j hi hj => ?_, fun i hi => (g i hi).2.1, fun i hi => (g i hi).2.2.1, fun j hj => (g j hj).2.2.2, of_decide_eq_true h3⟩
  rw [List.all_eq_true] at h4
  have z := h4 i (by simpa using hi)
  rw [List.all_eq_true] at z
  exact of_decide_eq_true (z j (by simpa using hj))
/-- no field is an attribute of its class -/
def namesB (K : PySem.W.Frag) (cs : List Addr) : Bool := (List.range 21).all fun i => (errNames i).all fun n => decide (PySem.W.findIn K (.ref (cs.getD i 0)) n = some none)
theorem namesB_ok {K : PySem.W.Frag} {cs : List Addr} (h : namesB K cs = true) : ∀ i, i < 21 → ∀ n ∈ errNames i, PySem.W.findIn K (.ref (cs.getD i 0)) n = some none := fun i hi n hn => by
  unfold namesB at h
  rw [List.all_eq_true] at h
  have z := h i (by simpa using hi)
  rw [List.all_eq_true] at z
  exact of_decide_eq_true (z n hn)
/-- what ExcInit asks of a class -/
def oexB (K : PySem.W.Frag) (C fI : Addr) : Bool := decide (PySem.W.findIn K (.ref C) "__setattr__" = some (some (.builtin "object.__setattr__"))) && (decide (PySem.W.subIn K (.ref C) (.type "BaseException") = some true) && (decide (PySem.W.typeIn K (.ref C) = some (.type "type")) && (PySem.W.keepIn K (.ref C) &&
  (decide (PySem.W.findIn K (.ref C) "__init__" = some (some (.ref fI))) && (decide (PySem.W.typeIn K (.ref fI) = some (.type "function")) && PySem.W.keepIn K (.ref fI))))))
theorem oexB_ok {K : PySem.W.Frag} {C fI : Addr} (h : oexB K C fI = true) (hc : ∃ nm q N bs bm sn sub ab col dd k0 k1 k2 k3 k5, K.lookup C = some (excClassObj nm q C N bs bm true sn sub ab col dd k0 k1 k2 k3 k5 "ValueError.__new__") ∧ PySem.HandSPX.refsVE bm = true) :
    OexC K C ∧ PySem.W.findIn K (.ref C) "__init__" = some (some (.ref fI)) ∧ PySem.W.typeIn K (.ref fI) = some (.type "function") ∧ PySem.W.keepIn K (.ref fI) = true := by
  obtain ⟨h1, h⟩ := Bool.and_eq_true_iff.mp h
  obtain ⟨h2, h⟩ := Bool.and_eq_true_iff.mp h
  obtain ⟨h3, h⟩ := Bool.and_eq_true_iff.mp h
  obtain ⟨h4, h⟩ := Bool.and_eq_true_iff.mp h
  obtain ⟨h5, h⟩ := Bool.and_eq_true_iff.mp h
  obtain ⟨h6, h7⟩ := Bool.and_eq_true_iff.mp h
  exact ⟨⟨hc, of_decide_eq_true h1, of_decide_eq_true h2, of_decide_eq_true h3, h4⟩, of_decide_eq_true h5, of_decide_eq_true h6, h7⟩
theorem all_mk {l : PySem.W.OpenLaw} {w : World} {K : PySem.W.Frag} {h : Heap} {mg : Str → Option Value} {fa : Addr} (X : K.In h) (G : h.Ns mainGlobals mg) (hfa : mg "law" = some (.ref fa))
    {f_law_bag : Addr} {od_law_bag an_law_bag : Option Addr} {sl_law_bag : Array (Option Value)} {oc_law_bag kV_law_bag dc_law_bag pm_law_bag cd_law_bag ct_law_bag : Value}
    {f_law_take : Addr} {od_law_take an_law_take : Option Addr} {sl_law_take : Array (Option Value)} {oc_law_take kV_law_take dc_law_take pm_law_take cd_law_take ct_law_take : Value}
    {f_law_alike : Addr} {od_law_alike an_law_alike : Option Addr} {sl_law_alike : Array (Option Value)} {oc_law_alike kV_law_alike dc_law_alike pm_law_alike cd_law_alike ct_law_alike : Value}
    {f_law_thing : Addr} {od_law_thing an_law_thing : Option Addr} {sl_law_thing : Array (Option Value)} {oc_law_thing kV_law_thing dc_law_thing pm_law_thing cd_law_thing ct_law_thing : Value}
    {f_law_errors : Addr} {od_law_errors an_law_errors : Option Addr} {sl_law_errors : Array (Option Value)} {oc_law_errors kV_law_errors dc_law_errors pm_law_errors cd_law_errors ct_law_errors : Value}
    {f_law_kinds : Addr} {od_law_kinds an_law_kinds : Option Addr} {sl_law_kinds : Array (Option Value)} {oc_law_kinds kV_law_kinds dc_law_kinds pm_law_kinds cd_law_kinds ct_law_kinds : Value}
    {f_law_fields : Addr} {od_law_fields an_law_fields : Option Addr} {sl_law_fields : Array (Option Value)} {oc_law_fields kV_law_fields dc_law_fields pm_law_fields cd_law_fields ct_law_fields : Value}
    {f_law : Addr} {od_law an_law : Option Addr} {sl_law : Array (Option Value)} {oc_law kV_law dc_law pm_law cd_law ct_law : Value}
    {C_Wrong I_Wrong N_Wrong cB_Wrong : Addr} {nm_Wrong q_Wrong : Str} {bs_Wrong sub_Wrong : List Value} {sn_Wrong : List Str} {ab_Wrong : Bool} {col_Wrong : Option Bool} {dd_Wrong od_Wrong an_Wrong : Option Addr} {m0_Wrong m1_Wrong m2_Wrong m3_Wrong m5_Wrong : Option Value} {sl_Wrong : Array (Option Value)} {oc_Wrong kV_Wrong dc_Wrong pm_Wrong cd_Wrong ct_Wrong : Value}
    {C_BadStatement I_BadStatement N_BadStatement cB_BadStatement : Addr} {nm_BadStatement q_BadStatement : Str} {bs_BadStatement sub_BadStatement : List Value} {sn_BadStatement : List Str} {ab_BadStatement : Bool} {col_BadStatement : Option Bool} {dd_BadStatement od_BadStatement an_BadStatement : Option Addr} {m0_BadStatement m1_BadStatement m2_BadStatement m3_BadStatement m5_BadStatement : Option Value} {sl_BadStatement : Array (Option Value)} {oc_BadStatement kV_BadStatement dc_BadStatement pm_BadStatement cd_BadStatement ct_BadStatement : Value}
    {C_BadCells I_BadCells N_BadCells cB_BadCells : Addr} {nm_BadCells q_BadCells : Str} {bs_BadCells sub_BadCells : List Value} {sn_BadCells : List Str} {ab_BadCells : Bool} {col_BadCells : Option Bool} {dd_BadCells od_BadCells an_BadCells : Option Addr} {m0_BadCells m1_BadCells m2_BadCells m3_BadCells m5_BadCells : Option Value} {sl_BadCells : Array (Option Value)} {oc_BadCells kV_BadCells dc_BadCells pm_BadCells cd_BadCells ct_BadCells : Value}
    {C_BadKept I_BadKept N_BadKept cB_BadKept : Addr} {nm_BadKept q_BadKept : Str} {bs_BadKept sub_BadKept : List Value} {sn_BadKept : List Str} {ab_BadKept : Bool} {col_BadKept : Option Bool} {dd_BadKept od_BadKept an_BadKept : Option Addr} {m0_BadKept m1_BadKept m2_BadKept m3_BadKept m5_BadKept : Option Value} {sl_BadKept : Array (Option Value)} {oc_BadKept kV_BadKept dc_BadKept pm_BadKept cd_BadKept ct_BadKept : Value}
    {C_BadShut I_BadShut N_BadShut cB_BadShut : Addr} {nm_BadShut q_BadShut : Str} {bs_BadShut sub_BadShut : List Value} {sn_BadShut : List Str} {ab_BadShut : Bool} {col_BadShut : Option Bool} {dd_BadShut od_BadShut an_BadShut : Option Addr} {m0_BadShut m1_BadShut m2_BadShut m3_BadShut m5_BadShut : Option Value} {sl_BadShut : Array (Option Value)} {oc_BadShut kV_BadShut dc_BadShut pm_BadShut cd_BadShut ct_BadShut : Value}
    {C_Unknown I_Unknown N_Unknown cB_Unknown : Addr} {nm_Unknown q_Unknown : Str} {bs_Unknown sub_Unknown : List Value} {sn_Unknown : List Str} {ab_Unknown : Bool} {col_Unknown : Option Bool} {dd_Unknown od_Unknown an_Unknown : Option Addr} {m0_Unknown m1_Unknown m2_Unknown m3_Unknown m5_Unknown : Option Value} {sl_Unknown : Array (Option Value)} {oc_Unknown kV_Unknown dc_Unknown pm_Unknown cd_Unknown ct_Unknown : Value}
    {C_NoName I_NoName N_NoName cB_NoName : Addr} {nm_NoName q_NoName : Str} {bs_NoName sub_NoName : List Value} {sn_NoName : List Str} {ab_NoName : Bool} {col_NoName : Option Bool} {dd_NoName od_NoName an_NoName : Option Addr} {m0_NoName m1_NoName m2_NoName m3_NoName m5_NoName : Option Value} {sl_NoName : Array (Option Value)} {oc_NoName kV_NoName dc_NoName pm_NoName cd_NoName ct_NoName : Value}
    {C_Over I_Over N_Over cB_Over : Addr} {nm_Over q_Over : Str} {bs_Over sub_Over : List Value} {sn_Over : List Str} {ab_Over : Bool} {col_Over : Option Bool} {dd_Over od_Over an_Over : Option Addr} {m0_Over m1_Over m2_Over m3_Over m5_Over : Option Value} {sl_Over : Array (Option Value)} {oc_Over kV_Over dc_Over pm_Over cd_Over ct_Over : Value}
    {C_Unfit I_Unfit N_Unfit cB_Unfit : Addr} {nm_Unfit q_Unfit : Str} {bs_Unfit sub_Unfit : List Value} {sn_Unfit : List Str} {ab_Unfit : Bool} {col_Unfit : Option Bool} {dd_Unfit od_Unfit an_Unfit : Option Addr} {m0_Unfit m1_Unfit m2_Unfit m3_Unfit m5_Unfit : Option Value} {sl_Unfit : Array (Option Value)} {oc_Unfit kV_Unfit dc_Unfit pm_Unfit cd_Unfit ct_Unfit : Value}
    {C_Nothing I_Nothing N_Nothing cB_Nothing : Addr} {nm_Nothing q_Nothing : Str} {bs_Nothing sub_Nothing : List Value} {sn_Nothing : List Str} {ab_Nothing : Bool} {col_Nothing : Option Bool} {dd_Nothing od_Nothing an_Nothing : Option Addr} {m0_Nothing m1_Nothing m2_Nothing m3_Nothing m5_Nothing : Option Value} {sl_Nothing : Array (Option Value)} {oc_Nothing kV_Nothing dc_Nothing pm_Nothing cd_Nothing ct_Nothing : Value}
    {C_Broken I_Broken N_Broken cB_Broken : Addr} {nm_Broken q_Broken : Str} {bs_Broken sub_Broken : List Value} {sn_Broken : List Str} {ab_Broken : Bool} {col_Broken : Option Bool} {dd_Broken od_Broken an_Broken : Option Addr} {m0_Broken m1_Broken m2_Broken m3_Broken m5_Broken : Option Value} {sl_Broken : Array (Option Value)} {oc_Broken kV_Broken dc_Broken pm_Broken cd_Broken ct_Broken : Value}
    {C_BadPlacing I_BadPlacing N_BadPlacing cB_BadPlacing : Addr} {nm_BadPlacing q_BadPlacing : Str} {bs_BadPlacing sub_BadPlacing : List Value} {sn_BadPlacing : List Str} {ab_BadPlacing : Bool} {col_BadPlacing : Option Bool} {dd_BadPlacing od_BadPlacing an_BadPlacing : Option Addr} {m0_BadPlacing m1_BadPlacing m2_BadPlacing m3_BadPlacing m5_BadPlacing : Option Value} {sl_BadPlacing : Array (Option Value)} {oc_BadPlacing kV_BadPlacing dc_BadPlacing pm_BadPlacing cd_BadPlacing ct_BadPlacing : Value}
    {C_TooMany I_TooMany N_TooMany cB_TooMany : Addr} {nm_TooMany q_TooMany : Str} {bs_TooMany sub_TooMany : List Value} {sn_TooMany : List Str} {ab_TooMany : Bool} {col_TooMany : Option Bool} {dd_TooMany od_TooMany an_TooMany : Option Addr} {m0_TooMany m1_TooMany m2_TooMany m3_TooMany m5_TooMany : Option Value} {sl_TooMany : Array (Option Value)} {oc_TooMany kV_TooMany dc_TooMany pm_TooMany cd_TooMany ct_TooMany : Value}
    {C_Faulty I_Faulty N_Faulty cB_Faulty : Addr} {nm_Faulty q_Faulty : Str} {bs_Faulty sub_Faulty : List Value} {sn_Faulty : List Str} {ab_Faulty : Bool} {col_Faulty : Option Bool} {dd_Faulty od_Faulty an_Faulty : Option Addr} {m0_Faulty m1_Faulty m2_Faulty m3_Faulty m5_Faulty : Option Value} {sl_Faulty : Array (Option Value)} {oc_Faulty kV_Faulty dc_Faulty pm_Faulty cd_Faulty ct_Faulty : Value}
    {C_Unsteady I_Unsteady N_Unsteady cB_Unsteady : Addr} {nm_Unsteady q_Unsteady : Str} {bs_Unsteady sub_Unsteady : List Value} {sn_Unsteady : List Str} {ab_Unsteady : Bool} {col_Unsteady : Option Bool} {dd_Unsteady od_Unsteady an_Unsteady : Option Addr} {m0_Unsteady m1_Unsteady m2_Unsteady m3_Unsteady m5_Unsteady : Option Value} {sl_Unsteady : Array (Option Value)} {oc_Unsteady kV_Unsteady dc_Unsteady pm_Unsteady cd_Unsteady ct_Unsteady : Value}
    {C_NoDeed I_NoDeed N_NoDeed cB_NoDeed : Addr} {nm_NoDeed q_NoDeed : Str} {bs_NoDeed sub_NoDeed : List Value} {sn_NoDeed : List Str} {ab_NoDeed : Bool} {col_NoDeed : Option Bool} {dd_NoDeed od_NoDeed an_NoDeed : Option Addr} {m0_NoDeed m1_NoDeed m2_NoDeed m3_NoDeed m5_NoDeed : Option Value} {sl_NoDeed : Array (Option Value)} {oc_NoDeed kV_NoDeed dc_NoDeed pm_NoDeed cd_NoDeed ct_NoDeed : Value}
    {C_Full I_Full N_Full cB_Full : Addr} {nm_Full q_Full : Str} {bs_Full sub_Full : List Value} {sn_Full : List Str} {ab_Full : Bool} {col_Full : Option Bool} {dd_Full od_Full an_Full : Option Addr} {m0_Full m1_Full m2_Full m3_Full m5_Full : Option Value} {sl_Full : Array (Option Value)} {oc_Full kV_Full dc_Full pm_Full cd_Full ct_Full : Value}
    {C_Refused I_Refused N_Refused cB_Refused : Addr} {nm_Refused q_Refused : Str} {bs_Refused sub_Refused : List Value} {sn_Refused : List Str} {ab_Refused : Bool} {col_Refused : Option Bool} {dd_Refused od_Refused an_Refused : Option Addr} {m0_Refused m1_Refused m2_Refused m3_Refused m5_Refused : Option Value} {sl_Refused : Array (Option Value)} {oc_Refused kV_Refused dc_Refused pm_Refused cd_Refused ct_Refused : Value}
    {C_NoEntry I_NoEntry N_NoEntry cB_NoEntry : Addr} {nm_NoEntry q_NoEntry : Str} {bs_NoEntry sub_NoEntry : List Value} {sn_NoEntry : List Str} {ab_NoEntry : Bool} {col_NoEntry : Option Bool} {dd_NoEntry od_NoEntry an_NoEntry : Option Addr} {m0_NoEntry m1_NoEntry m2_NoEntry m3_NoEntry m5_NoEntry : Option Value} {sl_NoEntry : Array (Option Value)} {oc_NoEntry kV_NoEntry dc_NoEntry pm_NoEntry cd_NoEntry ct_NoEntry : Value}
    {C_NoText I_NoText N_NoText cB_NoText : Addr} {nm_NoText q_NoText : Str} {bs_NoText sub_NoText : List Value} {sn_NoText : List Str} {ab_NoText : Bool} {col_NoText : Option Bool} {dd_NoText od_NoText an_NoText : Option Addr} {m0_NoText m1_NoText m2_NoText m3_NoText m5_NoText : Option Value} {sl_NoText : Array (Option Value)} {oc_NoText kV_NoText dc_NoText pm_NoText cd_NoText ct_NoText : Value}
    {C_NoCommand I_NoCommand N_NoCommand cB_NoCommand : Addr} {nm_NoCommand q_NoCommand : Str} {bs_NoCommand sub_NoCommand : List Value} {sn_NoCommand : List Str} {ab_NoCommand : Bool} {col_NoCommand : Option Bool} {dd_NoCommand od_NoCommand an_NoCommand : Option Addr} {m0_NoCommand m1_NoCommand m2_NoCommand m3_NoCommand m5_NoCommand : Option Value} {sl_NoCommand : Array (Option Value)} {oc_NoCommand kV_NoCommand dc_NoCommand pm_NoCommand cd_NoCommand ct_NoCommand : Value}
    {CB : Addr}
    (a_law_bag : PySem.W.nsIn K mainGlobals "_law_bag" = some (some (.ref f_law_bag)))
    (l_law_bag : K.lookup f_law_bag = some ⟨oc_law_bag, od_law_bag, .func (PySem.W.fnOf "_law_bag" "_law_bag" (defArgs s_law_bag) (defBody s_law_bag) (defScope s_law_bag) .none kV_law_bag dc_law_bag pm_law_bag an_law_bag cd_law_bag ct_law_bag), sl_law_bag⟩)
    (c_law_bag : PySem.W.codeIn K cd_law_bag "_law_bag" = true)
    (k_law_bag : PySem.W.keepIn K (.ref f_law_bag) = true)
    (a_law_take : PySem.W.nsIn K mainGlobals "_law_take" = some (some (.ref f_law_take)))
    (l_law_take : K.lookup f_law_take = some ⟨oc_law_take, od_law_take, .func (PySem.W.fnOf "_law_take" "_law_take" (defArgs s_law_take) (defBody s_law_take) (defScope s_law_take) .none kV_law_take dc_law_take pm_law_take an_law_take cd_law_take ct_law_take), sl_law_take⟩)
    (c_law_take : PySem.W.codeIn K cd_law_take "_law_take" = true)
    (k_law_take : PySem.W.keepIn K (.ref f_law_take) = true)
    (a_law_alike : PySem.W.nsIn K mainGlobals "_law_alike" = some (some (.ref f_law_alike)))
    (l_law_alike : K.lookup f_law_alike = some ⟨oc_law_alike, od_law_alike, .func (PySem.W.fnOf "_law_alike" "_law_alike" (defArgs s_law_alike) (defBody s_law_alike) (defScope s_law_alike) .none kV_law_alike dc_law_alike pm_law_alike an_law_alike cd_law_alike ct_law_alike), sl_law_alike⟩)
    (c_law_alike : PySem.W.codeIn K cd_law_alike "_law_alike" = true)
    (k_law_alike : PySem.W.keepIn K (.ref f_law_alike) = true)
    (a_law_thing : PySem.W.nsIn K mainGlobals "_law_thing" = some (some (.ref f_law_thing)))
    (l_law_thing : K.lookup f_law_thing = some ⟨oc_law_thing, od_law_thing, .func (PySem.W.fnOf "_law_thing" "_law_thing" (defArgs s_law_thing) (defBody s_law_thing) (defScope s_law_thing) .none kV_law_thing dc_law_thing pm_law_thing an_law_thing cd_law_thing ct_law_thing), sl_law_thing⟩)
    (c_law_thing : PySem.W.codeIn K cd_law_thing "_law_thing" = true)
    (k_law_thing : PySem.W.keepIn K (.ref f_law_thing) = true)
    (a_law_errors : PySem.W.nsIn K mainGlobals "_law_errors" = some (some (.ref f_law_errors)))
    (l_law_errors : K.lookup f_law_errors = some ⟨oc_law_errors, od_law_errors, .func (PySem.W.fnOf "_law_errors" "_law_errors" (defArgs s_law_errors) (defBody s_law_errors) (defScope s_law_errors) .none kV_law_errors dc_law_errors pm_law_errors an_law_errors cd_law_errors ct_law_errors), sl_law_errors⟩)
    (c_law_errors : PySem.W.codeIn K cd_law_errors "_law_errors" = true)
    (k_law_errors : PySem.W.keepIn K (.ref f_law_errors) = true)
    (a_law_kinds : PySem.W.nsIn K mainGlobals "_law_kinds" = some (some (.ref f_law_kinds)))
    (l_law_kinds : K.lookup f_law_kinds = some ⟨oc_law_kinds, od_law_kinds, .func (PySem.W.fnOf "_law_kinds" "_law_kinds" (defArgs s_law_kinds) (defBody s_law_kinds) (defScope s_law_kinds) .none kV_law_kinds dc_law_kinds pm_law_kinds an_law_kinds cd_law_kinds ct_law_kinds), sl_law_kinds⟩)
    (c_law_kinds : PySem.W.codeIn K cd_law_kinds "_law_kinds" = true)
    (k_law_kinds : PySem.W.keepIn K (.ref f_law_kinds) = true)
    (a_law_fields : PySem.W.nsIn K mainGlobals "_law_fields" = some (some (.ref f_law_fields)))
    (l_law_fields : K.lookup f_law_fields = some ⟨oc_law_fields, od_law_fields, .func (PySem.W.fnOf "_law_fields" "_law_fields" (defArgs s_law_fields) (defBody s_law_fields) (defScope s_law_fields) .none kV_law_fields dc_law_fields pm_law_fields an_law_fields cd_law_fields ct_law_fields), sl_law_fields⟩)
    (c_law_fields : PySem.W.codeIn K cd_law_fields "_law_fields" = true)
    (k_law_fields : PySem.W.keepIn K (.ref f_law_fields) = true)
    (a_law : PySem.W.nsIn K mainGlobals "law" = some (some (.ref f_law)))
    (l_law : K.lookup f_law = some ⟨oc_law, od_law, .func (PySem.W.fnOf "law" "law" (defArgs s_law) (defBody s_law) (defScope s_law) .none kV_law dc_law pm_law an_law cd_law ct_law), sl_law⟩)
    (c_law : PySem.W.codeIn K cd_law "law" = true)
    (k_law : PySem.W.keepIn K (.ref f_law) = true)
    (a_BackError : PySem.W.nsIn K mainGlobals "BackError" = some (some (.ref CB)))
    (e_BackError : PySem.W.excIn K CB [.type "ValueError", .type "Exception", .type "BaseException", .type "object"] "ValueError.__new__" = true)
    (k_BackError : PySem.W.keepIn K (.ref CB) = true)
    (a_Wrong : PySem.W.nsIn K mainGlobals "Wrong" = some (some (.ref C_Wrong)))
    (x_Wrong : K.lookup C_Wrong = some (excClassObj nm_Wrong q_Wrong C_Wrong N_Wrong bs_Wrong [.ref cB_Wrong, .type "ValueError", .type "Exception", .type "BaseException", .type "object"] true sn_Wrong sub_Wrong ab_Wrong col_Wrong dd_Wrong m0_Wrong m1_Wrong m2_Wrong m3_Wrong m5_Wrong "ValueError.__new__"))
    (ini_Wrong : PySem.W.findIn K (.ref C_Wrong) "__init__" = some (some (.ref I_Wrong)))
    (l_Wrong : K.lookup I_Wrong = some ⟨oc_Wrong, od_Wrong, .func (PySem.W.fnOf "__init__" "Wrong.__init__" (defArgs i_Wrong) (defBody i_Wrong) (defScope i_Wrong) .none kV_Wrong dc_Wrong pm_Wrong an_Wrong cd_Wrong ct_Wrong), sl_Wrong⟩)
    (c_Wrong : PySem.W.codeIn K cd_Wrong "Wrong.__init__" = true)
    (o_Wrong : oexB K C_Wrong I_Wrong = true)
    (a_BadStatement : PySem.W.nsIn K mainGlobals "BadStatement" = some (some (.ref C_BadStatement)))
    (x_BadStatement : K.lookup C_BadStatement = some (excClassObj nm_BadStatement q_BadStatement C_BadStatement N_BadStatement bs_BadStatement [.ref cB_BadStatement, .type "ValueError", .type "Exception", .type "BaseException", .type "object"] true sn_BadStatement sub_BadStatement ab_BadStatement col_BadStatement dd_BadStatement m0_BadStatement m1_BadStatement m2_BadStatement m3_BadStatement m5_BadStatement "ValueError.__new__"))
    (ini_BadStatement : PySem.W.findIn K (.ref C_BadStatement) "__init__" = some (some (.ref I_BadStatement)))
    (l_BadStatement : K.lookup I_BadStatement = some ⟨oc_BadStatement, od_BadStatement, .func (PySem.W.fnOf "__init__" "BadStatement.__init__" (defArgs i_BadStatement) (defBody i_BadStatement) (defScope i_BadStatement) .none kV_BadStatement dc_BadStatement pm_BadStatement an_BadStatement cd_BadStatement ct_BadStatement), sl_BadStatement⟩)
    (c_BadStatement : PySem.W.codeIn K cd_BadStatement "BadStatement.__init__" = true)
    (o_BadStatement : oexB K C_BadStatement I_BadStatement = true)
    (a_BadCells : PySem.W.nsIn K mainGlobals "BadCells" = some (some (.ref C_BadCells)))
    (x_BadCells : K.lookup C_BadCells = some (excClassObj nm_BadCells q_BadCells C_BadCells N_BadCells bs_BadCells [.ref cB_BadCells, .type "ValueError", .type "Exception", .type "BaseException", .type "object"] true sn_BadCells sub_BadCells ab_BadCells col_BadCells dd_BadCells m0_BadCells m1_BadCells m2_BadCells m3_BadCells m5_BadCells "ValueError.__new__"))
    (ini_BadCells : PySem.W.findIn K (.ref C_BadCells) "__init__" = some (some (.ref I_BadCells)))
    (l_BadCells : K.lookup I_BadCells = some ⟨oc_BadCells, od_BadCells, .func (PySem.W.fnOf "__init__" "BadCells.__init__" (defArgs i_BadCells) (defBody i_BadCells) (defScope i_BadCells) .none kV_BadCells dc_BadCells pm_BadCells an_BadCells cd_BadCells ct_BadCells), sl_BadCells⟩)
    (c_BadCells : PySem.W.codeIn K cd_BadCells "BadCells.__init__" = true)
    (o_BadCells : oexB K C_BadCells I_BadCells = true)
    (a_BadKept : PySem.W.nsIn K mainGlobals "BadKept" = some (some (.ref C_BadKept)))
    (x_BadKept : K.lookup C_BadKept = some (excClassObj nm_BadKept q_BadKept C_BadKept N_BadKept bs_BadKept [.ref cB_BadKept, .type "ValueError", .type "Exception", .type "BaseException", .type "object"] true sn_BadKept sub_BadKept ab_BadKept col_BadKept dd_BadKept m0_BadKept m1_BadKept m2_BadKept m3_BadKept m5_BadKept "ValueError.__new__"))
    (ini_BadKept : PySem.W.findIn K (.ref C_BadKept) "__init__" = some (some (.ref I_BadKept)))
    (l_BadKept : K.lookup I_BadKept = some ⟨oc_BadKept, od_BadKept, .func (PySem.W.fnOf "__init__" "BadKept.__init__" (defArgs i_BadKept) (defBody i_BadKept) (defScope i_BadKept) .none kV_BadKept dc_BadKept pm_BadKept an_BadKept cd_BadKept ct_BadKept), sl_BadKept⟩)
    (c_BadKept : PySem.W.codeIn K cd_BadKept "BadKept.__init__" = true)
    (o_BadKept : oexB K C_BadKept I_BadKept = true)
    (a_BadShut : PySem.W.nsIn K mainGlobals "BadShut" = some (some (.ref C_BadShut)))
    (x_BadShut : K.lookup C_BadShut = some (excClassObj nm_BadShut q_BadShut C_BadShut N_BadShut bs_BadShut [.ref cB_BadShut, .type "ValueError", .type "Exception", .type "BaseException", .type "object"] true sn_BadShut sub_BadShut ab_BadShut col_BadShut dd_BadShut m0_BadShut m1_BadShut m2_BadShut m3_BadShut m5_BadShut "ValueError.__new__"))
    (ini_BadShut : PySem.W.findIn K (.ref C_BadShut) "__init__" = some (some (.ref I_BadShut)))
    (l_BadShut : K.lookup I_BadShut = some ⟨oc_BadShut, od_BadShut, .func (PySem.W.fnOf "__init__" "BadShut.__init__" (defArgs i_BadShut) (defBody i_BadShut) (defScope i_BadShut) .none kV_BadShut dc_BadShut pm_BadShut an_BadShut cd_BadShut ct_BadShut), sl_BadShut⟩)
    (c_BadShut : PySem.W.codeIn K cd_BadShut "BadShut.__init__" = true)
    (o_BadShut : oexB K C_BadShut I_BadShut = true)
    (a_Unknown : PySem.W.nsIn K mainGlobals "Unknown" = some (some (.ref C_Unknown)))
    (x_Unknown : K.lookup C_Unknown = some (excClassObj nm_Unknown q_Unknown C_Unknown N_Unknown bs_Unknown [.ref cB_Unknown, .type "ValueError", .type "Exception", .type "BaseException", .type "object"] true sn_Unknown sub_Unknown ab_Unknown col_Unknown dd_Unknown m0_Unknown m1_Unknown m2_Unknown m3_Unknown m5_Unknown "ValueError.__new__"))
    (ini_Unknown : PySem.W.findIn K (.ref C_Unknown) "__init__" = some (some (.ref I_Unknown)))
    (l_Unknown : K.lookup I_Unknown = some ⟨oc_Unknown, od_Unknown, .func (PySem.W.fnOf "__init__" "Unknown.__init__" (defArgs i_Unknown) (defBody i_Unknown) (defScope i_Unknown) .none kV_Unknown dc_Unknown pm_Unknown an_Unknown cd_Unknown ct_Unknown), sl_Unknown⟩)
    (c_Unknown : PySem.W.codeIn K cd_Unknown "Unknown.__init__" = true)
    (o_Unknown : oexB K C_Unknown I_Unknown = true)
    (a_NoName : PySem.W.nsIn K mainGlobals "NoName" = some (some (.ref C_NoName)))
    (x_NoName : K.lookup C_NoName = some (excClassObj nm_NoName q_NoName C_NoName N_NoName bs_NoName [.ref cB_NoName, .type "ValueError", .type "Exception", .type "BaseException", .type "object"] true sn_NoName sub_NoName ab_NoName col_NoName dd_NoName m0_NoName m1_NoName m2_NoName m3_NoName m5_NoName "ValueError.__new__"))
    (ini_NoName : PySem.W.findIn K (.ref C_NoName) "__init__" = some (some (.ref I_NoName)))
    (l_NoName : K.lookup I_NoName = some ⟨oc_NoName, od_NoName, .func (PySem.W.fnOf "__init__" "NoName.__init__" (defArgs i_NoName) (defBody i_NoName) (defScope i_NoName) .none kV_NoName dc_NoName pm_NoName an_NoName cd_NoName ct_NoName), sl_NoName⟩)
    (c_NoName : PySem.W.codeIn K cd_NoName "NoName.__init__" = true)
    (o_NoName : oexB K C_NoName I_NoName = true)
    (a_Over : PySem.W.nsIn K mainGlobals "Over" = some (some (.ref C_Over)))
    (x_Over : K.lookup C_Over = some (excClassObj nm_Over q_Over C_Over N_Over bs_Over [.ref cB_Over, .type "ValueError", .type "Exception", .type "BaseException", .type "object"] true sn_Over sub_Over ab_Over col_Over dd_Over m0_Over m1_Over m2_Over m3_Over m5_Over "ValueError.__new__"))
    (ini_Over : PySem.W.findIn K (.ref C_Over) "__init__" = some (some (.ref I_Over)))
    (l_Over : K.lookup I_Over = some ⟨oc_Over, od_Over, .func (PySem.W.fnOf "__init__" "Over.__init__" (defArgs i_Over) (defBody i_Over) (defScope i_Over) .none kV_Over dc_Over pm_Over an_Over cd_Over ct_Over), sl_Over⟩)
    (c_Over : PySem.W.codeIn K cd_Over "Over.__init__" = true)
    (o_Over : oexB K C_Over I_Over = true)
    (a_Unfit : PySem.W.nsIn K mainGlobals "Unfit" = some (some (.ref C_Unfit)))
    (x_Unfit : K.lookup C_Unfit = some (excClassObj nm_Unfit q_Unfit C_Unfit N_Unfit bs_Unfit [.ref cB_Unfit, .type "ValueError", .type "Exception", .type "BaseException", .type "object"] true sn_Unfit sub_Unfit ab_Unfit col_Unfit dd_Unfit m0_Unfit m1_Unfit m2_Unfit m3_Unfit m5_Unfit "ValueError.__new__"))
    (ini_Unfit : PySem.W.findIn K (.ref C_Unfit) "__init__" = some (some (.ref I_Unfit)))
    (l_Unfit : K.lookup I_Unfit = some ⟨oc_Unfit, od_Unfit, .func (PySem.W.fnOf "__init__" "Unfit.__init__" (defArgs i_Unfit) (defBody i_Unfit) (defScope i_Unfit) .none kV_Unfit dc_Unfit pm_Unfit an_Unfit cd_Unfit ct_Unfit), sl_Unfit⟩)
    (c_Unfit : PySem.W.codeIn K cd_Unfit "Unfit.__init__" = true)
    (o_Unfit : oexB K C_Unfit I_Unfit = true)
    (a_Nothing : PySem.W.nsIn K mainGlobals "Nothing" = some (some (.ref C_Nothing)))
    (x_Nothing : K.lookup C_Nothing = some (excClassObj nm_Nothing q_Nothing C_Nothing N_Nothing bs_Nothing [.ref cB_Nothing, .type "ValueError", .type "Exception", .type "BaseException", .type "object"] true sn_Nothing sub_Nothing ab_Nothing col_Nothing dd_Nothing m0_Nothing m1_Nothing m2_Nothing m3_Nothing m5_Nothing "ValueError.__new__"))
    (ini_Nothing : PySem.W.findIn K (.ref C_Nothing) "__init__" = some (some (.ref I_Nothing)))
    (l_Nothing : K.lookup I_Nothing = some ⟨oc_Nothing, od_Nothing, .func (PySem.W.fnOf "__init__" "Nothing.__init__" (defArgs i_Nothing) (defBody i_Nothing) (defScope i_Nothing) .none kV_Nothing dc_Nothing pm_Nothing an_Nothing cd_Nothing ct_Nothing), sl_Nothing⟩)
    (c_Nothing : PySem.W.codeIn K cd_Nothing "Nothing.__init__" = true)
    (o_Nothing : oexB K C_Nothing I_Nothing = true)
    (a_Broken : PySem.W.nsIn K mainGlobals "Broken" = some (some (.ref C_Broken)))
    (x_Broken : K.lookup C_Broken = some (excClassObj nm_Broken q_Broken C_Broken N_Broken bs_Broken [.ref cB_Broken, .type "ValueError", .type "Exception", .type "BaseException", .type "object"] true sn_Broken sub_Broken ab_Broken col_Broken dd_Broken m0_Broken m1_Broken m2_Broken m3_Broken m5_Broken "ValueError.__new__"))
    (ini_Broken : PySem.W.findIn K (.ref C_Broken) "__init__" = some (some (.ref I_Broken)))
    (l_Broken : K.lookup I_Broken = some ⟨oc_Broken, od_Broken, .func (PySem.W.fnOf "__init__" "Broken.__init__" (defArgs i_Broken) (defBody i_Broken) (defScope i_Broken) .none kV_Broken dc_Broken pm_Broken an_Broken cd_Broken ct_Broken), sl_Broken⟩)
    (c_Broken : PySem.W.codeIn K cd_Broken "Broken.__init__" = true)
    (o_Broken : oexB K C_Broken I_Broken = true)
    (a_BadPlacing : PySem.W.nsIn K mainGlobals "BadPlacing" = some (some (.ref C_BadPlacing)))
    (x_BadPlacing : K.lookup C_BadPlacing = some (excClassObj nm_BadPlacing q_BadPlacing C_BadPlacing N_BadPlacing bs_BadPlacing [.ref cB_BadPlacing, .type "ValueError", .type "Exception", .type "BaseException", .type "object"] true sn_BadPlacing sub_BadPlacing ab_BadPlacing col_BadPlacing dd_BadPlacing m0_BadPlacing m1_BadPlacing m2_BadPlacing m3_BadPlacing m5_BadPlacing "ValueError.__new__"))
    (ini_BadPlacing : PySem.W.findIn K (.ref C_BadPlacing) "__init__" = some (some (.ref I_BadPlacing)))
    (l_BadPlacing : K.lookup I_BadPlacing = some ⟨oc_BadPlacing, od_BadPlacing, .func (PySem.W.fnOf "__init__" "BadPlacing.__init__" (defArgs i_BadPlacing) (defBody i_BadPlacing) (defScope i_BadPlacing) .none kV_BadPlacing dc_BadPlacing pm_BadPlacing an_BadPlacing cd_BadPlacing ct_BadPlacing), sl_BadPlacing⟩)
    (c_BadPlacing : PySem.W.codeIn K cd_BadPlacing "BadPlacing.__init__" = true)
    (o_BadPlacing : oexB K C_BadPlacing I_BadPlacing = true)
    (a_TooMany : PySem.W.nsIn K mainGlobals "TooMany" = some (some (.ref C_TooMany)))
    (x_TooMany : K.lookup C_TooMany = some (excClassObj nm_TooMany q_TooMany C_TooMany N_TooMany bs_TooMany [.ref cB_TooMany, .type "ValueError", .type "Exception", .type "BaseException", .type "object"] true sn_TooMany sub_TooMany ab_TooMany col_TooMany dd_TooMany m0_TooMany m1_TooMany m2_TooMany m3_TooMany m5_TooMany "ValueError.__new__"))
    (ini_TooMany : PySem.W.findIn K (.ref C_TooMany) "__init__" = some (some (.ref I_TooMany)))
    (l_TooMany : K.lookup I_TooMany = some ⟨oc_TooMany, od_TooMany, .func (PySem.W.fnOf "__init__" "TooMany.__init__" (defArgs i_TooMany) (defBody i_TooMany) (defScope i_TooMany) .none kV_TooMany dc_TooMany pm_TooMany an_TooMany cd_TooMany ct_TooMany), sl_TooMany⟩)
    (c_TooMany : PySem.W.codeIn K cd_TooMany "TooMany.__init__" = true)
    (o_TooMany : oexB K C_TooMany I_TooMany = true)
    (a_Faulty : PySem.W.nsIn K mainGlobals "Faulty" = some (some (.ref C_Faulty)))
    (x_Faulty : K.lookup C_Faulty = some (excClassObj nm_Faulty q_Faulty C_Faulty N_Faulty bs_Faulty [.ref cB_Faulty, .type "ValueError", .type "Exception", .type "BaseException", .type "object"] true sn_Faulty sub_Faulty ab_Faulty col_Faulty dd_Faulty m0_Faulty m1_Faulty m2_Faulty m3_Faulty m5_Faulty "ValueError.__new__"))
    (ini_Faulty : PySem.W.findIn K (.ref C_Faulty) "__init__" = some (some (.ref I_Faulty)))
    (l_Faulty : K.lookup I_Faulty = some ⟨oc_Faulty, od_Faulty, .func (PySem.W.fnOf "__init__" "Faulty.__init__" (defArgs i_Faulty) (defBody i_Faulty) (defScope i_Faulty) .none kV_Faulty dc_Faulty pm_Faulty an_Faulty cd_Faulty ct_Faulty), sl_Faulty⟩)
    (c_Faulty : PySem.W.codeIn K cd_Faulty "Faulty.__init__" = true)
    (o_Faulty : oexB K C_Faulty I_Faulty = true)
    (a_Unsteady : PySem.W.nsIn K mainGlobals "Unsteady" = some (some (.ref C_Unsteady)))
    (x_Unsteady : K.lookup C_Unsteady = some (excClassObj nm_Unsteady q_Unsteady C_Unsteady N_Unsteady bs_Unsteady [.ref cB_Unsteady, .type "ValueError", .type "Exception", .type "BaseException", .type "object"] true sn_Unsteady sub_Unsteady ab_Unsteady col_Unsteady dd_Unsteady m0_Unsteady m1_Unsteady m2_Unsteady m3_Unsteady m5_Unsteady "ValueError.__new__"))
    (ini_Unsteady : PySem.W.findIn K (.ref C_Unsteady) "__init__" = some (some (.ref I_Unsteady)))
    (l_Unsteady : K.lookup I_Unsteady = some ⟨oc_Unsteady, od_Unsteady, .func (PySem.W.fnOf "__init__" "Unsteady.__init__" (defArgs i_Unsteady) (defBody i_Unsteady) (defScope i_Unsteady) .none kV_Unsteady dc_Unsteady pm_Unsteady an_Unsteady cd_Unsteady ct_Unsteady), sl_Unsteady⟩)
    (c_Unsteady : PySem.W.codeIn K cd_Unsteady "Unsteady.__init__" = true)
    (o_Unsteady : oexB K C_Unsteady I_Unsteady = true)
    (a_NoDeed : PySem.W.nsIn K mainGlobals "NoDeed" = some (some (.ref C_NoDeed)))
    (x_NoDeed : K.lookup C_NoDeed = some (excClassObj nm_NoDeed q_NoDeed C_NoDeed N_NoDeed bs_NoDeed [.ref cB_NoDeed, .type "ValueError", .type "Exception", .type "BaseException", .type "object"] true sn_NoDeed sub_NoDeed ab_NoDeed col_NoDeed dd_NoDeed m0_NoDeed m1_NoDeed m2_NoDeed m3_NoDeed m5_NoDeed "ValueError.__new__"))
    (ini_NoDeed : PySem.W.findIn K (.ref C_NoDeed) "__init__" = some (some (.ref I_NoDeed)))
    (l_NoDeed : K.lookup I_NoDeed = some ⟨oc_NoDeed, od_NoDeed, .func (PySem.W.fnOf "__init__" "NoDeed.__init__" (defArgs i_NoDeed) (defBody i_NoDeed) (defScope i_NoDeed) .none kV_NoDeed dc_NoDeed pm_NoDeed an_NoDeed cd_NoDeed ct_NoDeed), sl_NoDeed⟩)
    (c_NoDeed : PySem.W.codeIn K cd_NoDeed "NoDeed.__init__" = true)
    (o_NoDeed : oexB K C_NoDeed I_NoDeed = true)
    (a_Full : PySem.W.nsIn K mainGlobals "Full" = some (some (.ref C_Full)))
    (x_Full : K.lookup C_Full = some (excClassObj nm_Full q_Full C_Full N_Full bs_Full [.ref cB_Full, .type "ValueError", .type "Exception", .type "BaseException", .type "object"] true sn_Full sub_Full ab_Full col_Full dd_Full m0_Full m1_Full m2_Full m3_Full m5_Full "ValueError.__new__"))
    (ini_Full : PySem.W.findIn K (.ref C_Full) "__init__" = some (some (.ref I_Full)))
    (l_Full : K.lookup I_Full = some ⟨oc_Full, od_Full, .func (PySem.W.fnOf "__init__" "Full.__init__" (defArgs i_Full) (defBody i_Full) (defScope i_Full) .none kV_Full dc_Full pm_Full an_Full cd_Full ct_Full), sl_Full⟩)
    (c_Full : PySem.W.codeIn K cd_Full "Full.__init__" = true)
    (o_Full : oexB K C_Full I_Full = true)
    (a_Refused : PySem.W.nsIn K mainGlobals "Refused" = some (some (.ref C_Refused)))
    (x_Refused : K.lookup C_Refused = some (excClassObj nm_Refused q_Refused C_Refused N_Refused bs_Refused [.ref cB_Refused, .type "ValueError", .type "Exception", .type "BaseException", .type "object"] true sn_Refused sub_Refused ab_Refused col_Refused dd_Refused m0_Refused m1_Refused m2_Refused m3_Refused m5_Refused "ValueError.__new__"))
    (ini_Refused : PySem.W.findIn K (.ref C_Refused) "__init__" = some (some (.ref I_Refused)))
    (l_Refused : K.lookup I_Refused = some ⟨oc_Refused, od_Refused, .func (PySem.W.fnOf "__init__" "Refused.__init__" (defArgs i_Refused) (defBody i_Refused) (defScope i_Refused) .none kV_Refused dc_Refused pm_Refused an_Refused cd_Refused ct_Refused), sl_Refused⟩)
    (c_Refused : PySem.W.codeIn K cd_Refused "Refused.__init__" = true)
    (o_Refused : oexB K C_Refused I_Refused = true)
    (a_NoEntry : PySem.W.nsIn K mainGlobals "NoEntry" = some (some (.ref C_NoEntry)))
    (x_NoEntry : K.lookup C_NoEntry = some (excClassObj nm_NoEntry q_NoEntry C_NoEntry N_NoEntry bs_NoEntry [.ref cB_NoEntry, .type "ValueError", .type "Exception", .type "BaseException", .type "object"] true sn_NoEntry sub_NoEntry ab_NoEntry col_NoEntry dd_NoEntry m0_NoEntry m1_NoEntry m2_NoEntry m3_NoEntry m5_NoEntry "ValueError.__new__"))
    (ini_NoEntry : PySem.W.findIn K (.ref C_NoEntry) "__init__" = some (some (.ref I_NoEntry)))
    (l_NoEntry : K.lookup I_NoEntry = some ⟨oc_NoEntry, od_NoEntry, .func (PySem.W.fnOf "__init__" "NoEntry.__init__" (defArgs i_NoEntry) (defBody i_NoEntry) (defScope i_NoEntry) .none kV_NoEntry dc_NoEntry pm_NoEntry an_NoEntry cd_NoEntry ct_NoEntry), sl_NoEntry⟩)
    (c_NoEntry : PySem.W.codeIn K cd_NoEntry "NoEntry.__init__" = true)
    (o_NoEntry : oexB K C_NoEntry I_NoEntry = true)
    (a_NoText : PySem.W.nsIn K mainGlobals "NoText" = some (some (.ref C_NoText)))
    (x_NoText : K.lookup C_NoText = some (excClassObj nm_NoText q_NoText C_NoText N_NoText bs_NoText [.ref cB_NoText, .type "ValueError", .type "Exception", .type "BaseException", .type "object"] true sn_NoText sub_NoText ab_NoText col_NoText dd_NoText m0_NoText m1_NoText m2_NoText m3_NoText m5_NoText "ValueError.__new__"))
    (ini_NoText : PySem.W.findIn K (.ref C_NoText) "__init__" = some (some (.ref I_NoText)))
    (l_NoText : K.lookup I_NoText = some ⟨oc_NoText, od_NoText, .func (PySem.W.fnOf "__init__" "NoText.__init__" (defArgs i_NoText) (defBody i_NoText) (defScope i_NoText) .none kV_NoText dc_NoText pm_NoText an_NoText cd_NoText ct_NoText), sl_NoText⟩)
    (c_NoText : PySem.W.codeIn K cd_NoText "NoText.__init__" = true)
    (o_NoText : oexB K C_NoText I_NoText = true)
    (a_NoCommand : PySem.W.nsIn K mainGlobals "NoCommand" = some (some (.ref C_NoCommand)))
    (x_NoCommand : K.lookup C_NoCommand = some (excClassObj nm_NoCommand q_NoCommand C_NoCommand N_NoCommand bs_NoCommand [.ref cB_NoCommand, .type "ValueError", .type "Exception", .type "BaseException", .type "object"] true sn_NoCommand sub_NoCommand ab_NoCommand col_NoCommand dd_NoCommand m0_NoCommand m1_NoCommand m2_NoCommand m3_NoCommand m5_NoCommand "ValueError.__new__"))
    (ini_NoCommand : PySem.W.findIn K (.ref C_NoCommand) "__init__" = some (some (.ref I_NoCommand)))
    (l_NoCommand : K.lookup I_NoCommand = some ⟨oc_NoCommand, od_NoCommand, .func (PySem.W.fnOf "__init__" "NoCommand.__init__" (defArgs i_NoCommand) (defBody i_NoCommand) (defScope i_NoCommand) .none kV_NoCommand dc_NoCommand pm_NoCommand an_NoCommand cd_NoCommand ct_NoCommand), sl_NoCommand⟩)
    (c_NoCommand : PySem.W.codeIn K cd_NoCommand "NoCommand.__init__" = true)
    (o_NoCommand : oexB K C_NoCommand I_NoCommand = true)
    (kits : kitsB K [C_Wrong, C_BadStatement, C_BadCells, C_BadKept, C_BadShut, C_Unknown, C_NoName, C_Over, C_Unfit, C_Nothing, C_Broken, C_BadPlacing, C_TooMany, C_Faulty, C_Unsteady, C_NoDeed, C_Full, C_Refused, C_NoEntry, C_NoText, C_NoCommand] CB = true)
    (nams : namesB K [C_Wrong, C_BadStatement, C_BadCells, C_BadKept, C_BadShut, C_Unknown, C_NoName, C_Over, C_Unfit, C_Nothing, C_Broken, C_BadPlacing, C_TooMany, C_Faulty, C_Unsteady, C_NoDeed, C_Full, C_Refused, C_NoEntry, C_NoText, C_NoCommand] = true)
    (z_len : PySem.W.nsIn K mainGlobals "len" = some none)
    (z_int : PySem.W.nsIn K mainGlobals "int" = some none)
    (z_abs : PySem.W.nsIn K mainGlobals "abs" = some none)
    (z_repr : PySem.W.nsIn K mainGlobals "repr" = some none)
    (z_range : PySem.W.nsIn K mainGlobals "range" = some none)
    (z_enumerate : PySem.W.nsIn K mainGlobals "enumerate" = some none)
    (z_isinstance : PySem.W.nsIn K mainGlobals "isinstance" = some none)
    (z_list : PySem.W.nsIn K mainGlobals "list" = some none)
    (z_dict : PySem.W.nsIn K mainGlobals "dict" = some none)
    (z_ValueError : PySem.W.nsIn K mainGlobals "ValueError" = some none)
    : ∃ fd : FuncData, (∀ (s : Shared) (v : Value), BindsTo s fd ⟨[v], []⟩ [("_law_script", v)]) ∧ ∀ base : Heap, K.In base → base.Ns mainGlobals mg → SysB base → FnG l.prog w K mg base CX0 4 fa fd ["_law_script"] (spLaw K) := by
  have e := hfa.symm.trans (PySem.W.mg_of X G a_law)
  cases e
  have F_law_bag := fun_mk (st := s_law_bag) l_law_bag c_law_bag k_law_bag
  have b_law_bag := F_law_bag.binds (ps := ["_law_script"]) (fun _ _ _ _ _ _ us hl => match us, hl with | [_], _ => rfl)
  have mg_law_bag := PySem.W.mg_of X G a_law_bag
  have F_law_take := fun_mk (st := s_law_take) l_law_take c_law_take k_law_take
  have b_law_take := F_law_take.binds (ps := ["_law_bag_here", "_law_many"]) (fun _ _ _ _ _ _ us hl => match us, hl with | [_, _], _ => rfl)
  have mg_law_take := PySem.W.mg_of X G a_law_take
  have F_law_alike := fun_mk (st := s_law_alike) l_law_alike c_law_alike k_law_alike
  have b_law_alike := F_law_alike.binds (ps := ["_law_found", "_law_due"]) (fun _ _ _ _ _ _ us hl => match us, hl with | [_, _], _ => rfl)
  have mg_law_alike := PySem.W.mg_of X G a_law_alike
  have F_law_thing := fun_mk (st := s_law_thing) l_law_thing c_law_thing k_law_thing
  have b_law_thing := F_law_thing.binds (ps := ["_law_bag_here"]) (fun _ _ _ _ _ _ us hl => match us, hl with | [_], _ => rfl)
  have mg_law_thing := PySem.W.mg_of X G a_law_thing
  have F_law_errors := fun_mk (st := s_law_errors) l_law_errors c_law_errors k_law_errors
  have b_law_errors := F_law_errors.binds (ps := ["_law_a", "_law_b", "_law_c"]) (fun _ _ _ _ _ _ us hl => match us, hl with | [_, _, _], _ => rfl)
  have mg_law_errors := PySem.W.mg_of X G a_law_errors
  have F_law_kinds := fun_mk (st := s_law_kinds) l_law_kinds c_law_kinds k_law_kinds
  have b_law_kinds := F_law_kinds.binds (ps := ["_law_e"]) (fun _ _ _ _ _ _ us hl => match us, hl with | [_], _ => rfl)
  have mg_law_kinds := PySem.W.mg_of X G a_law_kinds
  have F_law_fields := fun_mk (st := s_law_fields) l_law_fields c_law_fields k_law_fields
  have b_law_fields := F_law_fields.binds (ps := ["_law_some"]) (fun _ _ _ _ _ _ us hl => match us, hl with | [_], _ => rfl)
  have mg_law_fields := PySem.W.mg_of X G a_law_fields
  have F_law := fun_mk (st := s_law) l_law c_law k_law
  have b_law := F_law.binds (ps := ["_law_script"]) (fun _ _ _ _ _ _ us hl => match us, hl with | [_], _ => rfl)
  have mg_law := PySem.W.mg_of X G a_law
  have m_len := PySem.W.mg_none_of X G z_len
  have m_int := PySem.W.mg_none_of X G z_int
  have m_abs := PySem.W.mg_none_of X G z_abs
  have m_repr := PySem.W.mg_none_of X G z_repr
  have m_range := PySem.W.mg_none_of X G z_range
  have m_enumerate := PySem.W.mg_none_of X G z_enumerate
  have m_isinstance := PySem.W.mg_none_of X G z_isinstance
  have m_list := PySem.W.mg_none_of X G z_list
  have m_dict := PySem.W.mg_none_of X G z_dict
  have m_ValueError := PySem.W.mg_none_of X G z_ValueError
  have Z : Kits K (fun i => [C_Wrong, C_BadStatement, C_BadCells, C_BadKept, C_BadShut, C_Unknown, C_NoName, C_Over, C_Unfit, C_Nothing, C_Broken, C_BadPlacing, C_TooMany, C_Faulty, C_Unsteady, C_NoDeed, C_Full, C_Refused, C_NoEntry, C_NoText, C_NoCommand].getD i 0) CB := kitsB_ok rfl kits
  have hN : ∀ i, i < 21 → ∀ n ∈ errNames i, PySem.W.findIn K (.ref ([C_Wrong, C_BadStatement, C_BadCells, C_BadKept, C_BadShut, C_Unknown, C_NoName, C_Over, C_Unfit, C_Nothing, C_Broken, C_BadPlacing, C_TooMany, C_Faulty, C_Unsteady, C_NoDeed, C_Full, C_Refused, C_NoEntry, C_NoText, C_NoCommand].getD i 0)) n = some none := namesB_ok nams
  have cE : MkE K mg "BackError" CB := ⟨⟨e_BackError, PySem.W.mg_of X G a_BackError, k_BackError⟩⟩
  refine ⟨PySem.W.fnOf "law" "law" (defArgs s_law) (defBody s_law) (defScope s_law) .none kV_law dc_law pm_law an_law cd_law ct_law, fun s v => .of_eq rfl, fun base _ _ hsys => ?_⟩
  obtain ⟨T_Wrong, iI_Wrong, tI_Wrong, kI_Wrong⟩ := oexB_ok o_Wrong ⟨_, _, _, _, _, _, _, _, _, _, _, _, _, _, _, x_Wrong, (show PySem.HandSPX.refsVE [.type "ValueError", .type "Exception", .type "BaseException", .type "object"] = true by decide +kernel)⟩
  have FI_Wrong := fun_mk (st := i_Wrong) l_Wrong c_Wrong kI_Wrong
  have M_Wrong : Mk1 l.prog w K mg base "Wrong" C_Wrong ["place"] := ⟨⟨_, _, _, T_Wrong, iI_Wrong, tI_Wrong, ok_i_Wrong FI_Wrong T_Wrong (hN 0 (by decide)), FI_Wrong.binds (ps := ["self", "place"]) (fun _ _ _ _ _ _ us hl => match us, hl with | [_, _], _ => rfl), PySem.W.mg_of X G a_Wrong⟩⟩
  obtain ⟨T_BadStatement, iI_BadStatement, tI_BadStatement, kI_BadStatement⟩ := oexB_ok o_BadStatement ⟨_, _, _, _, _, _, _, _, _, _, _, _, _, _, _, x_BadStatement, (show PySem.HandSPX.refsVE [.type "ValueError", .type "Exception", .type "BaseException", .type "object"] = true by decide +kernel)⟩
  have FI_BadStatement := fun_mk (st := i_BadStatement) l_BadStatement c_BadStatement kI_BadStatement
  have M_BadStatement : Mk1 l.prog w K mg base "BadStatement" C_BadStatement ["function", "address"] := ⟨⟨_, _, _, T_BadStatement, iI_BadStatement, tI_BadStatement, ok_i_BadStatement FI_BadStatement T_BadStatement (hN 1 (by decide)), FI_BadStatement.binds (ps := ["self", "function", "address"]) (fun _ _ _ _ _ _ us hl => match us, hl with | [_, _, _], _ => rfl), PySem.W.mg_of X G a_BadStatement⟩⟩
  obtain ⟨T_BadCells, iI_BadCells, tI_BadCells, kI_BadCells⟩ := oexB_ok o_BadCells ⟨_, _, _, _, _, _, _, _, _, _, _, _, _, _, _, x_BadCells, (show PySem.HandSPX.refsVE [.type "ValueError", .type "Exception", .type "BaseException", .type "object"] = true by decide +kernel)⟩
  have FI_BadCells := fun_mk (st := i_BadCells) l_BadCells c_BadCells kI_BadCells
  have M_BadCells : Mk1 l.prog w K mg base "BadCells" C_BadCells ["many"] := ⟨⟨_, _, _, T_BadCells, iI_BadCells, tI_BadCells, ok_i_BadCells FI_BadCells T_BadCells (hN 2 (by decide)), FI_BadCells.binds (ps := ["self", "many"]) (fun _ _ _ _ _ _ us hl => match us, hl with | [_, _], _ => rfl), PySem.W.mg_of X G a_BadCells⟩⟩
  obtain ⟨T_BadKept, iI_BadKept, tI_BadKept, kI_BadKept⟩ := oexB_ok o_BadKept ⟨_, _, _, _, _, _, _, _, _, _, _, _, _, _, _, x_BadKept, (show PySem.HandSPX.refsVE [.type "ValueError", .type "Exception", .type "BaseException", .type "object"] = true by decide +kernel)⟩
  have FI_BadKept := fun_mk (st := i_BadKept) l_BadKept c_BadKept kI_BadKept
  have M_BadKept : Mk1 l.prog w K mg base "BadKept" C_BadKept ["function", "name"] := ⟨⟨_, _, _, T_BadKept, iI_BadKept, tI_BadKept, ok_i_BadKept FI_BadKept T_BadKept (hN 3 (by decide)), FI_BadKept.binds (ps := ["self", "function", "name"]) (fun _ _ _ _ _ _ us hl => match us, hl with | [_, _, _], _ => rfl), PySem.W.mg_of X G a_BadKept⟩⟩
  obtain ⟨T_BadShut, iI_BadShut, tI_BadShut, kI_BadShut⟩ := oexB_ok o_BadShut ⟨_, _, _, _, _, _, _, _, _, _, _, _, _, _, _, x_BadShut, (show PySem.HandSPX.refsVE [.type "ValueError", .type "Exception", .type "BaseException", .type "object"] = true by decide +kernel)⟩
  have FI_BadShut := fun_mk (st := i_BadShut) l_BadShut c_BadShut kI_BadShut
  have M_BadShut : Mk1 l.prog w K mg base "BadShut" C_BadShut ["function", "address"] := ⟨⟨_, _, _, T_BadShut, iI_BadShut, tI_BadShut, ok_i_BadShut FI_BadShut T_BadShut (hN 4 (by decide)), FI_BadShut.binds (ps := ["self", "function", "address"]) (fun _ _ _ _ _ _ us hl => match us, hl with | [_, _, _], _ => rfl), PySem.W.mg_of X G a_BadShut⟩⟩
  obtain ⟨T_Unknown, iI_Unknown, tI_Unknown, kI_Unknown⟩ := oexB_ok o_Unknown ⟨_, _, _, _, _, _, _, _, _, _, _, _, _, _, _, x_Unknown, (show PySem.HandSPX.refsVE [.type "ValueError", .type "Exception", .type "BaseException", .type "object"] = true by decide +kernel)⟩
  have FI_Unknown := fun_mk (st := i_Unknown) l_Unknown c_Unknown kI_Unknown
  have M_Unknown : Mk1 l.prog w K mg base "Unknown" C_Unknown ["function"] := ⟨⟨_, _, _, T_Unknown, iI_Unknown, tI_Unknown, ok_i_Unknown FI_Unknown T_Unknown (hN 5 (by decide)), FI_Unknown.binds (ps := ["self", "function"]) (fun _ _ _ _ _ _ us hl => match us, hl with | [_, _], _ => rfl), PySem.W.mg_of X G a_Unknown⟩⟩
  obtain ⟨T_NoName, iI_NoName, tI_NoName, kI_NoName⟩ := oexB_ok o_NoName ⟨_, _, _, _, _, _, _, _, _, _, _, _, _, _, _, x_NoName, (show PySem.HandSPX.refsVE [.type "ValueError", .type "Exception", .type "BaseException", .type "object"] = true by decide +kernel)⟩
  have FI_NoName := fun_mk (st := i_NoName) l_NoName c_NoName kI_NoName
  have M_NoName : Mk1 l.prog w K mg base "NoName" C_NoName ["name"] := ⟨⟨_, _, _, T_NoName, iI_NoName, tI_NoName, ok_i_NoName FI_NoName T_NoName (hN 6 (by decide)), FI_NoName.binds (ps := ["self", "name"]) (fun _ _ _ _ _ _ us hl => match us, hl with | [_, _], _ => rfl), PySem.W.mg_of X G a_NoName⟩⟩
  obtain ⟨T_Over, iI_Over, tI_Over, kI_Over⟩ := oexB_ok o_Over ⟨_, _, _, _, _, _, _, _, _, _, _, _, _, _, _, x_Over, (show PySem.HandSPX.refsVE [.type "ValueError", .type "Exception", .type "BaseException", .type "object"] = true by decide +kernel)⟩
  have FI_Over := fun_mk (st := i_Over) l_Over c_Over kI_Over
  have M_Over : Mk1 l.prog w K mg base "Over" C_Over [] := ⟨⟨_, _, _, T_Over, iI_Over, tI_Over, ok_i_Over FI_Over T_Over (hN 7 (by decide)), FI_Over.binds (ps := ["self"]) (fun _ _ _ _ _ _ us hl => match us, hl with | [_], _ => rfl), PySem.W.mg_of X G a_Over⟩⟩
  obtain ⟨T_Unfit, iI_Unfit, tI_Unfit, kI_Unfit⟩ := oexB_ok o_Unfit ⟨_, _, _, _, _, _, _, _, _, _, _, _, _, _, _, x_Unfit, (show PySem.HandSPX.refsVE [.type "ValueError", .type "Exception", .type "BaseException", .type "object"] = true by decide +kernel)⟩
  have FI_Unfit := fun_mk (st := i_Unfit) l_Unfit c_Unfit kI_Unfit
  have M_Unfit : Mk1 l.prog w K mg base "Unfit" C_Unfit [] := ⟨⟨_, _, _, T_Unfit, iI_Unfit, tI_Unfit, ok_i_Unfit FI_Unfit T_Unfit (hN 8 (by decide)), FI_Unfit.binds (ps := ["self"]) (fun _ _ _ _ _ _ us hl => match us, hl with | [_], _ => rfl), PySem.W.mg_of X G a_Unfit⟩⟩
  obtain ⟨T_Nothing, iI_Nothing, tI_Nothing, kI_Nothing⟩ := oexB_ok o_Nothing ⟨_, _, _, _, _, _, _, _, _, _, _, _, _, _, _, x_Nothing, (show PySem.HandSPX.refsVE [.type "ValueError", .type "Exception", .type "BaseException", .type "object"] = true by decide +kernel)⟩
  have FI_Nothing := fun_mk (st := i_Nothing) l_Nothing c_Nothing kI_Nothing
  have M_Nothing : Mk1 l.prog w K mg base "Nothing" C_Nothing [] := ⟨⟨_, _, _, T_Nothing, iI_Nothing, tI_Nothing, ok_i_Nothing FI_Nothing T_Nothing (hN 9 (by decide)), FI_Nothing.binds (ps := ["self"]) (fun _ _ _ _ _ _ us hl => match us, hl with | [_], _ => rfl), PySem.W.mg_of X G a_Nothing⟩⟩
  obtain ⟨T_Broken, iI_Broken, tI_Broken, kI_Broken⟩ := oexB_ok o_Broken ⟨_, _, _, _, _, _, _, _, _, _, _, _, _, _, _, x_Broken, (show PySem.HandSPX.refsVE [.type "ValueError", .type "Exception", .type "BaseException", .type "object"] = true by decide +kernel)⟩
  have FI_Broken := fun_mk (st := i_Broken) l_Broken c_Broken kI_Broken
  have M_Broken : Mk1 l.prog w K mg base "Broken" C_Broken ["at"] := ⟨⟨_, _, _, T_Broken, iI_Broken, tI_Broken, ok_i_Broken FI_Broken T_Broken (hN 10 (by decide)), FI_Broken.binds (ps := ["self", "at"]) (fun _ _ _ _ _ _ us hl => match us, hl with | [_, _], _ => rfl), PySem.W.mg_of X G a_Broken⟩⟩
  obtain ⟨T_BadPlacing, iI_BadPlacing, tI_BadPlacing, kI_BadPlacing⟩ := oexB_ok o_BadPlacing ⟨_, _, _, _, _, _, _, _, _, _, _, _, _, _, _, x_BadPlacing, (show PySem.HandSPX.refsVE [.type "ValueError", .type "Exception", .type "BaseException", .type "object"] = true by decide +kernel)⟩
  have FI_BadPlacing := fun_mk (st := i_BadPlacing) l_BadPlacing c_BadPlacing kI_BadPlacing
  have M_BadPlacing : Mk1 l.prog w K mg base "BadPlacing" C_BadPlacing ["at"] := ⟨⟨_, _, _, T_BadPlacing, iI_BadPlacing, tI_BadPlacing, ok_i_BadPlacing FI_BadPlacing T_BadPlacing (hN 11 (by decide)), FI_BadPlacing.binds (ps := ["self", "at"]) (fun _ _ _ _ _ _ us hl => match us, hl with | [_, _], _ => rfl), PySem.W.mg_of X G a_BadPlacing⟩⟩
  obtain ⟨T_TooMany, iI_TooMany, tI_TooMany, kI_TooMany⟩ := oexB_ok o_TooMany ⟨_, _, _, _, _, _, _, _, _, _, _, _, _, _, _, x_TooMany, (show PySem.HandSPX.refsVE [.type "ValueError", .type "Exception", .type "BaseException", .type "object"] = true by decide +kernel)⟩
  have FI_TooMany := fun_mk (st := i_TooMany) l_TooMany c_TooMany kI_TooMany
  have M_TooMany : Mk1 l.prog w K mg base "TooMany" C_TooMany ["limit"] := ⟨⟨_, _, _, T_TooMany, iI_TooMany, tI_TooMany, ok_i_TooMany FI_TooMany T_TooMany (hN 12 (by decide)), FI_TooMany.binds (ps := ["self", "limit"]) (fun _ _ _ _ _ _ us hl => match us, hl with | [_, _], _ => rfl), PySem.W.mg_of X G a_TooMany⟩⟩
  obtain ⟨T_Faulty, iI_Faulty, tI_Faulty, kI_Faulty⟩ := oexB_ok o_Faulty ⟨_, _, _, _, _, _, _, _, _, _, _, _, _, _, _, x_Faulty, (show PySem.HandSPX.refsVE [.type "ValueError", .type "Exception", .type "BaseException", .type "object"] = true by decide +kernel)⟩
  have FI_Faulty := fun_mk (st := i_Faulty) l_Faulty c_Faulty kI_Faulty
  have M_Faulty : Mk1 l.prog w K mg base "Faulty" C_Faulty ["word", "function", "address"] := ⟨⟨_, _, _, T_Faulty, iI_Faulty, tI_Faulty, ok_i_Faulty FI_Faulty T_Faulty (hN 13 (by decide)), FI_Faulty.binds (ps := ["self", "word", "function", "address"]) (fun _ _ _ _ _ _ us hl => match us, hl with | [_, _, _, _], _ => rfl), PySem.W.mg_of X G a_Faulty⟩⟩
  obtain ⟨T_Unsteady, iI_Unsteady, tI_Unsteady, kI_Unsteady⟩ := oexB_ok o_Unsteady ⟨_, _, _, _, _, _, _, _, _, _, _, _, _, _, _, x_Unsteady, (show PySem.HandSPX.refsVE [.type "ValueError", .type "Exception", .type "BaseException", .type "object"] = true by decide +kernel)⟩
  have FI_Unsteady := fun_mk (st := i_Unsteady) l_Unsteady c_Unsteady kI_Unsteady
  have M_Unsteady : Mk1 l.prog w K mg base "Unsteady" C_Unsteady ["why"] := ⟨⟨_, _, _, T_Unsteady, iI_Unsteady, tI_Unsteady, ok_i_Unsteady FI_Unsteady T_Unsteady (hN 14 (by decide)), FI_Unsteady.binds (ps := ["self", "why"]) (fun _ _ _ _ _ _ us hl => match us, hl with | [_, _], _ => rfl), PySem.W.mg_of X G a_Unsteady⟩⟩
  obtain ⟨T_NoDeed, iI_NoDeed, tI_NoDeed, kI_NoDeed⟩ := oexB_ok o_NoDeed ⟨_, _, _, _, _, _, _, _, _, _, _, _, _, _, _, x_NoDeed, (show PySem.HandSPX.refsVE [.type "ValueError", .type "Exception", .type "BaseException", .type "object"] = true by decide +kernel)⟩
  have FI_NoDeed := fun_mk (st := i_NoDeed) l_NoDeed c_NoDeed kI_NoDeed
  have M_NoDeed : Mk1 l.prog w K mg base "NoDeed" C_NoDeed [] := ⟨⟨_, _, _, T_NoDeed, iI_NoDeed, tI_NoDeed, ok_i_NoDeed FI_NoDeed T_NoDeed (hN 15 (by decide)), FI_NoDeed.binds (ps := ["self"]) (fun _ _ _ _ _ _ us hl => match us, hl with | [_], _ => rfl), PySem.W.mg_of X G a_NoDeed⟩⟩
  obtain ⟨T_Full, iI_Full, tI_Full, kI_Full⟩ := oexB_ok o_Full ⟨_, _, _, _, _, _, _, _, _, _, _, _, _, _, _, x_Full, (show PySem.HandSPX.refsVE [.type "ValueError", .type "Exception", .type "BaseException", .type "object"] = true by decide +kernel)⟩
  have FI_Full := fun_mk (st := i_Full) l_Full c_Full kI_Full
  have M_Full : Mk1 l.prog w K mg base "Full" C_Full ["limit"] := ⟨⟨_, _, _, T_Full, iI_Full, tI_Full, ok_i_Full FI_Full T_Full (hN 16 (by decide)), FI_Full.binds (ps := ["self", "limit"]) (fun _ _ _ _ _ _ us hl => match us, hl with | [_, _], _ => rfl), PySem.W.mg_of X G a_Full⟩⟩
  obtain ⟨T_Refused, iI_Refused, tI_Refused, kI_Refused⟩ := oexB_ok o_Refused ⟨_, _, _, _, _, _, _, _, _, _, _, _, _, _, _, x_Refused, (show PySem.HandSPX.refsVE [.type "ValueError", .type "Exception", .type "BaseException", .type "object"] = true by decide +kernel)⟩
  have FI_Refused := fun_mk (st := i_Refused) l_Refused c_Refused kI_Refused
  have M_Refused : Mk1 l.prog w K mg base "Refused" C_Refused ["deed", "why"] := ⟨⟨_, _, _, T_Refused, iI_Refused, tI_Refused, ok_i_Refused FI_Refused T_Refused (hN 17 (by decide)), FI_Refused.binds (ps := ["self", "deed", "why"]) (fun _ _ _ _ _ _ us hl => match us, hl with | [_, _, _], _ => rfl), PySem.W.mg_of X G a_Refused⟩⟩
  obtain ⟨T_NoEntry, iI_NoEntry, tI_NoEntry, kI_NoEntry⟩ := oexB_ok o_NoEntry ⟨_, _, _, _, _, _, _, _, _, _, _, _, _, _, _, x_NoEntry, (show PySem.HandSPX.refsVE [.type "ValueError", .type "Exception", .type "BaseException", .type "object"] = true by decide +kernel)⟩
  have FI_NoEntry := fun_mk (st := i_NoEntry) l_NoEntry c_NoEntry kI_NoEntry
  have M_NoEntry : Mk1 l.prog w K mg base "NoEntry" C_NoEntry ["many"] := ⟨⟨_, _, _, T_NoEntry, iI_NoEntry, tI_NoEntry, ok_i_NoEntry FI_NoEntry T_NoEntry (hN 18 (by decide)), FI_NoEntry.binds (ps := ["self", "many"]) (fun _ _ _ _ _ _ us hl => match us, hl with | [_, _], _ => rfl), PySem.W.mg_of X G a_NoEntry⟩⟩
  obtain ⟨T_NoText, iI_NoText, tI_NoText, kI_NoText⟩ := oexB_ok o_NoText ⟨_, _, _, _, _, _, _, _, _, _, _, _, _, _, _, x_NoText, (show PySem.HandSPX.refsVE [.type "ValueError", .type "Exception", .type "BaseException", .type "object"] = true by decide +kernel)⟩
  have FI_NoText := fun_mk (st := i_NoText) l_NoText c_NoText kI_NoText
  have M_NoText : Mk1 l.prog w K mg base "NoText" C_NoText [] := ⟨⟨_, _, _, T_NoText, iI_NoText, tI_NoText, ok_i_NoText FI_NoText T_NoText (hN 19 (by decide)), FI_NoText.binds (ps := ["self"]) (fun _ _ _ _ _ _ us hl => match us, hl with | [_], _ => rfl), PySem.W.mg_of X G a_NoText⟩⟩
  obtain ⟨T_NoCommand, iI_NoCommand, tI_NoCommand, kI_NoCommand⟩ := oexB_ok o_NoCommand ⟨_, _, _, _, _, _, _, _, _, _, _, _, _, _, _, x_NoCommand, (show PySem.HandSPX.refsVE [.type "ValueError", .type "Exception", .type "BaseException", .type "object"] = true by decide +kernel)⟩
  have FI_NoCommand := fun_mk (st := i_NoCommand) l_NoCommand c_NoCommand kI_NoCommand
  have M_NoCommand : Mk1 l.prog w K mg base "NoCommand" C_NoCommand [] := ⟨⟨_, _, _, T_NoCommand, iI_NoCommand, tI_NoCommand, ok_i_NoCommand FI_NoCommand T_NoCommand (hN 20 (by decide)), FI_NoCommand.binds (ps := ["self"]) (fun _ _ _ _ _ _ us hl => match us, hl with | [_], _ => rfl), PySem.W.mg_of X G a_NoCommand⟩⟩
  have cal_law_bag : ∀ {k : Nat} {sp : Sp}, FnOk l.prog w K mg base CX0 k f_law_bag _ ["_law_script"] sp → C8.Cal l.prog w K mg base k "_law_bag" sp [] := fun h => ⟨⟨_, _, _, [], h, mg_law_bag, k_law_bag, b_law_bag, .nil⟩⟩
  have cal_law_take : ∀ {k : Nat} {sp : Sp}, FnOk l.prog w K mg base CX0 k f_law_take _ ["_law_bag_here", "_law_many"] sp → C8.Cal l.prog w K mg base k "_law_take" sp [] := fun h => ⟨⟨_, _, _, [], h, mg_law_take, k_law_take, b_law_take, .nil⟩⟩
  have cal_law_alike : ∀ {k : Nat} {sp : Sp}, FnOk l.prog w K mg base CX0 k f_law_alike _ ["_law_found", "_law_due"] sp → C8.Cal l.prog w K mg base k "_law_alike" sp [] := fun h => ⟨⟨_, _, _, [], h, mg_law_alike, k_law_alike, b_law_alike, .nil⟩⟩
  have calG_law_alike : ∀ {k : Nat} {sp : Sp}, FnG l.prog w K mg base CX0 k f_law_alike _ ["_law_found", "_law_due"] sp → CalG l.prog w K mg base k "_law_alike" sp [] := fun h => ⟨⟨_, _, _, [], h, mg_law_alike, k_law_alike, b_law_alike, .nil⟩⟩
  have cal_law_thing : ∀ {k : Nat} {sp : Sp}, FnOk l.prog w K mg base CX0 k f_law_thing _ ["_law_bag_here"] sp → C8.Cal l.prog w K mg base k "_law_thing" sp [] := fun h => ⟨⟨_, _, _, [], h, mg_law_thing, k_law_thing, b_law_thing, .nil⟩⟩
  have cal_law_errors : ∀ {k : Nat} {sp : Sp}, FnOk l.prog w K mg base CX0 k f_law_errors _ ["_law_a", "_law_b", "_law_c"] sp → C8.Cal l.prog w K mg base k "_law_errors" sp [] := fun h => ⟨⟨_, _, _, [], h, mg_law_errors, k_law_errors, b_law_errors, .nil⟩⟩
  have cal_law_kinds : ∀ {k : Nat} {sp : Sp}, FnOk l.prog w K mg base CX0 k f_law_kinds _ ["_law_e"] sp → C8.Cal l.prog w K mg base k "_law_kinds" sp [] := fun h => ⟨⟨_, _, _, [], h, mg_law_kinds, k_law_kinds, b_law_kinds, .nil⟩⟩
  have cal_law_fields : ∀ {k : Nat} {sp : Sp}, FnOk l.prog w K mg base CX0 k f_law_fields _ ["_law_some"] sp → C8.Cal l.prog w K mg base k "_law_fields" sp [] := fun h => ⟨⟨_, _, _, [], h, mg_law_fields, k_law_fields, b_law_fields, .nil⟩⟩
  have take := cal_law_take (ok_take F_law_take m_len m_int)
  have errs := cal_law_errors (ok_errors (c := fun i => [C_Wrong, C_BadStatement, C_BadCells, C_BadKept, C_BadShut, C_Unknown, C_NoName, C_Over, C_Unfit, C_Nothing, C_Broken, C_BadPlacing, C_TooMany, C_Faulty, C_Unsteady, C_NoDeed, C_Full, C_Refused, C_NoEntry, C_NoText, C_NoCommand].getD i 0) F_law_errors M_Wrong M_BadStatement M_BadCells M_BadKept M_BadShut M_Unknown M_NoName M_Over M_Unfit M_Nothing M_Broken M_BadPlacing M_TooMany M_Faulty M_Unsteady M_NoDeed M_Full M_Refused M_NoEntry M_NoText M_NoCommand)
  have knd := cal_law_kinds (ok_kinds (c := fun i => [C_Wrong, C_BadStatement, C_BadCells, C_BadKept, C_BadShut, C_Unknown, C_NoName, C_Over, C_Unfit, C_Nothing, C_Broken, C_BadPlacing, C_TooMany, C_Faulty, C_Unsteady, C_NoDeed, C_Full, C_Refused, C_NoEntry, C_NoText, C_NoCommand].getD i 0) F_law_kinds m_isinstance ⟨_, PySem.W.mg_of X G a_Wrong, rfl⟩ ⟨_, PySem.W.mg_of X G a_BadStatement, rfl⟩ ⟨_, PySem.W.mg_of X G a_BadCells, rfl⟩ ⟨_, PySem.W.mg_of X G a_BadKept, rfl⟩ ⟨_, PySem.W.mg_of X G a_BadShut, rfl⟩ ⟨_, PySem.W.mg_of X G a_Unknown, rfl⟩ ⟨_, PySem.W.mg_of X G a_NoName, rfl⟩ ⟨_, PySem.W.mg_of X G a_Over, rfl⟩ ⟨_, PySem.W.mg_of X G a_Unfit, rfl⟩ ⟨_, PySem.W.mg_of X G a_Nothing, rfl⟩ ⟨_, PySem.W.mg_of X G a_Broken, rfl⟩ ⟨_, PySem.W.mg_of X G a_BadPlacing, rfl⟩ ⟨_, PySem.W.mg_of X G a_TooMany, rfl⟩ ⟨_, PySem.W.mg_of X G a_Faulty, rfl⟩ ⟨_, PySem.W.mg_of X G a_Unsteady, rfl⟩ ⟨_, PySem.W.mg_of X G a_NoDeed, rfl⟩ ⟨_, PySem.W.mg_of X G a_Full, rfl⟩ ⟨_, PySem.W.mg_of X G a_Refused, rfl⟩ ⟨_, PySem.W.mg_of X G a_NoEntry, rfl⟩ ⟨_, PySem.W.mg_of X G a_NoText, rfl⟩ ⟨_, PySem.W.mg_of X G a_NoCommand, rfl⟩)
  have flds := cal_law_fields (ok_fields (c := fun i => [C_Wrong, C_BadStatement, C_BadCells, C_BadKept, C_BadShut, C_Unknown, C_NoName, C_Over, C_Unfit, C_Nothing, C_Broken, C_BadPlacing, C_TooMany, C_Faulty, C_Unsteady, C_NoDeed, C_Full, C_Refused, C_NoEntry, C_NoText, C_NoCommand].getD i 0) F_law_fields (fun i hi => (Z.ex i hi).xf) hN)
  exact ok_law F_law Z (cal_law_bag (ok_bag F_law_bag m_abs)) (cal_law_thing (ok_thing F_law_thing take)) errs knd flds (calG_law_alike (ok_alike F_law_alike hsys m_repr)) cE ⟨_, PySem.W.mg_of X G a_BackError, rfl⟩ m_range m_enumerate m_isinstance m_list m_dict m_ValueError
end K11

open PySem PySem.W PyProof.Rows
set_option maxRecDepth 100000 in
set_option maxHeartbeats 0 in
theorem PySem.Challenge.cw_landedback_k11_errors_kept_holds : PySem.Challenge.rw_landedback_k11_errors_kept.Holds := by
  w_on; o_law; k_head; (case hw => w_witness2)
  k_fill
  refine VL.walkG2 (l := PySem.Challenge.rw_landedback_k11_errors_kept) (k := 4) (x := "_law_script") (sp := K11.spLaw) rfl rfl (by decide) rfl ⟨rfl, by decide, by decide⟩ (fun w h Y => PySem.W.kIn_of Y) ?F (fun K H a ns h1 h2 h3 => ⟨a, ns, rfl, h3, h1, fun _ => rfl⟩)
  case F =>
    intro w mg fa h KX G hmg
    refine' K11.all_mk KX G hmg ?a_law_bag ?l_law_bag ?c_law_bag ?k_law_bag ?a_law_take ?l_law_take ?c_law_take ?k_law_take ?a_law_alike ?l_law_alike ?c_law_alike ?k_law_alike ?a_law_thing ?l_law_thing ?c_law_thing ?k_law_thing ?a_law_errors ?l_law_errors ?c_law_errors ?k_law_errors ?a_law_kinds ?l_law_kinds ?c_law_kinds ?k_law_kinds ?a_law_fields ?l_law_fields ?c_law_fields ?k_law_fields ?a_law ?l_law ?c_law ?k_law ?a_BackError ?e_BackError ?k_BackError ?a_Wrong ?x_Wrong ?ini_Wrong ?l_Wrong ?c_Wrong ?o_Wrong ?a_BadStatement ?x_BadStatement ?ini_BadStatement ?l_BadStatement ?c_BadStatement ?o_BadStatement ?a_BadCells ?x_BadCells ?ini_BadCells ?l_BadCells ?c_BadCells ?o_BadCells ?a_BadKept ?x_BadKept ?ini_BadKept ?l_BadKept ?c_BadKept ?o_BadKept ?a_BadShut ?x_BadShut ?ini_BadShut ?l_BadShut ?c_BadShut ?o_BadShut ?a_Unknown ?x_Unknown ?ini_Unknown ?l_Unknown ?c_Unknown ?o_Unknown ?a_NoName ?x_NoName ?ini_NoName ?l_NoName ?c_NoName ?o_NoName ?a_Over ?x_Over ?ini_Over ?l_Over ?c_Over ?o_Over ?a_Unfit ?x_Unfit ?ini_Unfit ?l_Unfit ?c_Unfit ?o_Unfit ?a_Nothing ?x_Nothing ?ini_Nothing ?l_Nothing ?c_Nothing ?o_Nothing ?a_Broken ?x_Broken ?ini_Broken ?l_Broken ?c_Broken ?o_Broken ?a_BadPlacing ?x_BadPlacing ?ini_BadPlacing ?l_BadPlacing ?c_BadPlacing ?o_BadPlacing ?a_TooMany ?x_TooMany ?ini_TooMany ?l_TooMany ?c_TooMany ?o_TooMany ?a_Faulty ?x_Faulty ?ini_Faulty ?l_Faulty ?c_Faulty ?o_Faulty ?a_Unsteady ?x_Unsteady ?ini_Unsteady ?l_Unsteady ?c_Unsteady ?o_Unsteady ?a_NoDeed ?x_NoDeed ?ini_NoDeed ?l_NoDeed ?c_NoDeed ?o_NoDeed ?a_Full ?x_Full ?ini_Full ?l_Full ?c_Full ?o_Full ?a_Refused ?x_Refused ?ini_Refused ?l_Refused ?c_Refused ?o_Refused ?a_NoEntry ?x_NoEntry ?ini_NoEntry ?l_NoEntry ?c_NoEntry ?o_NoEntry ?a_NoText ?x_NoText ?ini_NoText ?l_NoText ?c_NoText ?o_NoText ?a_NoCommand ?x_NoCommand ?ini_NoCommand ?l_NoCommand ?c_NoCommand ?o_NoCommand ?kits ?nams ?z_len ?z_int ?z_abs ?z_repr ?z_range ?z_enumerate ?z_isinstance ?z_list ?z_dict ?z_ValueError
    (case a_law_bag => k_is); (case l_law_bag => k_is); (case c_law_bag => k_is); (case k_law_bag => k_is)
    (case a_law_take => k_is); (case l_law_take => k_is); (case c_law_take => k_is); (case k_law_take => k_is)
    (case a_law_alike => k_is); (case l_law_alike => k_is); (case c_law_alike => k_is); (case k_law_alike => k_is)
    (case a_law_thing => k_is); (case l_law_thing => k_is); (case c_law_thing => k_is); (case k_law_thing => k_is)
    (case a_law_errors => k_is); (case l_law_errors => k_is); (case c_law_errors => k_is); (case k_law_errors => k_is)
    (case a_law_kinds => k_is); (case l_law_kinds => k_is); (case c_law_kinds => k_is); (case k_law_kinds => k_is)
    (case a_law_fields => k_is); (case l_law_fields => k_is); (case c_law_fields => k_is); (case k_law_fields => k_is)
    (case a_law => k_is); (case l_law => k_is); (case c_law => k_is); (case k_law => k_is)
    (case a_BackError => k_is); (case k_BackError => k_is); (case a_Wrong => k_is)
    (case x_Wrong => k_is); (case ini_Wrong => k_is); (case l_Wrong => k_is); (case c_Wrong => k_is)
    (case a_BadStatement => k_is); (case x_BadStatement => k_is); (case ini_BadStatement => k_is)
    (case l_BadStatement => k_is); (case c_BadStatement => k_is); (case a_BadCells => k_is)
    (case x_BadCells => k_is); (case ini_BadCells => k_is); (case l_BadCells => k_is); (case c_BadCells => k_is)
    (case a_BadKept => k_is); (case x_BadKept => k_is); (case ini_BadKept => k_is)
    (case l_BadKept => k_is); (case c_BadKept => k_is); (case a_BadShut => k_is)
    (case x_BadShut => k_is); (case ini_BadShut => k_is); (case l_BadShut => k_is); (case c_BadShut => k_is)
    (case a_Unknown => k_is); (case x_Unknown => k_is); (case ini_Unknown => k_is)
    (case l_Unknown => k_is); (case c_Unknown => k_is); (case a_NoName => k_is)
    (case x_NoName => k_is); (case ini_NoName => k_is); (case l_NoName => k_is); (case c_NoName => k_is)
    (case a_Over => k_is); (case x_Over => k_is); (case ini_Over => k_is)
    (case l_Over => k_is); (case c_Over => k_is); (case a_Unfit => k_is)
    (case x_Unfit => k_is); (case ini_Unfit => k_is); (case l_Unfit => k_is); (case c_Unfit => k_is)
    (case a_Nothing => k_is); (case x_Nothing => k_is); (case ini_Nothing => k_is)
    (case l_Nothing => k_is); (case c_Nothing => k_is); (case a_Broken => k_is)
    (case x_Broken => k_is); (case ini_Broken => k_is); (case l_Broken => k_is); (case c_Broken => k_is)
    (case a_BadPlacing => k_is); (case x_BadPlacing => k_is); (case ini_BadPlacing => k_is)
    (case l_BadPlacing => k_is); (case c_BadPlacing => k_is); (case a_TooMany => k_is)
    (case x_TooMany => k_is); (case ini_TooMany => k_is); (case l_TooMany => k_is); (case c_TooMany => k_is)
    (case a_Faulty => k_is); (case x_Faulty => k_is); (case ini_Faulty => k_is)
    (case l_Faulty => k_is); (case c_Faulty => k_is); (case a_Unsteady => k_is)
    (case x_Unsteady => k_is); (case ini_Unsteady => k_is); (case l_Unsteady => k_is); (case c_Unsteady => k_is)
    (case a_NoDeed => k_is); (case x_NoDeed => k_is); (case ini_NoDeed => k_is)
    (case l_NoDeed => k_is); (case c_NoDeed => k_is); (case a_Full => k_is)
    (case x_Full => k_is); (case ini_Full => k_is); (case l_Full => k_is); (case c_Full => k_is)
    (case a_Refused => k_is); (case x_Refused => k_is); (case ini_Refused => k_is)
    (case l_Refused => k_is); (case c_Refused => k_is); (case a_NoEntry => k_is)
    (case x_NoEntry => k_is); (case ini_NoEntry => k_is); (case l_NoEntry => k_is); (case c_NoEntry => k_is)
    (case a_NoText => k_is); (case x_NoText => k_is); (case ini_NoText => k_is)
    (case l_NoText => k_is); (case c_NoText => k_is); (case a_NoCommand => k_is)
    (case x_NoCommand => k_is); (case ini_NoCommand => k_is); (case l_NoCommand => k_is); (case c_NoCommand => k_is)
    (case z_len => k_is)
    (case z_int => k_is); (case z_abs => k_is); (case z_repr => k_is); (case z_range => k_is)
    (case z_enumerate => k_is); (case z_isinstance => k_is); (case z_list => k_is); (case z_dict => k_is)
    (case z_ValueError => k_is)
    (case e_BackError => kernel_rfl)
    (case o_Wrong => kernel_rfl)
    (case o_BadStatement => kernel_rfl)
    (case o_BadCells => kernel_rfl)
    (case o_BadKept => kernel_rfl)
    (case o_BadShut => kernel_rfl)
    (case o_Unknown => kernel_rfl)
    (case o_NoName => kernel_rfl)
    (case o_Over => kernel_rfl)
    (case o_Unfit => kernel_rfl)
    (case o_Nothing => kernel_rfl)
    (case o_Broken => kernel_rfl)
    (case o_BadPlacing => kernel_rfl)
    (case o_TooMany => kernel_rfl)
    (case o_Faulty => kernel_rfl)
    (case o_Unsteady => kernel_rfl)
    (case o_NoDeed => kernel_rfl)
    (case o_Full => kernel_rfl)
    (case o_Refused => kernel_rfl)
    (case o_NoEntry => kernel_rfl)
    (case o_NoText => kernel_rfl)
    (case o_NoCommand => kernel_rfl)
    (case kits => kernel_rfl)
    (case nams => kernel_rfl)

