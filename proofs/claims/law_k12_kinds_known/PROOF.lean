import PyProof.Rows.All
import Wide.All
import OpenK.AllK
import Wide.FinOn
import HandS.ForMost
import HandS.Wide
import HandS.IsInst
import HandS.Codes
import HandS.Walk
import HandS.Style
import HandS.TupLe
import HandS.SortInts
import HandS.TupAny
import HandS.WordsDict
import HandS.WordsList
import HandS.Flow
import HandS.StrMore
import PySem.Challenge.RW_landedback_k12_kinds_known
set_option Elab.async false
set_option linter.all false
set_option maxRecDepth 100000
/-! # The layer with guards: where a repr of a list may run (no other repr is under way) -/
namespace VL
open PySem PySem.Spec PyProof.Rows L2

/-- as the layer's promise of a def, at callers under which no repr is under way -/
structure FnG (P : Program) (w : World) (K : PySem.W.Frag) (mg : Str → Option Value) (base : Heap) (CX : CXT) (k : Nat) (f : Addr) (fd : FuncData) (ps : List Str) (sp : Sp) : Prop where
  lenG : ∀ vs H Q E, sp vs H Q E → vs.length = ps.length
  go : ∀ (A : Around) (outer : List Env) (s : Shared) (H : Hp) (args : Args) (us : List Value) (vs : List V) (Q : VK) (E : XK), A.guards = some [] → Room k A → Env0 P w K mg base A outer s H → BindsTo s fd args (ps.zip us) → Vals vs us →
    sp vs H Q E → codeAny (model P w) A (.call (.ref f) args) (CR CX outer P w H s Q E) s

section
variable {P : Program} {w : World} {K : PySem.W.Frag} {mg : Str → Option Value} {base : Heap} {CX : CXT} {j k : Nat} {f : Addr} {fd : FuncData} {ps : List Str} {sp : Sp}
theorem FnG.of (F : FnOk P w K mg base CX k f fd ps sp) : FnG P w K mg base CX k f fd ps sp := ⟨F.len, fun A outer s H args us vs Q E _ => F.run A outer s H args us vs Q E⟩
theorem FnG.up (F : FnG P w K mg base CX j f fd ps sp) (h : j ≤ k) : FnG P w K mg base CX k f fd ps sp :=
  ⟨F.lenG, fun A outer s H args us vs Q E hg hr => F.go A outer s H args us vs Q E hg (hr.mono h)⟩
theorem deeper_guards {A : Around} {env : Env} (h : A.guards = some []) : (A.deeper env).guards = some [] := h

/-- a def by its body, its reading knowing that no repr is under way -/
theorem fnG_of {name qual : Str} {params : Arguments} {body : List Stmt} {scope : Scope} {dV kV doc pm cdv ct oc : Value} {an od : Option Addr} {osl : Array (Option Value)} {N : List Str}
    (lk : K.lookup f = some ⟨oc, od, .func (PySem.W.fnOf name qual params body scope dV kV doc pm an cdv ct), osl⟩)
    (hcd : PySem.W.codeIn K cdv qual = true) (S : FnScope N ps scope) (len : ∀ vs H Q E, sp vs H Q E → vs.length = ps.length)
    (hb : ∀ (A : Around) (outer : List Env) (s : Shared) (H : Hp) (vs : List V) (Q : VK) (E : XK), (A.deeper (envOfC qual scope s.heap.objs.size f cdv)).guards = some [] → Room k (A.deeper (envOfC qual scope s.heap.objs.size f cdv)) → sp vs H Q E →
      ∃ t, PSs (cxOf CX P w K mg base N qual scope f cdv A outer s H E) body t ∧ t { nx := fun _ H' => Q .non H', rt := Q } (start N vs) H) :
    FnG P w K mg base CX (k + 1) f (PySem.W.fnOf name qual params body scope dV kV doc pm an cdv ct) ps sp := by
  refine ⟨len, fun A outer s H args us vs Q E hG room e0 bs rel want => ?_⟩
  have lenP := len vs H Q E want
  have KH : K.In s.heap := e0.mod.kin.keeps (fun b o e => (e0.bs b o e).1)
  have nolim : s.heap.NoLimit := e0.mod.nolimit.keeps (fun b o e => (e0.bs b o e).1)
  refine codeAny_call_function room.depth (KH _ _ lk) rfl S.co S.gen rfl (PySem.W.codeRec_of KH hcd) (bs _ _ _ _ (wpAny_newFunctionEnv_cells S.kind (fun ⟨nm, vl⟩ hy => ?kinds) (fun env henv s1 x => ?enter)))
  case kinds =>
    cases S.par nm (List.of_mem_zip hy).1 with
    | inl z => exact Or.inl z
    | inr z => exact Or.inr ⟨z, PySem.W.cellsFrom_some _ _ _ (Or.inl z)⟩
  case enter =>
    subst henv
    refine ⟨nolim.keeps x.toInCall.keep, codeAny_func ?_⟩
    obtain ⟨t, der, rd⟩ := hb A outer s H vs Q E (deeper_guards hG) (room.deeper _) want
    have inv : Inv (cxOf CX P w K mg base N qual scope f cdv A outer s H E) [] (start N vs) H s1 := inv_start S room.hd e0 lenP rel x
    refine wpAny_mono (der.run [] s1 (start N vs) H _ inv rd) ?_ (fun _ _ z => z)
    intro fl s2 hs
    have done : ∀ {τ : L2.St} {G : Hp} {v : V} {u : Value}, Inv (cxOf CX P w K mg base N qual scope f cdv A outer s H E) [] τ G s2 → RelV v u → Q v G → CE outer P w H s Q u s2 := by
      intro τ G v u J rv q
      exact ⟨v, G, J.os, J.bare, J.base, J.hok, rv, q⟩
    match fl, hs with
    | .ret u, hs =>
      obtain ⟨v, τ, G, J, rv, q⟩ := hs
      exact done J rv q
    | .next, hs =>
      obtain ⟨τ, G, J, q⟩ := hs
      exact done (v := V.non) (u := Value.none) J rfl q
    | .brk, hs =>
      obtain ⟨_, _, _, q⟩ := hs
      exact q.elim
    | .cont, hs =>
      obtain ⟨_, _, _, q⟩ := hs
      exact q.elim

/-- a def of the text by its body -/
theorem okG {x qual : Str} {st : Stmt} {N : List Str} (F : Fun K x qual st f fd) (S : FnScope N ps (defScope st)) (len : ∀ vs H Q E, sp vs H Q E → vs.length = ps.length)
    (hb : ∀ (cdv : Value) (A : Around) (outer : List Env) (s : Shared) (H : Hp) (vs : List V) (Q : VK) (E : XK), (A.deeper (envOfC qual (defScope st) s.heap.objs.size f cdv)).guards = some [] → Room k (A.deeper (envOfC qual (defScope st) s.heap.objs.size f cdv)) → sp vs H Q E →
      ∃ t, PSs ((cxOf CX0 P w K mg base N qual (defScope st) f cdv A outer s H E).nox) (defBody st) t ∧ t { nx := fun _ H' => Q .non H', rt := Q } (start N vs) H) : FnG P w K mg base CX0 (k + 1) f fd ps sp := by
  obtain ⟨oc, od, kV, doc, pm, an, cdv, ct, osl, rfl, lk, hcd⟩ := F.ex
  refine fnG_of lk hcd S len (fun A outer s H vs Q E hG hr want => ?_)
  obtain ⟨t, h, q⟩ := hb cdv A outer s H vs Q E hG hr want
  exact ⟨t, h.nox, q⟩
end

section
variable {X : Cx} {CX : CXT} {k : Nat} {f : Addr} {fd : FuncData} {ps : List Str} {sp : Sp} {dvs : List V} {ds : List Value} {E : XK} {x : Str} {p pos : Pos} {e : Expr} {es : List Expr} {t : TA}
/-- the call of such a def -/
theorem pe_callG (F : FnG X.prog X.w X.K X.mg X.base CX k f fd ps sp) (hG : X.A.guards = some []) (hr : Room k X.A) (hg : Gl X x) (hm : X.mg x = some (.ref f)) (hk : PySem.W.keepIn X.K (.ref f) = true) (hb : Binds X.K fd ps ds) (hd : Vals dvs ds) (hx : Passes CX X E) (ha : PA X (e :: es) t)
    (hdb : (x == ("__debug__" : Str)) = false := by decide) (he : starEach (e :: es) X.env = (false, eval e X.env) :: starEach es X.env := by rfl) (hpl : (backTo pos (starEach es X.env)).any (·.1) = false := by rfl) : PE X (.Call (.Name x p) (e :: es) [] pos) (tCall sp dvs E t) := by
  constructor
  intro pins s σ H Q I h
  refine wpAny_Call_Name_kw (ld_glob I hg hm (PySem.W.callWith_K (h₀ := X.base) I.ok.mod.kin hk (thn (ha.run pos pins s σ H _ I h) (fun us s1 hh => ?_)) he hpl) hdb)
  obtain ⟨vs, H1, I1, r, q⟩ := hh
  refine ⟨I1.kIn, ?_⟩
  have rel : Vals (vs ++ dvs) (us ++ ds) := r.append hd
  have cnt : (us ++ ds).length = ps.length := rel.length.symm.trans (F.lenG _ _ _ _ q)
  refine wpAny_call (codeAny_mono (F.go X.A X.stack s1 H1 ⟨us, []⟩ (us ++ ds) (vs ++ dvs) Q E hG hr I1.env0 (hb s1 us I1.kIn cnt) rel q) (fun res s2 hq => ?_))
  match res, hq with
  | .error ex, hq => exact hx pins σ H1 s1 ex s2 I1 hq
  | .ok (.ret u), hq => exact I1.after hq
  | .ok .next, hq => exact hq.elim
  | .ok .brk, hq => exact hq.elim
  | .ok .cont, hq => exact hq.elim

/-- a def that may be called by its name, where no repr is under way -/
structure CalG (P : Program) (w : World) (K : PySem.W.Frag) (mg : Str → Option Value) (base : Heap) (k : Nat) (x : Str) (sp : Sp) (dvs : List V) : Prop where
  exG : ∃ (f : Addr) (fd : FuncData) (ps : List Str) (ds : List Value), FnG P w K mg base CX0 k f fd ps sp ∧ mg x = some (.ref f) ∧ PySem.W.keepIn K (.ref f) = true ∧ Binds K fd ps ds ∧ Vals dvs ds
theorem pe_cG {j : Nat} (c : CalG X.prog X.w X.K X.mg X.base k x sp dvs) (hG : X.A.guards = some []) (hr : Room j X.A) (hk : k ≤ j) (hg : Gl X x) (ha : PA X (e :: es) t)
    (hdb : (x == ("__debug__" : Str)) = false := by decide) (he : starEach (e :: es) X.env = (false, eval e X.env) :: starEach es X.env := by rfl) (hpl : (backTo pos (starEach es X.env)).any (·.1) = false := by rfl) : PE X (.Call (.Name x p) (e :: es) [] pos) (tCall sp dvs E0 t) := by
  obtain ⟨f, fd, ps, ds, F, hm, kp, b, d⟩ := c.exG
  exact pe_callG F hG (hr.mono hk) hg hm kp b d pass0 ha hdb he hpl
end

/-! ### repr of data -/
/-- a key as data -/
def kD : Key → PyData
  | .inl i => .int i
  | .inr x => .str x
/-- data that may be shown: as the layer's, and dicts of plain values -/
inductive Dr (K : PySem.W.Frag) (H : Hp) : V → PyData → Prop where
  | dp {v : V} {d : PyData} (h : Dp K H v d) (n : d.hasDict = false) : Dr K H v d
  | dct {a : Addr} {kvs : List (Key × V)} {ds : List PyData} (h : H a = some (.dK kvs)) (q : DpAll K H (kvs.map (·.2)) ds) (z : ∀ v ∈ kvs.map (·.2), ∀ b, v ≠ .ref b) : Dr K H (.ref a) (.dict ((kvs.map fun p => kD p.1).zip ds))
def rRepr (K : PySem.W.Frag) : List V → Hp → VK → Prop := fun xs H Q => ∃ (x : V) (d : PyData), xs = [x] ∧ Dr K H x d ∧ d.showable = true ∧ d.depth ≤ 60 ∧ d.shown.length ≤ sizeLine ∧ Q (.str d.shown) H
section
variable {X : Cx} {pins : List (Addr × Obj)} {σ : L2.St} {H : Hp} {s : Shared}
theorem reads_flat (I : Inv X pins σ H s) : ∀ {vs : List V} {ds : List PyData} {us : List Value}, DpAll X.K H vs ds → (∀ v ∈ vs, ∀ b, v ≠ .ref b) → Vals vs us → ReadsAll s.heap us ds []
  | _, _, _, .nil, _, .nil => .nil
  | v :: vs, d :: ds, u :: us, .cons h t, z, .cons r rs => by
    have tl := reads_flat I t (fun v hv => z v (List.mem_cons_of_mem _ hv)) rs
    have hd : Reads s.heap u d [] := by
      cases h with
      | non => cases (show u = Value.none from r); exact .none
      | bl b => cases (show u = Value.bool b from r); exact .bool b
      | int i => obtain ⟨t, e⟩ := (show ∃ t, u = Value.int i t from r); cases e; exact .int i t
      | str x => obtain ⟨t, e⟩ := (show ∃ t, u = Value.str x t from r); cases e; exact .str x t
      | lst _ _ => exact absurd rfl (z _ List.mem_cons_self _)
      | tup _ _ => exact absurd rfl (z _ List.mem_cons_self _)
    exact .cons hd tl
theorem reads_keys {P : Program} {w : World} {h : Heap} : ∀ {es : List DictEntry} {vs : List (Key × Value)} {kvs : List (Key × V)}, Pairs (mixKind P w) es vs → KV kvs vs → ReadsAll h (es.map (·.key)) (kvs.map fun p => kD p.1) []
  | _, _, _, .nil, .nil => .nil
  | e :: es, (k, u) :: vs, (k', v) :: kvs, .cons hk hv t, .cons r rs => by
    have tl := reads_keys (h := h) t rs
    obtain ⟨ek, _⟩ := (show k' = k ∧ RelV v u from r)
    subst ek
    have hd : Reads h e.key (kD k') [] := by
      rcases keyIs_shape (show keyIs k' e.key = true from hk) with ⟨i, tk, rfl, q⟩ | ⟨x, tk, rfl, q⟩
      · rw [q]; exact .int i tk
      · rw [q]; exact .str x tk
    exact .cons hd tl
theorem vals_of_pairs {P : Program} {w : World} : ∀ {es : List DictEntry} {vs : List (Key × Value)} {kvs : List (Key × V)}, Pairs (mixKind P w) es vs → KV kvs vs → Vals (kvs.map (·.2)) (es.map (·.val))
  | _, _, _, .nil, .nil => .nil
  | e :: es, (k, u) :: vs, (k', v) :: kvs, .cons hk hv t, .cons r rs => by
    obtain ⟨_, rv⟩ := (show k' = k ∧ RelV v u from r)
    have hv' : e.val = u := hv
    exact .cons (show RelV v e.val by rw [hv']; exact rv) (vals_of_pairs t rs)
theorem dpAll_len {K : PySem.W.Frag} {H : Hp} : ∀ {vs : List V} {ds : List PyData}, DpAll K H vs ds → vs.length = ds.length
  | _, _, .nil => rfl
  | _, _, .cons _ t => congrArg Nat.succ (dpAll_len t)
theorem Dr.reads (I : Inv X pins σ H s) {v : V} {d : PyData} {u : Value} (h : Dr X.K H v d) (r : RelV v u) : ∃ as, Reads s.heap u d as ∧ (d.hasDict = true → sysModules ∉ as) := by
  cases h with
  | dp q n =>
    obtain ⟨as, z⟩ := Dp.reads I d v u q r
    exact ⟨as, z, fun y => absurd (n.symm.trans y) (by simp)⟩
  | @dct a kvs ds ha q z =>
    cases (show u = Value.ref a from r)
    obtain ⟨_, hs, vs, rk, o, es, ep, ho, hx, hd, _, hp, _⟩ := (show ObjOk X.prog X.w H s.heap a (.dK kvs) from I.hok a _ ha)
    have r1 := reads_keys (h := s.heap) hp rk
    have r2 := reads_flat I q z (vals_of_pairs hp rk)
    have len := dpAll_len q
    rw [List.length_map] at len
    have e1 : ((kvs.map fun p => kD p.1).zip ds).map (·.1) = kvs.map fun p => kD p.1 := List.map_fst_zip (by rw [List.length_map]; omega)
    have e2 : ((kvs.map fun p => kD p.1).zip ds).map (·.2) = ds := List.map_snd_zip (by rw [List.length_map]; omega)
    refine ⟨a :: [] ++ [], ?_, fun _ hm => ?_⟩
    · exact .dict ho hx.1 hd (by rw [e1]; exact r1) (by rw [e2]; exact r2)
    · simp at hm
      rw [← hm] at hs
      simp at hs
/-- repr(x) -/
theorem call_repr (hG : X.A.guards = some []) (hu : X.A.units + 64 < cLine) : CallR X (.builtin "repr") (rRepr X.K) := by
  intro pins s σ H xs us Q I r h
  obtain ⟨x, d, rfl, hd, sh, dep, sz, q⟩ := h
  cases r with
  | cons r1 rn =>
    rename_i u us'
    cases rn
    obtain ⟨as, rd, hs⟩ := Dr.reads I hd r1
    cases x with
    | ref a =>
      cases (show u = Value.ref a from r1)
      exact repr_of_reads' rd sh hs hG (by omega) (fun _ _ z => z) (fun h' tk tk' hk => ⟨.str d.shown, H, I.kept hk, ⟨tk, rfl⟩, q⟩) sz
    | non =>
      cases (show u = Value.none from r1)
      have e : d = .none := by
        cases hd with
        | dp q n => cases q; rfl
      subst e
      exact PySem.P.repr_of_none ⟨.str _, H, I.tok _, ⟨_, rfl⟩, q⟩
    | bl b =>
      cases (show u = Value.bool b from r1)
      have e : d = .bool b := by
        cases hd with
        | dp q n => cases q; rfl
      subst e
      refine PySem.P.repr_of_bool ⟨.str _, H, I.tok _, ⟨_, rfl⟩, ?_⟩
      cases b <;> exact q
    | int i =>
      obtain ⟨t, e2⟩ := (show ∃ t, u = Value.int i t from r1)
      cases e2
      have e : d = .int i := by
        cases hd with
        | dp q n => cases q; rfl
      subst e
      exact PySem.P.repr_of_int (of_decide_eq_true sh) ⟨.str _, H, I.tok _, ⟨_, rfl⟩, q⟩
    | str x =>
      obtain ⟨t, e2⟩ := (show ∃ t, u = Value.str x t from r1)
      cases e2
      have e : d = .str x := by
        cases hd with
        | dp q n => cases q; rfl
      subst e
      exact PySem.P.repr_of_str ⟨.str _, H, I.tok _, ⟨_, rfl⟩, q⟩ sz
    | byt b => exact (by cases hd with | dp q n => cases q)
    | flt b => exact (by cases hd with | dp q n => cases q)
    | ty n => exact (by cases hd with | dp q n => cases q)
end

/-! ### the law's end: as the layer's, from a promise that knows of no repr under way -/
/-- the caller has no repr under way -/
theorem caller_guards : callerA.guards = some [] := rfl
/-- the law is called with the script: T the promise, at the heap behind the top -/
theorem law_callG {P : Program} {w : World} {K : PySem.W.Frag} {mg mb : Str → Option Value} {k : Nat} {fa a : Addr} {fd : FuncData} {x : Str} {sp : Sp} {st : Shared} {vs : List Value} {ns : List Int}
    (KX : K.In st.heap) (hns : st.heap.Ns mainGlobals mg) (hb : st.heap.Ns builtinsNs mb) (hbb : ∀ y : Str, y ≠ "__name__" → mb y = bootBuiltins y) (hlim : st.heap.NoLimit) (hgen : st.gens = #[])
    (ha : st.heap.get? a = some { cls := .type "list", data := .seq vs.toArray }) (hi : IntsAre vs ns) (hl : ns.length ≤ sizeLine) (room : Room k callerA)
    (F : ∀ base : Heap, K.In base → base.Ns mainGlobals mg → FnG P w K mg base CX0 k fa fd [x] sp) (bind : ∀ (s : Shared) (u : Value), BindsTo s fd ⟨[u], []⟩ [(x, u)])
    (want : ∀ H : Hp, Only H → SqL K H a (ns.map V.int) → sp [.ref a] H (fun v _ => v = .bl true) (fun _ _ _ => False)) :
    codeAny (model P w) callerA (.call (.ref fa) ⟨[.ref a], []⟩) (fun r s' => r = .ok (.ret (.bool true)) ∧ OldK st.heap s'.heap ∧ s'.os = st.os ∧ AllBare s'.gens) st := by
  have rel := vals_ints hi
  have size := hi.length
  suffices core : ∀ H : Hp, Only H → SqL K H a (ns.map V.int) → HOk P w H st.heap → (∀ c, H c ≠ none → c = a) → (H a ≠ none → K.lookup a = none) →
      codeAny (model P w) callerA (.call (.ref fa) ⟨[.ref a], []⟩) (fun r s' => r = .ok (.ret (.bool true)) ∧ OldK st.heap s'.heap ∧ s'.os = st.os ∧ AllBare s'.gens) st by
    by_cases hk : ∃ o, K.lookup a = some o
    · obtain ⟨o, hk⟩ := hk
      have same := (KX a o hk).symm.trans ha
      cases same
      refine core (fun _ => none) (fun _ => Or.inl rfl) (Or.inr ⟨_, vs.toArray, _, hk, rfl, rfl, rfl, ?_, ?_⟩) (fun c o z => absurd (show (none : Option HO) = some o from z) (by simp)) (fun c z => absurd rfl z) (fun z => absurd rfl z)
      · rw [List.size_toArray, size]
        exact hl
      · simpa using rel
    · have hk' : K.lookup a = none := by
        cases e : K.lookup a with
        | none => rfl
        | some o => exact absurd ⟨o, e⟩ hk
      refine core (fun c => if c = a then some (.frz { cls := .type "list", data := .seq vs.toArray } (.lst (ns.map V.int))) else none) (fun c => ?_) (Or.inl (Or.inr ⟨{ cls := .type "list", data := .seq vs.toArray }, if_pos rfl⟩)) (fun c o z => ?_) (fun c z => ?_) (fun _ => hk')
      · by_cases e : c = a
        · exact Or.inr ⟨_, _, if_pos e⟩
        · exact Or.inl (if_neg e)
      · by_cases e : c = a
        · have z2 := (if_pos e).symm.trans z
          cases z2
          rw [e]
          exact ⟨ha, by rw [List.length_map]; exact hl, vs, _, rel, ha⟩
        · have z2 := (if_neg e).symm.trans z
          cases z2
      · by_cases e : c = a
        · exact e
        · exact absurd (if_neg e) z
  intro H only script ok hA hK
  have keepB : ∀ {c : Addr} {o : Obj}, st.heap.get? c = some o → H c = none → (hidT st.heap H).get? c = some o := fun e n => hidT_get e n
  have noD : ∀ {c : Addr} {o : Obj} {es : Array DictEntry} {ep : Nat}, st.heap.get? c = some o → o.data = .dict es ep → H c = none := by
    intro c o es ep e d
    by_cases z : H c = none
    · exact z
    · have ec := hA c z
      subst ec
      rw [ha] at e
      cases e
      have d2 : Data.seq vs.toArray _ = Data.dict es ep := d
      cases d2
  have ns2 : ∀ {c : Addr} {m : Str → Option Value}, st.heap.Ns c m → (hidT st.heap H).Ns c m := by
    intro c m q
    obtain ⟨o, es, ep, e, d, r⟩ := q
    exact ⟨o, es, ep, keepB e (noD e d), d, r⟩
  have inB : K.In (hidT st.heap H) := by
    intro c o e
    refine keepB (KX c o e) ?_
    by_cases z : H c = none
    · exact z
    · have ec := hA c z
      subst ec
      have no := hK z
      rw [no] at e
      cases e
  obtain ⟨mc, lim1, lim2⟩ := hlim
  have modB : Mod K mg (hidT st.heap H) := ⟨inB, ns2 hns, ⟨mb, ns2 hb, hbb⟩, ⟨mc, ns2 lim1, lim2⟩⟩
  have env : Env0 P w K mg (hidT st.heap H) callerA [] st H := ⟨rfl, modB, fun c o e => of_hidT e, Nat.le_of_eq (hidT_size _ _), trivial, (fun c hc => absurd (show c ∈ ([] : List Addr) from hc) (by simp)), ok, .of_eq hgen⟩
  refine codeAny_mono ((F _ inB (ns2 hns)).go callerA [] st H ⟨[.ref a], []⟩ [.ref a] [.ref a] _ _ caller_guards room env (bind st (.ref a)) (.cons rfl .nil) (want H only script)) (fun r s' h => ?_)
  match r, h with
  | .error e, h => exact h.elim
  | .ok .next, h => exact h.elim
  | .ok .brk, h => exact h.elim
  | .ok .cont, h => exact h.elim
  | .ok (.ret u), h =>
    obtain ⟨v, H', os, bare, un, ok', rv, q⟩ := h
    cases (show v = V.bl true from q)
    cases (show u = Value.bool true from rv)
    refine ⟨rfl, OldK.of_keep (fun c o e => ?_), os, bare⟩
    cases q2 : H c with
    | none => exact un.keep c o e q2 (fun z => by cases z) (fun z => by cases z)
    | some u =>
      rcases only c with z | ⟨ob, xs, z⟩
      · exact absurd (q2.symm.trans z) (by simp)
      · have fz := un.frzs c ob _ z
        have here := (ok c _ z).1
        have there := (ok' c _ fz).1
        rw [e] at here
        cases here
        exact there
/-- the goal that the head leaves -/
theorem walkG {l : PySem.W.OpenLaw} {n k : Nat} {q : Program} {loose : List Str} {XP : (Str → Option Value) → Heap → Prop} {YP : World → Heap → Prop} {d : DefRec} {K : Params → PySem.W.Frag} {sp : PySem.W.Frag → Sp} {x : Str}
    (hn : l.most = some n) (hn2 : n ≤ sizeLine) (hdf : d.params.defaults = []) (room : Room k callerA) (hY : ∀ (w : World) (h : Heap), YP w h → (K w.params).In h)
    (F : ∀ (w : World) (mg : Str → Option Value) (fa : Addr) (h : Heap), (K w.params).In h → h.Ns mainGlobals mg → mg d.name = some (.ref fa) →
      ∃ fd : FuncData, (∀ (s : Shared) (u : Value), BindsTo s fd ⟨[u], []⟩ [(x, u)]) ∧ ∀ base : Heap, (K w.params).In base → base.Ns mainGlobals mg → FnG l.prog w (K w.params) mg base CX0 k fa fd [x] (sp (K w.params)))
    (want : ∀ (K : PySem.W.Frag) (H : Hp) (a : Addr) (ns : List Int), ns.length ≤ n → Only H → SqL K H a (ns.map V.int) → sp K [.ref a] H (fun v _ => v = .bl true) (fun _ _ _ => False)) :
    PySem.W.WalkO q loose XP YP l.row.toRowW d [] (fun f vs => PySem.call f vs) := by
  refine Att.attach_call hn hdf (fun w s₀ st mg mb fa o pm cd doc a vs ns G Y ho hd hcd hmg hobj hints hlen hg => ?_)
  have KX := hY w _ Y
  obtain ⟨fd, bnd, ok⟩ := F w mg fa _ KX G.T.g hmg
  exact law_callG KX G.T.g G.T.b G.T.builtins G.T.nolimit hg hobj hints (Nat.le_trans hlen hn2) room ok bnd (fun H only hs => want (K w.params) H a ns hlen only hs)
end VL

/-! # Rules that ask for no type: one a construct; the reading says which of its forms it is -/
namespace VL
open PySem PySem.Spec PyProof.Rows L2
section
variable {X : Cx}
/-! ### operators -/
def rStrCat : R2 := fun x y H Q => ∃ a b, x = .str a ∧ y = .str b ∧ a.length + b.length ≤ sizeLine ∧ Q (.str (a ++ b)) H
def rIntAdd : R2 := rI0 fun i j => .int (i + j)
def rAddU (K : PySem.W.Frag) : R2 := fun x y H Q => rIntAdd x y H Q ∨ rStrCat x y H Q ∨ rCat x y H Q ∨ rCatA K x y H Q
theorem op_addU : OpR X (binaryOp .Add) (rAddU X.K) := OpR.or op_add (OpR.or op_add_str (OpR.or op_cat op_catA))
def rStrMul : R2 := fun x y H Q => ∃ (a : Str) (n : Int), x = .str a ∧ y = .int n ∧ 0 ≤ n ∧ n ≤ 1000 ∧ a.length ≤ 1000 ∧ Q (.str (Txt.mul a n)) H
theorem op_strMul : OpR X (binaryOp .Mult) rStrMul := by
  intro pins s σ H x y v u Q I rx ry h
  obtain ⟨a, n, rfl, rfl, h0, h1, h2, q⟩ := h
  obtain ⟨t, rfl⟩ := rx
  obtain ⟨t', rfl⟩ := ry
  have e1 : ¬ n < -(2 ^ 63 : Int) := by omega
  have e2 : ¬ n ≥ (2 ^ 63 : Int) := by omega
  refine SB.mul ⟨by rw [decide_eq_false e1, decide_eq_false e2]; rfl, fun hn _ hh => ?_, fun hn _ => ?_⟩ fun t' k => ⟨.str (Txt.mul a n), H, I.tok k, ⟨t', rfl⟩, q⟩
  · have hd : (1000 : Int) ≤ (2 ^ 63 - 1) / n := (Int.le_ediv_iff_mul_le (by omega)).mpr (by omega)
    omega
  · have hm : a.length * n.toNat ≤ 1000 * 1000 := Nat.mul_le_mul h2 (by omega)
    have hs : sizeLine = 16777216 := sizeLine_eq
    show decide (_ > sizeLine) = false
    exact decide_eq_false (by omega)
def rIntMul : R2 := rI CMul fun i j => .int (i * j)
def rMulU : R2 := fun x y H Q => rIntMul x y H Q ∨ rStrMul x y H Q ∨ rRep x y H Q
theorem op_mulU : OpR X (binaryOp .Mult) rMulU := OpR.or op_mul (OpR.or op_strMul op_rep)
/-- == and != : plain values, or data -/
def rEqU (K : PySem.W.Frag) : R2 := fun x y H Q => rEq x y H Q ∨ rEqD K x y H Q
def rNeU (K : PySem.W.Frag) : R2 := fun x y H Q => rNe x y H Q ∨ rNeD K x y H Q
theorem op_eqU (hu : X.A.units + 64 < cLine) : OpR X (compareOp .Eq) (rEqU X.K) := OpR.or op_eq (op_eqD hu)
theorem op_neU (hu : X.A.units + 64 < cLine) : OpR X (compareOp .NotEq) (rNeU X.K) := OpR.or op_ne (op_neD hu)
/-- an order: of whole numbers, or of texts -/
def rOrd (p : Int → Int → Bool) (q : Str → Str → Bool) : R2 := fun x y H Q => (∃ i j, x = .int i ∧ y = .int j ∧ Q (.bl (p i j)) H) ∨ ∃ a b, x = .str a ∧ y = .str b ∧ Q (.bl (q a b)) H
abbrev sLt (a b : Str) : Bool := decide (a.cps.toList < b.cps.toList)
theorem op_ltU : OpR X (compareOp .Lt) (rOrd (fun i j => decide (i < j)) sLt) := OpR.or op_lt op_lt_str
theorem op_leU : OpR X (compareOp .LtE) (rOrd (fun i j => decide (i ≤ j)) fun a b => !sLt b a) := OpR.or op_le op_le_str
theorem op_gtU : OpR X (compareOp .Gt) (rOrd (fun i j => decide (j < i)) fun a b => sLt b a) := OpR.or op_gt op_gt_str
theorem op_geU : OpR X (compareOp .GtE) (rOrd (fun i j => decide (j ≤ i)) fun a b => !sLt a b) := OpR.or op_ge op_ge_str
/-- is, is not: with True or False on the right, whatever plain value on the left -/
def notRef : V → Bool
  | .ref _ => false
  | .ty _ => false
  | _ => true
def rIsU : R2 := fun x y H Q => ∃ b : Bool, y = .bl b ∧ notRef x = true ∧ Q (.bl (decide (x = .bl b))) H
def rIsntU : R2 := fun x y H Q => ∃ b : Bool, y = .bl b ∧ notRef x = true ∧ Q (.bl (!decide (x = .bl b))) H
theorem op_isnotU : OpR X (compareOp .IsNot) rIsntU := by
  intro pins s σ H x y v u Q I rx ry h
  obtain ⟨b, rfl, nr, q⟩ := h
  cases (show u = Value.bool b from ry)
  cases x with
  | bl a =>
    cases (show v = Value.bool a from rx)
    by_cases e : a = b
    · subst e
      exact wpAny_isNot_self rfl ⟨.bl false, H, I, rfl, by simpa using q⟩
    · exact wpAny_isNot_other rfl (fun z => e (Value.bool.inj z)) ⟨.bl true, H, I, rfl, by simpa [e] using q⟩
  | non =>
    cases (show v = Value.none from rx)
    exact wpAny_isNot_other rfl (fun z => by cases z) ⟨.bl true, H, I, rfl, by simpa using q⟩
  | int i =>
    obtain ⟨t, rfl⟩ := rx
    exact wpAny_isNot_other rfl (fun z => by cases z) ⟨.bl true, H, I, rfl, by simpa using q⟩
  | str i =>
    obtain ⟨t, rfl⟩ := rx
    exact wpAny_isNot_other rfl (fun z => by cases z) ⟨.bl true, H, I, rfl, by simpa using q⟩
  | byt i =>
    obtain ⟨t, rfl⟩ := rx
    exact wpAny_isNot_other rfl (fun z => by cases z) ⟨.bl true, H, I, rfl, by simpa using q⟩
  | flt i =>
    obtain ⟨t, rfl⟩ := rx
    exact wpAny_isNot_other rfl (fun z => by cases z) ⟨.bl true, H, I, rfl, by simpa using q⟩
  | ref a => cases nr
  | ty n => cases nr
/-- membership: a flat thing in a list or tuple, a key in a dict, a text in a text -/
def rInU (K : PySem.W.Frag) (neg : Bool) : R2 := fun x y H Q => rIn K neg x y H Q ∨ (∃ a o, y = .ref a ∧ DGet H a x o ∧ Q (.bl (if neg then !o.isSome else o.isSome)) H)
theorem op_dctIn (hu : X.A.units + 1 < cLine) : OpR X (compareOp .In) (fun x y H Q => ∃ a o, y = .ref a ∧ DGet H a x o ∧ Q (.bl (if false then !o.isSome else o.isSome)) H) := by
  intro pins s σ H x y v u Q I rx ry h
  obtain ⟨a, o, rfl, g, q⟩ := h
  cases (show u = Value.ref a from ry)
  exact d_in hu I g rx fun s3 I3 => ⟨.bl o.isSome, H, I3, rfl, q⟩
theorem op_inU (hu : X.A.units + 1 < cLine) : OpR X (compareOp .In) (rInU X.K false) := OpR.or op_in_seq (op_dctIn hu)
/-! ### subscripts -/
def rIxU (K : PySem.W.Frag) : R2 := fun x y H Q => rIxL K x y H Q ∨ rIxT K x y H Q ∨ rIxS x y H Q ∨ (∃ a v, x = .ref a ∧ DGet H a y (some v) ∧ Q v H)
theorem ix_dct (hu : X.A.units + 1 < cLine) : IxR X (fun x y H Q => ∃ a v, x = .ref a ∧ DGet H a y (some v) ∧ Q v H) := by
  intro value slice pins s σ H x y v u Q I rx ry h hs
  obtain ⟨a, z, rfl, g, q⟩ := h
  cases (show v = Value.ref a from rx)
  have run : wpAny (model X.prog X.w) X.A (subscripted slice false (.ref a) u) (fun r s3 => wpAny (model X.prog X.w) X.A (letTemporaryGo value (.ref a) r >>= fun _ => pure r) (EP X pins σ Q) X.xe s3) X.xe s := by
    rw [hs]
    exact wpAny_operating (d_getItem hu I g ry (fun w' s3 I3 rw' => wpAny_bind (wpAny_letTemporaryGo (wpAny_pure ⟨z, H, I3, rw', q⟩))))
  have ty := dict_typeIs I g
  unfold subscriptTail
  refine wpAny_bind ?_
  rw [getitemInPython_of_ne ty.not_modules]
  refine wpAny_bind (wpAny_specialOf ty PySem.F.slot_dict_getitem.lookup ?_)
  first
    | exact wpAny_pure (wpAny_bind run)
    | exact wpAny_bind (wpAny_pure (wpAny_bind run))
    | exact wpAny_bind run
theorem ix_U (hu : X.A.units + 1 < cLine) : IxR X (rIxU X.K) := IxR.or ix_list (IxR.or ix_tup (IxR.or ix_str (ix_dct hu)))
def rSlU (K : PySem.W.Frag) : V → Option Int → Option Int → Hp → VK → Prop := fun x lo hi H Q => rSlL K x lo hi H Q ∨ rSlA K x lo hi H Q ∨ rSlS x lo hi H Q
theorem sl_U : SlR X (rSlU X.K) := SlR.or sl_list (SlR.or sl_tupA sl_str)
def rGetL (K : PySem.W.Frag) : V → V → Hp → VK → Prop := fun x y H Q => ∃ p xs i v, x = .ref p ∧ y = .int i ∧ SqL K H p xs ∧ 0 ≤ i ∧ xs[i.toNat]? = some v ∧ Q v H
theorem get_U (hu : X.A.units + 1 < cLine) : PGet X (rGetL X.K) := by
  intro pins s σ H x y v u Q I rx ry h
  obtain ⟨p, xs, i, z, rfl, rfl, hq, h0, he, q⟩ := h
  cases (show v = Value.ref p from rx)
  obtain ⟨t, rfl⟩ := (show ∃ t, u = Value.int i t from ry)
  obtain ⟨its, r, pl, hz⟩ := I.list hq
  obtain ⟨w, ew, rw'⟩ := r.get he
  have hlt : i.toNat < xs.length := (List.getElem?_eq_some_iff.mp he).1
  have hs : sizeLine = 16777216 := sizeLine_eq
  exact wpAny_getItem_list pl.isList h0 (by omega) (by simpa using ew) ⟨z, H, I, rw', q⟩
/-! ### calls -/
def rLenU (K : PySem.W.Frag) : List V → Hp → VK → Prop := fun xs H Q => (∃ p ys, xs = [.ref p] ∧ (SqL K H p ys ∨ SqT K H p ys) ∧ Q (.int ys.length) H) ∨ (∃ z, xs = [.str z] ∧ z.length ≤ sizeLine ∧ Q (.int z.length) H) ∨ ∃ a kvs, xs = [V.ref a] ∧ H a = some (.dK kvs) ∧ Q (.int kvs.length) H
theorem call_lenU : CallR X (.builtin "len") (rLenU X.K) := CallR.or call_len_seq (CallR.or call_len_str call_lenD)
def rIntU : List V → Hp → VK → Prop := fun xs H Q => (∃ i, xs = [.int i] ∧ Q (.int i) H) ∨ ∃ k, xs = [.bl k] ∧ Q (.int (if k then 1 else 0)) H
theorem call_intU : CallR X (.type "int") rIntU := call_int1
/-- not x, by a test -/
theorem pe_c0 {k j : Nat} {x : Str} {sp : Sp} {dvs : List V} {p pos : Pos} (c : C8.Cal X.prog X.w X.K X.mg X.base k x sp dvs) (hr : Room j X.A) (hk : k ≤ j) (hg : Gl X x) (hdb : (x == ("__debug__" : Str)) = false := by decide) : PE X (.Call (.Name x p) [] [] pos) (tCall sp dvs E0 tNil) := by
  obtain ⟨f, fd, ps, ds, F, hm, kp, b, d⟩ := c.ex
  exact pe_call0 F (hr.mono hk) hg hm kp b d pass0 hdb
end
/-! ### the same with the written part by name (within a comprehension's block the context is another one) -/
section
variable {X : Cx} {K : PySem.W.Frag}
theorem op_addk (h : X.K = K := by rfl) : OpR X (binaryOp .Add) (rAddU K) := by subst h; exact op_addU
theorem op_eqk (hu : X.A.units + 64 < cLine) (h : X.K = K := by rfl) : OpR X (compareOp .Eq) (rEqU K) := by subst h; exact op_eqU hu
theorem op_nek (hu : X.A.units + 64 < cLine) (h : X.K = K := by rfl) : OpR X (compareOp .NotEq) (rNeU K) := by subst h; exact op_neU hu
theorem op_ink (hu : X.A.units + 1 < cLine) (h : X.K = K := by rfl) : OpR X (compareOp .In) (rInU K false) := by subst h; exact op_inU hu
theorem ix_k (hu : X.A.units + 1 < cLine) (h : X.K = K := by rfl) : IxR X (rIxU K) := by subst h; exact ix_U hu
theorem sl_k (h : X.K = K := by rfl) : SlR X (rSlU K) := by subst h; exact sl_U
theorem call_lenk (h : X.K = K := by rfl) : CallR X (.builtin "len") (rLenU K) := by subst h; exact call_lenU
theorem call_isik (h : X.K = K := by rfl) : CallR X (.builtin "isinstance") (rIsi K) := by subst h; exact call_isi
theorem call_isiTk (h : X.K = K := by rfl) : CallR X (.builtin "isinstance") (rIsiT K) := by subst h; exact call_isiT
theorem cr_allk (hc : X.calm = true) (h : X.K = K := by rfl) : CallR X (.builtin "all") (rAll K) := by subst h; exact cr_all hc
theorem cr_anyk (hc : X.calm = true) (h : X.K = K := by rfl) : CallR X (.builtin "any") (rAny K) := by subst h; exact cr_any hc
theorem cr_sumk (hc : X.calm = true) (h : X.K = K := by rfl) : CallR X (.builtin "sum") (rSum K) := by subst h; exact cr_sum hc
theorem call_reprk (hG : X.A.guards = some []) (hu : X.A.units + 64 < cLine) (h : X.K = K := by rfl) : CallR X (.builtin "repr") (rRepr K) := by subst h; exact call_repr hG hu
variable {tg a b e l o : Expr} {rest es : List Expr} {pos p apos tpos : Pos} {ta tb te tl to : TE} {t : TA}
theorem pi_listk (hl : PE X l tl) (h : X.K = K := by rfl) : PI X tg l (iList K tl) := by subst h; exact pi_list hl
theorem pi_tupk (hl : PE X l tl) (h : X.K = K := by rfl) : PI X tg l (iTup K tl) := by subst h; exact pi_tup hl
theorem pi_enumk {elts : List Expr} {kk : Nat} (hg : Gl X "enumerate") (hm : X.mg "enumerate" = none) (ha : PA X [e] t) (h : X.K = K := by rfl) (hs : starEach [e] X.env = [(false, eval e X.env)] := by rfl) : PI X (.Tuple elts kk tpos) (.Call (.Name "enumerate" p) [e] [] pos) (iEnum K t) := by subst h; exact pi_enum hg hm ha hs
theorem pi_zipk {e2 : Expr} {elts : List Expr} {kk : Nat} (hg : Gl X "zip") (hm : X.mg "zip" = none) (ha : PA X [e, e2] t) (h : X.K = K := by rfl) (hs : starEach [e, e2] X.env = (false, eval e X.env) :: starEach [e2] X.env := by rfl) (hpl : (backTo pos (starEach [e2] X.env)).any (·.1) = false := by rfl) :
    PI X (.Tuple elts kk tpos) (.Call (.Name "zip" p) [e, e2] [] pos) (iZip K t) := by subst h; exact pi_zip hg hm ha hs hpl
theorem pg_tupk {k n : Nat} {ts : TGs} (hc : X.calm = true) (hp : PGs X es ts) (h : X.K = K := by rfl) (hn : (assignEach es X.env).length = n := by rfl) (hst : (assignEach es X.env).findIdx? (·.1) = none := by rfl) : PG X (.Tuple es k pos) (gTup K n ts) := by subst h; exact pg_tup hc hp hn hst
theorem pe_andTk (ha : PE X a ta) (hb : PE X (.BoolOp .And (b :: rest) pos) tb) (h : X.K = K := by rfl) : PE X (.BoolOp .And (a :: b :: rest) pos) (tAndT K ta tb) := by subst h; exact pe_andT ha hb
theorem pe_orTk (ha : PE X a ta) (hb : PE X (.BoolOp .Or (b :: rest) pos) tb) (h : X.K = K := by rfl) : PE X (.BoolOp .Or (a :: b :: rest) pos) (tOrT K ta tb) := by subst h; exact pe_orT ha hb
def tTr (K : PySem.W.Frag) (ta : TE) : TT := fun σ H Q => ta σ H fun x H' => ∃ k, TruV K x H' k ∧ Q k H'
theorem pt_trk (ha : PE X a ta) (he : ∀ whole, isTrue a X.env whole = (do let v ← whole; standAt a.pos; holding [v] (truthy v))) (h : X.K = K := by rfl) : PT X a (tTr K ta) := by subst h; exact pt_truth ha he
/-- not x as a value, x by a test -/
def tNotB (t : TT) : TE := fun σ H Q => t σ H fun c H1 => Q (.bl (!c)) H1
theorem pe_notTk (ha : PE X a ta) (h : X.K = K := by rfl) : PE X (.UnaryOp .Not a pos) (tNotT K ta) := by subst h; exact pe_notT ha
theorem pe_revLk {k : Nat} {p1 p2 p3 : Pos} (he : PE X e te) (h : X.K = K := by rfl) : PE X (.Subscript e (.Slice none none (some (.UnaryOp .USub (.Constant (.int 1) k p1) p2)) p3) pos) (tRevL K te) := by subst h; exact pe_revL he
def rJoin (K : PySem.W.Frag) : V → List V → Hp → VK → Prop := fun x xs H Q => ∃ a p, ∃ ys : List Str, x = .str a ∧ xs = [.ref p] ∧ (SqL K H p (ys.map V.str) ∨ SqT K H p (ys.map V.str)) ∧ (ys.map (·.length)).sum + ys.length * a.length ≤ 16777216 ∧ Q (.str (Txt.join a ys)) H
theorem pe_joink (ho : PE X o to) (he : PE X e te) (h : X.K = K := by rfl) (hs : starEach [e] X.env = [(false, eval e X.env)] := by rfl) (hbase : attributeBase o "join" X.env (eval o X.env) = eval o X.env := by rfl) (hline : (apos.endLine == pos.line) = true := by rfl) : PE X (.Call (.Attribute o "join" apos) [e] [] pos) (tM1 (rJoin K) to te) := by subst h; exact pe_join ho he hs hbase hline
theorem pe_bmk {T id : String} {name : Str} {cpos : Pos} {r : V → List V → Hp → VK → Prop} (pa : PlainAttrs T) (slot : Slot T name id) (hty : typeOf (.builtin id) = pure (.type "method_descriptor")) (hm : MtR X id r) (ho : PE X o to) (ha : PA X (e :: es) t) (h : X.K = K := by rfl)
    (hbase : attributeBase o name X.env (eval o X.env) = eval o X.env := by rfl)
    (hfew : ((backTo cpos (starEach (e :: es) X.env)).all (fun x => !x.1) && (backToKw cpos (keywordEach [] X.env)).all (fun x => x.1.isSome) && decide ((e :: es).length + ([] : List Keyword).length + (if ([] : List Keyword).isEmpty then 0 else 1) < 30)) = true := by rfl)
    (hline : (apos.endLine == cpos.line) = true := by rfl) (hs : starEach (e :: es) X.env = (false, eval e X.env) :: starEach es X.env := by rfl) (hplain : (backTo cpos (starEach es X.env)).any (·.1) = false := by rfl) : PE X (.Call (.Attribute o name apos) (e :: es) [] cpos) (tBM K T r to t) := by subst h; exact pe_bm pa slot hty hm ho ha hbase hfew hline hs hplain
theorem pe_bm0k {T id : String} {name : Str} {cpos : Pos} {r : V → List V → Hp → VK → Prop} (pa : PlainAttrs T) (slot : Slot T name id) (hty : typeOf (.builtin id) = pure (.type "method_descriptor")) (hm : MtR X id r) (ho : PE X o to) (h : X.K = K := by rfl)
    (hbase : attributeBase o name X.env (eval o X.env) = eval o X.env := by rfl) (hline : (apos.endLine == cpos.line) = true := by rfl) : PE X (.Call (.Attribute o name apos) [] [] cpos) (tBM0 K T r to) := by subst h; exact pe_bm0 pa slot hty hm ho hbase hline
theorem call_listk (h : X.K = K := by rfl) : CallR X (.type "list") (fun xs H Q => ∃ p ys, xs = [.ref p] ∧ (SqL K H p ys ∨ SqT K H p ys) ∧ ∀ l, H l = none → Q (.ref l) (upd H l (.lst ys))) := by subst h; exact call_list_of
theorem call_tupk (h : X.K = K := by rfl) : CallR X (.type "tuple") (fun xs H Q => ∃ p ys, xs = [.ref p] ∧ ((SqL K H p ys ∧ ∀ l, H l = none → Q (.ref l) (upd H l (.tup ys))) ∨ (SqT K H p ys ∧ Q (.ref p) H))) := by subst h; exact call_tuple_of
end
/-! ### the heap's frame -/
/-- all that was tracked stands, but what S names -/
def Keeps (S : Addr → Prop) (H H' : Hp) : Prop := ∀ a o, ¬ S a → H a = some o → H' a = some o
theorem Keeps.refl {S : Addr → Prop} {H : Hp} : Keeps S H H := fun _ _ _ h => h
theorem Keeps.trans {S : Addr → Prop} {H H1 H2 : Hp} (a : Keeps S H H1) (b : Keeps S H1 H2) : Keeps S H H2 := fun c o n h => b c o n (a c o n h)
theorem Keeps.mono {S T : Addr → Prop} {H H' : Hp} (k : Keeps S H H') (h : ∀ a, S a → T a) : Keeps T H H' := fun c o n q => k c o (fun z => n (h c z)) q
theorem Keeps.of {S : Addr → Prop} {H H' : Hp} (k : Same H H') : Keeps S H H' := fun c o _ q => k c o q
theorem Keeps.new {S : Addr → Prop} {H : Hp} {p : Addr} {o : HO} (h : H p = none) : Keeps S H (upd H p o) := fun c u _ q => by rw [upd_ne (ne_of_none q h)]; exact q
theorem Keeps.put {S : Addr → Prop} {H : Hp} {p : Addr} {o : HO} (h : S p) : Keeps S H (upd H p o) := fun c u n q => by
  have ne : c ≠ p := fun e => n (by rw [e]; exact h)
  rw [upd_ne ne]
  exact q
theorem same_new {H : Hp} {p : Addr} {o : HO} (h : H p = none) : Same H (upd H p o) := fun c u q => by rw [upd_ne (ne_of_none q h)]; exact q
theorem Keeps.seqL {S : Addr → Prop} {K : PySem.W.Frag} {H H' : Hp} {a : Addr} {xs : List V} (k : Keeps S H H') (n : ¬ S a) (h : SqL K H a xs) : SqL K H' a xs := by
  rcases h with (h | ⟨o, h⟩) | h
  · exact .inl (.inl (k _ _ n h))
  · exact .inl (.inr ⟨o, k _ _ n h⟩)
  · exact .inr h
theorem Keeps.seqT {S : Addr → Prop} {K : PySem.W.Frag} {H H' : Hp} {a : Addr} {xs : List V} (k : Keeps S H H') (n : ¬ S a) (h : SqT K H a xs) : SqT K H' a xs := by
  rcases h with (h | ⟨o, h⟩) | h
  · exact .inl (.inl (k _ _ n h))
  · exact .inl (.inr ⟨o, k _ _ n h⟩)
  · exact .inr h
theorem Keeps.updN {S : Addr → Prop} {H G : Hp} {p : Addr} {o : HO} (k : Keeps S H G) (h : H p = none) : Keeps S H (upd G p o) := fun c u n q => by
  rw [upd_ne (ne_of_none q h)]
  exact k c u n q
theorem Keeps.updS {S : Addr → Prop} {H G : Hp} {p : Addr} {o : HO} (k : Keeps S H G) (h : S p) : Keeps S H (upd G p o) := k.trans (Keeps.put h)
theorem Keeps.free {S : Addr → Prop} {H G : Hp} {p : Addr} (k : Keeps S H G) (n : ¬ S p) (h : G p = none) : H p = none := by
  cases q : H p with
  | none => rfl
  | some o => exact absurd ((k p o n q).symm.trans h) (by simp)
/-! ### comprehensions: the list at D grows by what R says; Iv stands throughout -/
def LcP (D : Addr) (R : Nat → V → Prop) (Iv : Hp → Prop) (i : Nat) (G : Hp) : Prop := ∃ acc : List V, acc.length = i ∧ (∀ k y, acc[k]? = some y → R k y) ∧ G D = some (.lst acc) ∧ Iv G
def LcQ (D : Addr) (R : Nat → V → Prop) (Iv : Hp → Prop) (i : Nat) : VK := fun y G => ∃ acc : List V, G D = some (.lst acc) ∧ acc.length < sizeLine ∧ LcP D R Iv (i + 1) (upd G D (.lst (acc ++ [y])))
theorem LcQ.mk {D : Addr} {R : Nat → V → Prop} {Iv : Hp → Prop} {i : Nat} {y : V} {G : Hp} {acc : List V} (l : acc.length = i) (r : ∀ k y, acc[k]? = some y → R k y) (h : G D = some (.lst acc)) (z : i < sizeLine) (ry : R i y) (iv : Iv (upd G D (.lst (acc ++ [y])))) : LcQ D R Iv i y G := by
  refine ⟨acc, h, l ▸ z, acc ++ [y], by rw [List.length_append, l]; rfl, fun k x hk => ?_, upd_same, iv⟩
  by_cases lt : k < acc.length
  · rw [List.getElem?_append_left lt] at hk
    exact r k x hk
  · rw [List.getElem?_append_right (Nat.le_of_not_lt lt)] at hk
    have e : k - acc.length = 0 := by
      by_cases z : k - acc.length = 0
      · exact z
      · rw [List.getElem?_eq_none (by simp; omega)] at hk
        cases hk
    rw [e] at hk
    cases hk
    have e2 : k = i := by omega
    rw [e2]
    exact ry
theorem wipe1 {σ : L2.St} {j : Nat} {x : V} : wipe ((wipe σ [j]).set j (some x)) [j] = wipe σ [j] := by
  show (((σ.set j none).set j (some x)).set j none) = σ.set j none
  rw [List.set_set, List.set_set]
section
variable {te : TE} {σ : L2.St} {j n : Nat} {H1 : Hp} {D : Addr} {Qd : Hp → Prop}
/-- over a range -/
theorem lcR {lo : Int} (R : Nat → V → Prop) (Iv : Hp → Prop) (h0 : Iv (upd H1 D (.lst []))) (hs : ∀ i G, i < n → LcP D R Iv i G → te ((wipe σ [j]).set j (some (.int (lo + i)))) G (LcQ D R Iv i))
    (hd : ∀ G, LcP D R Iv n G → Qd G) : ∃ W : Nat → Nat → Hp → Prop, (∃ m, W 0 m (upd H1 D (.lst []))) ∧ ∀ i m H, W i m H →
      ((Itr lo n).stop i H ∧ Qd H) ∨ ((Itr lo n).go i H ∧ ∃ Nx : Hp → Prop, (∀ H', Nx H' → ∃ m', m' < m ∧ W (i + 1) m' H') ∧ ∀ x H', (Itr lo n).yld i H x H' → gName j x (wipe σ [j]) H' fun σ2 H2 => wipe σ2 [j] = wipe σ [j] ∧ tYes σ2 H2 fun b H3 =>
        if b = true then te σ2 H3 fun y H4 => ∃ acc, H4 D = some (.lst acc) ∧ acc.length < sizeLine ∧ Nx (upd H4 D (.lst (acc ++ [y]))) else Nx H3) :=
  lc_range (lo := lo) (n := n) (fun i G => LcP D R Iv i G) ⟨[], rfl, fun k y h => by simp at h, upd_same, h0⟩ (fun i G hi p => ⟨wipe1, iteT (B := LcP D R Iv (i + 1) G) (hs i G hi p)⟩) hd
/-- over a list that stands -/
theorem lcL {K : PySem.W.Frag} {a : Addr} {xs : List V} (R : Nat → V → Prop) (Iv : Hp → Prop) (h0 : Iv (upd H1 D (.lst []))) (hl : ∀ G, Iv G → SqL K G a xs) (hs : ∀ i x G, xs[i]? = some x → LcP D R Iv i G → te ((wipe σ [j]).set j (some x)) G (LcQ D R Iv i))
    (hd : ∀ G, LcP D R Iv xs.length G → Qd G) : ∃ W : Nat → Nat → Hp → Prop, (∃ m, W 0 m (upd H1 D (.lst []))) ∧ ∀ i m H, W i m H →
      ((Itl K a).stop i H ∧ Qd H) ∨ ((Itl K a).go i H ∧ ∃ Nx : Hp → Prop, (∀ H', Nx H' → ∃ m', m' < m ∧ W (i + 1) m' H') ∧ ∀ x H', (Itl K a).yld i H x H' → gName j x (wipe σ [j]) H' fun σ2 H2 => wipe σ2 [j] = wipe σ [j] ∧ tYes σ2 H2 fun b H3 =>
        if b = true then te σ2 H3 fun y H4 => ∃ acc, H4 D = some (.lst acc) ∧ acc.length < sizeLine ∧ Nx (upd H4 D (.lst (acc ++ [y]))) else Nx H3) :=
  lc_list (K := K) (a := a) (xs := xs) (fun i G => LcP D R Iv i G) ⟨[], rfl, fun k y h => by simp at h, upd_same, h0⟩ (fun i G _ p => hl G p.choose_spec.2.2.2) (fun i x G hx p => ⟨wipe1, iteT (B := LcP D R Iv (i + 1) G) (hs i x G hx p)⟩) hd
/-- over a text's signs -/
theorem lcS {z : Str} (R : Nat → V → Prop) (Iv : Hp → Prop) (h0 : Iv (upd H1 D (.lst []))) (hs : ∀ i c G, z.cps[i]? = some c → LcP D R Iv i G → te ((wipe σ [j]).set j (some (.str ⟨#[c]⟩))) G (LcQ D R Iv i))
    (hd : ∀ G, LcP D R Iv z.cps.size G → Qd G) : ∃ W : Nat → Nat → Hp → Prop, (∃ m, W 0 m (upd H1 D (.lst []))) ∧ ∀ i m H, W i m H →
      ((Its z).stop i H ∧ Qd H) ∨ ((Its z).go i H ∧ ∃ Nx : Hp → Prop, (∀ H', Nx H' → ∃ m', m' < m ∧ W (i + 1) m' H') ∧ ∀ x H', (Its z).yld i H x H' → gName j x (wipe σ [j]) H' fun σ2 H2 => wipe σ2 [j] = wipe σ [j] ∧ tYes σ2 H2 fun b H3 =>
        if b = true then te σ2 H3 fun y H4 => ∃ acc, H4 D = some (.lst acc) ∧ acc.length < sizeLine ∧ Nx (upd H4 D (.lst (acc ++ [y]))) else Nx H3) :=
  lc_it walk_str (fun i G => LcP D R Iv i G) ⟨[], rfl, fun k y h => by simp at h, upd_same, h0⟩ (fun _ _ _ _ => trivial) (fun i x G G' hi p y => by
    obtain ⟨rfl, c, hc, rfl⟩ := y
    exact ⟨wipe1, iteT (B := LcP D R Iv (i + 1) G') (hs i c G' hc p)⟩) hd
end
theorem LcP.get {D : Addr} {R : Nat → V → Prop} {Iv : Hp → Prop} {i : Nat} {G : Hp} (p : LcP D R Iv i G) : ∃ acc : List V, acc.length = i ∧ (∀ k y, acc[k]? = some y → R k y) ∧ G D = some (.lst acc) ∧ Iv G := p
/-- items told one by one are a list of texts -/
theorem strs_of {R : Str → Prop} : ∀ {acc : List V}, (∀ (k : Nat) y, acc[k]? = some y → ∃ z : Str, y = .str z ∧ R z) → ∃ ss : List Str, acc = ss.map V.str ∧ ss.length = acc.length ∧ ∀ z ∈ ss, R z
  | [], _ => ⟨[], rfl, rfl, fun z h => by cases h⟩
  | x :: acc, h => by
    obtain ⟨ss, e, l, r⟩ := strs_of (acc := acc) fun k y hk => h (k + 1) y (by simpa using hk)
    obtain ⟨z, rfl, rz⟩ := h 0 x rfl
    refine ⟨z :: ss, by rw [e]; rfl, congrArg Nat.succ l, fun y hy => ?_⟩
    rcases List.mem_cons.mp hy with e | hy
    · rw [e]; exact rz
    · exact r y hy
/-- from here on the heap is any one of which F holds -/
theorem absH {P : Hp → Prop} {H : Hp} (F : Hp → Prop) (h : F H) (k : ∀ G, F G → P G) : P H := k H h
/-- .. and the slots are these -/
theorem absS {P : L2.St → Hp → Prop} {σ : L2.St} {H : Hp} (τ : L2.St) (F : Hp → Prop) (h : F H) (k : ∀ G, F G → P τ G) (e : σ = τ := by rfl) : P σ H := by subst e; exact k H h
/-- the same behind an assignment to a name -/
theorem setS {i : Nat} {v : V} {σ : L2.St} {H : Hp} {D : L2.St → Hp → Prop} (τ : L2.St) (F : Hp → Prop) (h : F H) (k : ∀ G, F G → D τ G) (e : σ.set i (some v) = τ := by rfl) : gName i v σ H D := by
  show D (σ.set i (some v)) H
  rw [e]
  exact k H h
/-- the same ahead of what is left of an argument list -/
theorem absT {t : TA} {σ : L2.St} {H : Hp} {Q : List V → Hp → Prop} (F : Hp → Prop) (h : F H) (k : ∀ G, F G → t σ G Q) : t σ H Q := k H h
/-- an expression has a value and leaves the heap -/
def ValE (te : TE) (σ : L2.St) (H : Hp) (v : V) : Prop := ∀ Q : VK, Q v H → te σ H Q
theorem asgV {te : TE} {g : TG} {D : Ends} {σ : L2.St} {H : Hp} {v : V} (hv : ValE te σ H v) (h : g v σ H D.nx) : tAsg te g D σ H := hv _ h
/-- .. or new things beside -/
def ValN (te : TE) (σ : L2.St) (H : Hp) (R : V → Hp → Prop) : Prop := ∀ Q : VK, (∀ v G, R v G → Q v G) → te σ H Q
theorem asgN {te : TE} {g : TG} {D : Ends} {σ : L2.St} {H : Hp} {R : V → Hp → Prop} (hv : ValN te σ H R) (h : ∀ v G, R v G → g v σ G D.nx) : tAsg te g D σ H := hv _ h
theorem asgVs {te : TE} {i : Nat} {D : Ends} {σ : L2.St} {H : Hp} {v : V} (hv : ValE te σ H v) (h : D.nx (σ.set i (some v)) H) : tAsg te (gName i) D σ H := hv _ h
theorem asgNs {te : TE} {i : Nat} {D : Ends} {σ : L2.St} {H : Hp} {R : V → Hp → Prop} (hv : ValN te σ H R) (h : ∀ v G, R v G → D.nx (σ.set i (some v)) G) : tAsg te (gName i) D σ H := hv _ h
theorem consV {ta : TE} {tr : TA} {σ : L2.St} {H : Hp} {Q : List V → Hp → Prop} {v : V} (hv : ValE ta σ H v) (h : tr σ H fun xs H2 => Q (v :: xs) H2) : tCons ta tr σ H Q := hv _ h
end VL

/-! # Data that may be compared and shown: how long its text is, and how it stays -/
namespace VL
open PySem PySem.Spec PyProof.Rows L2
mutual
/-- an upper bound of the text's length -/
def szb : PyData → Nat
  | .none => 4
  | .bool _ => 5
  | .int _ => 1925
  | .str x => 10 * x.length + 2
  | .list xs => szbAll xs + 3
  | .tuple xs => szbAll xs + 3
  | .dict kvs => szbKv kvs + 3
def szbAll : List PyData → Nat
  | [] => 0
  | x :: xs => szb x + 2 + szbAll xs
def szbKv : List (PyData × PyData) → Nat
  | [] => 0
  | (k, v) :: r => szb k + szb v + 4 + szbKv r
end
mutual
/-- whole numbers that may be shown, texts of real signs -/
def tame : PyData → Bool
  | .none => true
  | .bool _ => true
  | .int i => decide (i.natAbs.log2 < 1920)
  | .str x => PyData.strOk x
  | .list xs => tameAll xs
  | .tuple xs => tameAll xs
  | .dict kvs => tameKv kvs
def tameAll : List PyData → Bool
  | [] => true
  | x :: xs => tame x && tameAll xs
def tameKv : List (PyData × PyData) → Bool
  | [] => true
  | (k, v) :: r => tame k && tame v && tameKv r
end
theorem and3 {a b c : Bool} (h : (a && b && c) = true) : a = true ∧ b = true ∧ c = true := by
  cases a <;> cases b <;> cases c <;> simp_all
theorem and2 {a b : Bool} (h : (a && b) = true) : a = true ∧ b = true := by
  cases a <;> cases b <;> simp_all
mutual
theorem tame_showable : ∀ d : PyData, tame d = true → d.showable = true
  | .none, _ => rfl
  | .bool _, _ => rfl
  | .int _, h => h
  | .str _, _ => rfl
  | .list xs, h => tameAll_showable xs h
  | .tuple xs, h => tameAll_showable xs h
  | .dict kvs, h => tameKv_showable kvs h
theorem tameAll_showable : ∀ xs : List PyData, tameAll xs = true → PyData.showableAll xs = true
  | [], _ => rfl
  | x :: xs, h => by
    obtain ⟨h1, h2⟩ := and2 (show (tame x && tameAll xs) = true from h)
    show (x.showable && PyData.showableAll xs) = true
    rw [tame_showable x h1, tameAll_showable xs h2]
    rfl
theorem tameKv_showable : ∀ kvs : List (PyData × PyData), tameKv kvs = true → PyData.showableKv kvs = true
  | [], _ => rfl
  | (k, v) :: r, h => by
    obtain ⟨h1, h2, h3⟩ := and3 (show (tame k && tame v && tameKv r) = true from h)
    show (k.showable && v.showable && PyData.showableKv r) = true
    rw [tame_showable k h1, tame_showable v h2, tameKv_showable r h3]
    rfl
end
theorem str_repr_len {x : Str} (h : PyData.strOk x = true) : (reprText x).length ≤ 10 * x.length + 2 := by
  refine PySem.StrLaws.reprText_len x (fun c hc => ?_)
  have q : x.cps.all (· < 0x110000) = true := h
  rw [← Array.all_toList, List.all_eq_true] at q
  have z : c < 0x110000 := of_decide_eq_true (q c hc)
  exact Nat.lt_trans z (by decide)
mutual
theorem shown_len : ∀ d : PyData, tame d = true → d.shown.length ≤ szb d
  | .none, _ => by decide
  | .bool true, _ => by decide
  | .bool false, _ => by decide
  | .int i, h => by
    have q := int_text_length_le (a := i) (k := 1920) (by decide) (of_decide_eq_true h)
    show (Str.ofString (toString i)).length ≤ 1925
    rw [PySem.ofString_length]
    omega
  | .str x, h => str_repr_len h
  | .list xs, h => by
    have q := shownAll_len xs h
    have z := listText_len_le (PyData.shownAll xs)
    show (listText (PyData.shownAll xs)).length ≤ szbAll xs + 3
    omega
  | .tuple xs, h => by
    have q := shownAll_len xs h
    have z := tupleText_len_le (PyData.shownAll xs)
    show (tupleText (PyData.shownAll xs)).length ≤ szbAll xs + 3
    omega
  | .dict kvs, h => by
    have q := shownKv_len kvs h
    have z := dictText_len_le (PyData.shownKv kvs)
    show (dictText (PyData.shownKv kvs)).length ≤ szbKv kvs + 3
    omega
theorem shownAll_len : ∀ xs : List PyData, tameAll xs = true → ((PyData.shownAll xs).map (·.length)).sum + 2 * (PyData.shownAll xs).length ≤ szbAll xs
  | [], _ => by decide
  | x :: xs, h => by
    obtain ⟨h1, h2⟩ := and2 (show (tame x && tameAll xs) = true from h)
    have q1 := shown_len x h1
    have q2 := shownAll_len xs h2
    show (x.shown.length + ((PyData.shownAll xs).map (·.length)).sum) + 2 * ((PyData.shownAll xs).length + 1) ≤ szb x + 2 + szbAll xs
    omega
theorem shownKv_len : ∀ kvs : List (PyData × PyData), tameKv kvs = true → ((PyData.shownKv kvs).map (·.length)).sum + 2 * (PyData.shownKv kvs).length ≤ szbKv kvs
  | [], _ => by decide
  | (k, v) :: r, h => by
    obtain ⟨h1, h2, h3⟩ := and3 (show (tame k && tame v && tameKv r) = true from h)
    have q1 := shown_len k h1
    have q2 := shown_len v h2
    have q3 := shownKv_len r h3
    have e : (k.shown ++ (": " : Str) ++ v.shown).length = k.shown.length + 2 + v.shown.length := by
      rw [strLen_append, strLen_append]
      rfl
    show ((k.shown ++ (": " : Str) ++ v.shown).length + ((PyData.shownKv r).map (·.length)).sum) + 2 * ((PyData.shownKv r).length + 1) ≤ szb k + szb v + 4 + szbKv r
    omega
end
mutual
theorem tame_canLay : ∀ d : PyData, tame d = true → d.hasDict = false → d.canLay0 = true
  | .none, _, _ => rfl
  | .bool _, _, _ => rfl
  | .int _, _, _ => rfl
  | .str _, h, _ => h
  | .list xs, h, k => tameAll_canLay xs h k
  | .tuple xs, h, k => tameAll_canLay xs h k
  | .dict kvs, _, k => by cases k
theorem tameAll_canLay : ∀ xs : List PyData, tameAll xs = true → PyData.hasDictAll xs = false → PyData.canLayAll0 xs = true
  | [], _, _ => rfl
  | x :: xs, h, k => by
    obtain ⟨h1, h2⟩ := and2 (show (tame x && tameAll xs) = true from h)
    have k' : (x.hasDict || PyData.hasDictAll xs) = false := k
    rw [Bool.or_eq_false_iff] at k'
    show (x.canLay0 && PyData.canLayAll0 xs) = true
    rw [tame_canLay x h1 k'.1, tameAll_canLay xs h2 k'.2]
    rfl
end
/-! ### data stays while the heap grows -/
theorem Same.seqT {K : PySem.W.Frag} {H H' : Hp} {a : Addr} {xs : List V} (e : Same H H') (h : SqT K H a xs) : SqT K H' a xs := by
  rcases h with (h | ⟨o, h⟩) | h
  · exact .inl (.inl (e _ _ h))
  · exact .inl (.inr ⟨o, e _ _ h⟩)
  · exact .inr h
section
variable {K : PySem.W.Frag} {H H' : Hp}
mutual
theorem dp_mono (e : Same H H') : ∀ (d : PyData) (v : V), Dp K H v d → Dp K H' v d
  | .none, _, h => by cases h; exact .non
  | .bool b, _, h => by cases h; exact .bl b
  | .int i, _, h => by cases h; exact .int i
  | .str x, _, h => by cases h; exact .str x
  | .list ds, _, h => by
    cases h with
    | lst hs ha => exact .lst (e.seq hs) (dpAll_mono e ds _ ha)
  | .tuple ds, _, h => by
    cases h with
    | tup hs ha => exact .tup (Same.seqT e hs) (dpAll_mono e ds _ ha)
  | .dict _, _, h => by cases h
theorem dpAll_mono (e : Same H H') : ∀ (ds : List PyData) (vs : List V), DpAll K H vs ds → DpAll K H' vs ds
  | [], _, h => by cases h; exact .nil
  | d :: ds, _, h => by
    cases h with
    | cons h1 h2 => exact .cons (dp_mono e d _ h1) (dpAll_mono e ds _ h2)
end
theorem Dr.mono (e : Same H H') {v : V} {d : PyData} (h : Dr K H v d) : Dr K H' v d := by
  cases h with
  | dp q n => exact .dp (dp_mono e _ _ q) n
  | dct h q z => exact .dct (e _ _ h) (dpAll_mono e _ _ q) z
end
/-- the heap without one object (the bag) -/
def hid (b : Addr) (H : Hp) : Hp := fun a => if a = b then none else H a
theorem hid_ne {b a : Addr} {H : Hp} (h : a ≠ b) : hid b H a = H a := if_neg h
theorem hid_same {b : Addr} {H : Hp} : Same (hid b H) H := fun a o h => by
  by_cases e : a = b
  · rw [show hid b H a = none from if_pos e] at h
    cases h
  · rwa [hid_ne e] at h
theorem hid_keeps {b : Addr} {H G : Hp} (k : Keeps (fun a => a = b) H G) : Same (hid b H) (hid b G) := fun a o h => by
  by_cases e : a = b
  · rw [show hid b H a = none from if_pos e] at h
    cases h
  · rw [hid_ne e] at h ⊢
    exact k a o e h
theorem hid_at {b a : Addr} {H : Hp} {o : HO} (h : H a = some o) (e : a ≠ b) : hid b H a = some o := by rw [hid_ne e]; exact h
/-! ### lists of texts as data -/
theorem dpAll_strs {K : PySem.W.Frag} {H : Hp} : ∀ ss : List Str, DpAll K H (ss.map V.str) (ss.map PyData.str)
  | [] => .nil
  | s :: ss => .cons (.str s) (dpAll_strs ss)
theorem canLay_strs : ∀ {ss : List Str}, (∀ z ∈ ss, PyData.strOk z = true) → PyData.canLayAll0 (ss.map PyData.str) = true
  | [], _ => rfl
  | s :: ss, h => by
    show (PyData.strOk s && PyData.canLayAll0 (ss.map PyData.str)) = true
    rw [h s List.mem_cons_self, canLay_strs fun z hz => h z (List.mem_cons_of_mem _ hz)]
    rfl
theorem depth_strs : ∀ ss : List Str, PyData.depthAll (ss.map PyData.str) = 0
  | [] => rfl
  | s :: ss => by
    show max 0 (PyData.depthAll (ss.map PyData.str)) = 0
    rw [depth_strs ss]
    rfl
theorem shaped_strs {ss : List Str} (h : ∀ z ∈ ss, PyData.strOk z = true) : SeqAt.shaped (.list (ss.map PyData.str)) = true := by
  show (PyData.canLayAll0 (ss.map PyData.str) && decide (PyData.depthAll (ss.map PyData.str) + 1 ≤ 64)) = true
  rw [canLay_strs h, depth_strs]
  rfl
/-- what G tracks and H did not -/
def fr (H G : Hp) : Hp := fun a => if H a = none then G a else none
theorem fr_at {H G : Hp} {a : Addr} {o : HO} (h : G a = some o) (n : H a = none) : fr H G a = some o := (if_pos n).trans h
theorem fr_inv {H G : Hp} {a : Addr} {o : HO} (h : fr H G a = some o) : H a = none ∧ G a = some o := by
  by_cases n : H a = none
  · exact ⟨n, (if_pos n).symm.trans h⟩
  · have z : fr H G a = none := if_neg n
    rw [z] at h
    cases h
theorem fr_same {H G : Hp} : Same (fr H G) G := fun _ _ h => (fr_inv h).2
theorem fr_keeps {S : Addr → Prop} {H G G' : Hp} (k : Keeps S G G') (hS : ∀ a, S a → H a ≠ none) : Same (fr H G) (fr H G') := fun a o h => by
  obtain ⟨n, g⟩ := fr_inv h
  exact fr_at (k a o (fun z => hS a z n) g) n
theorem fr_new {H G : Hp} {p : Addr} {o : HO} (n : G p = none) : Same (fr H G) (fr H (upd G p o)) := fr_keeps (S := fun _ => False) (Keeps.new n) fun _ z => z.elim
/-- what H1 did not track, H2 did not -/
theorem fr_up {H1 H2 G : Hp} (t : ∀ a, H1 a = none → H2 a = none) : Same (fr H1 G) (fr H2 G) := fun a o h => by
  obtain ⟨n, g⟩ := fr_inv h
  exact fr_at g (t a n)
end VL

namespace K12
open PySem PySem.Spec PyProof.Rows L2 VL
def topS (i : Nat) : Stmt := PySem.Challenge.pw_landedback_k12_kinds_known.main.body.getD i (.Pass ⟨0, 0, 0, 0⟩)
abbrev s_is_integer : Stmt := topS 2
abbrev s_is_number : Stmt := topS 3
abbrev s_is_name : Stmt := topS 4
abbrev s_law_bag : Stmt := topS 6
abbrev s_law_take : Stmt := topS 7
abbrev s_law_alike : Stmt := topS 8
abbrev s_law_labels : Stmt := topS 9
abbrev s_law_odd : Stmt := topS 10
abbrev s_law_own : Stmt := topS 11
abbrev s_law : Stmt := topS 12
theorem sc_is_integer : FnScope ["thing"] ["thing"] (defScope s_is_integer) :=
  ⟨rfl, rfl, rfl, by decide +kernel, rfl, by decide +kernel, by decide +kernel⟩
theorem sc_is_number : FnScope ["many", "thing"] ["many", "thing"] (defScope s_is_number) :=
  ⟨rfl, rfl, rfl, by decide +kernel, rfl, by decide +kernel, by decide +kernel⟩
theorem sc_is_name : FnScope ["thing"] ["thing"] (defScope s_is_name) :=
  ⟨rfl, rfl, rfl, by decide +kernel, rfl, by decide +kernel, by decide +kernel⟩
theorem sc_law_bag : FnScope ["_law_script", "_law_cell"] ["_law_script"] (defScope s_law_bag) :=
  ⟨rfl, rfl, rfl, by decide +kernel, rfl, by decide +kernel, by decide +kernel⟩
theorem sc_law_take : FnScope ["_law_bag_here", "_law_many", "_law_cell", "_law_more", "_law_drawn", "_law_first", "_law_second"] ["_law_bag_here", "_law_many"] (defScope s_law_take) :=
  ⟨rfl, rfl, rfl, by decide +kernel, rfl, by decide +kernel, by decide +kernel⟩
theorem sc_law_alike : FnScope ["_law_found", "_law_due"] ["_law_found", "_law_due"] (defScope s_law_alike) :=
  ⟨rfl, rfl, rfl, by decide +kernel, rfl, by decide +kernel, by decide +kernel⟩
theorem sc_law_labels : FnScope ["_law_bag_here", "_law_many", "_law_letters", "_law_menu", "_law_way", "_law_turn", "_law_stem", "_law_at", "_law_far", "_law_some", "_law_k"] ["_law_bag_here", "_law_many"] (defScope s_law_labels) :=
  ⟨rfl, rfl, rfl, by decide +kernel, rfl, by decide +kernel, by decide +kernel⟩
theorem sc_law_odd : FnScope ["_law_bag_here", "_law_label", "_law_at", "_law_sign", "_law_some"] ["_law_bag_here", "_law_label"] (defScope s_law_odd) :=
  ⟨rfl, rfl, rfl, by decide +kernel, rfl, by decide +kernel, by decide +kernel⟩
theorem sc_law_own : FnScope ["_law_thing", "_law_many", "_law_whole", "_law_spelt", "_law_sign"] ["_law_thing", "_law_many"] (defScope s_law_own) :=
  ⟨rfl, rfl, rfl, by decide +kernel, rfl, by decide +kernel, by decide +kernel⟩
theorem sc_law : FnScope ["_law_script", "_law_bag_here", "_law_labels_here", "_law_rows", "_law_thing", "_law_many", "_law_shown", "_law_found", "_law_k"] ["_law_script"] (defScope s_law) :=
  ⟨rfl, rfl, rfl, by decide +kernel, rfl, by decide +kernel, by decide +kernel⟩
/-! ### the bag: draws -/
/-- the bag at b: what is left of a great number, the state, the number of the next cell, the cells -/
def Bag (H : Hp) (b cl : Addr) : Prop := ∃ (c st n : Int) (ns : List Int), H b = some (.lst [.int c, .int st, .int n, .ref cl]) ∧ H cl = some (.lst (ns.map V.int)) ∧ cl ≠ b ∧ 0 ≤ n ∧ ns.length ≤ 63
/-- take(bag, many): a number below many; the bag alone is changed -/
def spTake : Sp := fun vs H Q _ => ∃ (b cl : Addr) (m : Int), vs = [.ref b, .int m] ∧ Bag H b cl ∧ 0 < m ∧ m < 2 ^ 60 ∧
  ∀ (r : Int) (H' : Hp), 0 ≤ r → r < m → Bag H' b cl → (∀ a, a ≠ b → H' a = H a) → Q (.int r) H'
/-- bag(script): a new bag, all else as it was -/
def spBag (K : PySem.W.Frag) : Sp := fun vs H Q _ => ∃ (a : Addr) (ns : List Int), vs = [.ref a] ∧ SqL K H a (ns.map V.int) ∧ ns.length ≤ 63 ∧
  ∀ (b cl : Addr) (H' : Hp), Bag H' b cl → Same H H' → Q (.ref b) H'
section
variable {P : Program} {w : World} {K : PySem.W.Frag} {mg : Str → Option Value} {base : Heap}
theorem ok_take {f : Addr} {fd : FuncData} (F : Fun K "_law_take" "_law_take" s_law_take f fd) (m_len : mg "len" = none) (m_int : mg "int" = none) : FnOk P w K mg base CX0 1 f fd ["_law_bag_here", "_law_many"] spTake := by
  refine F.ok sc_law_take (fun vs H Q E h => ?_) (fun cdv A outer s H vs Q E hr h => ?_)
  · obtain ⟨b, cl, m, rfl, _⟩ := h
    rfl
  obtain ⟨b, cl, m, rfl, ⟨c, st, n, ns, hb, hc, ne, h0, h63⟩, hm0, hm1, q⟩ := h
  have hu := hu_of hr
  have hu64 := hr.units
  refine ⟨_, (C8.pss_cut (ps_if (pt_cmpR (op_eqk (K := K) hu64) (pe_ix (ix_k (K := K) hu) (pv 0) pe_int (fun _ _ => rfl)) pe_int (nomark _)) (pss_cons (ps_set (i := 2) sc_law_take.nd rfl (.inl rfl) pe_int) (C8.pss_cut (ps_if (pt_cmpR op_ltU (pe_ix (ix_k (K := K) hu) (pv 0) pe_int (fun _ _ => rfl)) (pe_callB (call_lenk (K := K)) (by rfl) m_len PySem.boot_len (pa_cons (pe_ix (ix_k (K := K) hu) (pv 0) pe_int (fun _ _ => rfl)) pa_nil)) (nomark _)) (pss_one (ps_set (i := 2) sc_law_take.nd rfl (.inl rfl) (pe_ix (ix_k (K := K) hu) (pe_ix (ix_k (K := K) hu) (pv 0) pe_int (fun _ _ => rfl)) (pe_ix (ix_k (K := K) hu) (pv 0) pe_int (fun _ _ => rfl)) (fun _ _ => rfl)))) pss_nil) (pss_cons (ps_augS (pv 0) pe_int (get_U hu) pe_int ip_add set_list) (C8.pss_cut (ps_if (pt_cmpR op_geU (pv 2) pe_int (nomark _)) (pss_one (ps_asg (pv 2) (pg_sub (pv 0) pe_int set_list))) pss_nil) (pss_cons (ps_set (i := 3) sc_law_take.nd rfl (.inl rfl) (pe_op (op_addk (K := K)) (pe_op op_mod (pe_callTy call_intU (by rfl) m_int (by decide +kernel) (pa_cons (pv 2) pa_nil)) pe_int) (pe_op op_mulU pe_int (pe_ix (ix_k (K := K) hu) (pv 0) pe_int (fun _ _ => rfl))))) (pss_one (ps_asg (pe_op op_mod (pe_callTy call_intU (by rfl) m_int (by decide +kernel) (pa_cons (pe_op (op_addk (K := K)) (pe_op op_mulU (pe_ix (ix_k (K := K) hu) (pv 0) pe_int (fun _ _ => rfl)) pe_int) (pv 3)) pa_nil)) pe_int) (pg_sub (pv 0) pe_int set_list)))))))) pss_nil) (pss_cons (ps_if (pt_cmpR op_gtU (pe_ix (ix_k (K := K) hu) (pv 0) pe_int (fun _ _ => rfl)) pe_int (nomark _)) (pss_cons (ps_set (i := 4) sc_law_take.nd rfl (.inl rfl) (pe_op op_mod (pe_callTy call_intU (by rfl) m_int (by decide +kernel) (pa_cons (pe_ix (ix_k (K := K) hu) (pv 0) pe_int (fun _ _ => rfl)) pa_nil)) (pv 1))) (pss_cons (ps_asg (pe_op op_fdivW (pe_ix (ix_k (K := K) hu) (pv 0) pe_int (fun _ _ => rfl)) (pv 1)) (pg_sub (pv 0) pe_int set_list)) (pss_one (ps_ret (pv 4))))) pss_nil) (pss_cons (ps_set (i := 5) sc_law_take.nd rfl (.inl rfl) (pe_op op_mod (pe_callTy call_intU (by rfl) m_int (by decide +kernel) (pa_cons (pe_op op_mulU (pe_op (op_addk (K := K)) (pe_ix (ix_k (K := K) hu) (pv 0) pe_int (fun _ _ => rfl)) pe_int) pe_int) pa_nil)) pe_int)) (pss_cons (ps_set (i := 6) sc_law_take.nd rfl (.inl rfl) (pe_op op_mod (pe_callTy call_intU (by rfl) m_int (by decide +kernel) (pa_cons (pe_op op_mulU (pe_op op_mod (pe_callTy call_intU (by rfl) m_int (by decide +kernel) (pa_cons (pe_op op_mulU (pv 5) (pv 5)) pa_nil)) pe_int) pe_int) pa_nil)) pe_int)) (pss_cons (ps_if (pt_cmpR op_gtU (pv 1) pe_int (nomark _)) (pss_one (ps_ret (pe_op op_mod (pe_callTy call_intU (by rfl) m_int (by decide +kernel) (pa_cons (pe_op (op_addk (K := K)) (pe_op op_mulU (pv 6) pe_int) (pv 5)) pa_nil)) (pv 1)))) pss_nil) (pss_one (ps_ret (pe_op op_mod (pe_callTy call_intU (by rfl) m_int (by decide +kernel) (pa_cons (pe_op op_fdivW (pv 6) pe_int) pa_nil)) (pv 1))))))))), ?_⟩
  refine ⟨fun σ H1 => ∃ (c st n : Int) (cell more : Option V), σ = [some (.ref b), some (.int m), cell, more, none, none, none] ∧ H1 b = some (.lst [.int c, .int st, .int n, .ref cl]) ∧ H1 cl = some (.lst (ns.map V.int)) ∧ 0 ≤ n ∧ (∀ a, a ≠ b → H1 a = H a), ?_, ?_⟩
  · -- a new cell is read, if nothing is left
    refine ⟨_, rfl, Or.inl ⟨_, _, _, _, rfl, rfl, SqL.of hb, rfl, Or.inl ⟨rfl, _, rfl, ?_⟩⟩⟩
    refine ite2 (fun _ => ?_) (fun _ => ?_)
    · refine ⟨fun σ H1 => H1 = H ∧ ∃ v : Int, σ = [some (.ref b), some (.int m), some (.int v), none, none, none, none], ?_, ?_⟩
      · refine ⟨_, rfl, Or.inl ⟨_, _, _, _, rfl, rfl, SqL.of hb, rfl, _, rfl, Or.inl ⟨_, _, _, _, rfl, rfl, SqL.of hb, rfl, Or.inl ⟨_, _, rfl, Or.inl (SqL.of hc), Or.inl ⟨_, _, rfl, rfl, _, rfl, ?_⟩⟩⟩⟩⟩
        refine ite2 (fun lt => ?_) (fun _ => ⟨rfl, 0, rfl⟩)
        have lt' : n < ((ns.map V.int).length : Int) := of_decide_eq_true lt
        rw [List.length_map] at lt'
        have at_ : atI (ns.map V.int) n = some (.int (ns[n.toNat]'(by omega))) := by
          have z := atI_nat (xs := ns.map V.int) (j := n.toNat) (v := .int (ns[n.toNat]'(by omega))) (by rw [List.getElem?_map, List.getElem?_eq_getElem (by omega)]; rfl)
          rwa [Int.toNat_of_nonneg h0] at z
        refine ⟨_, rfl, Or.inl ⟨_, _, _, _, rfl, rfl, SqL.of hb, rfl, _, rfl, Or.inl ⟨_, _, _, _, rfl, rfl, SqL.of hb, rfl, Or.inl ⟨_, _, _, _, rfl, rfl, SqL.of hc, at_, ?_⟩⟩⟩⟩
        exact ⟨rfl, _, rfl⟩
      · rintro σ H1 ⟨rfl, v, rfl⟩
        refine ⟨_, rfl, _, _, _, _, rfl, rfl, SqL.of hb, by decide, rfl, _, _, rfl, rfl, _, _, _, _, rfl, rfl, hb, rfl, ?_⟩
        have hb1 : (upd H1 b (.lst [.int c, .int st, .int (n + 1), .ref cl])) b = _ := upd_same
        have hc1 : (upd H1 b (.lst [.int c, .int st, .int (n + 1), .ref cl])) cl = _ := (upd_ne ne).trans hc
        refine ⟨fun σ H2 => ∃ c' : Int, σ = [some (.ref b), some (.int m), some (.int v), none, none, none, none] ∧ H2 = upd H1 b (.lst [.int c', .int st, .int (n + 1), .ref cl]), ?_, ?_⟩
        · refine ⟨_, rfl, Or.inl ⟨_, _, rfl, rfl, _, rfl, ?_⟩⟩
          refine ite2 (fun _ => ?_) (fun _ => ⟨c, rfl, rfl⟩)
          refine ⟨_, rfl, _, rfl, _, _, _, _, rfl, rfl, hb1, rfl, v, rfl, ?_⟩
          exact upd_upd
        · rintro σ H2 ⟨c', rfl, rfl⟩
          have hb2 : (upd H1 b (.lst [.int c', .int st, .int (n + 1), .ref cl])) b = _ := upd_same
          have hc2 : (upd H1 b (.lst [.int c', .int st, .int (n + 1), .ref cl])) cl = _ := (upd_ne ne).trans hc
          refine ⟨_, rfl, Or.inl ⟨_, rfl, _, _, rfl, rfl, (by show (0 : Int) < _; decide), _, rfl, Or.inl ⟨_, _, _, _, rfl, rfl, SqL.of hb2, rfl, Or.inl ⟨_, _, rfl, rfl, Or.inl (by decide), Or.inl ⟨_, _, rfl, rfl, ?_⟩⟩⟩⟩⟩
          refine ⟨_, rfl, Or.inl ⟨_, _, _, _, rfl, rfl, SqL.of hb2, rfl, Or.inl ⟨_, _, rfl, rfl, Or.inr (by decide), _, rfl, Or.inl ⟨_, _, rfl, rfl, Or.inl ⟨_, rfl, _, _, rfl, rfl, (by show (0 : Int) < _; decide), _, rfl, _, _, _, _, rfl, rfl, hb2, rfl, ?_⟩⟩⟩⟩⟩
          refine ⟨c', _, n + 1, _, _, rfl, upd_same, (upd_ne ne).trans hc2, by omega, fun a ha => ?_⟩
          rw [upd_ne ha, upd_ne ha]
    · exact ⟨c, st, n, none, none, rfl, hb, hc, h0, fun _ _ => rfl⟩
  · -- the draw
    rintro σ H1 ⟨c, st, n, cell, more, rfl, hb, hc, h0, hH⟩
    refine ⟨_, rfl, Or.inl ⟨_, _, _, _, rfl, rfl, SqL.of hb, rfl, Or.inl ⟨_, _, rfl, rfl, _, rfl, ?_⟩⟩⟩
    refine ite2 (fun _ => ?_) (fun _ => ?_)
    · refine ⟨_, rfl, Or.inl ⟨_, _, _, _, rfl, rfl, SqL.of hb, rfl, Or.inl ⟨_, rfl, _, rfl, _, _, rfl, rfl, hm0, ?_⟩⟩⟩
      refine ⟨_, rfl, Or.inl ⟨_, _, _, _, rfl, rfl, SqL.of hb, rfl, _, rfl, _, _, rfl, rfl, wide_div hm0 (b := 60) (by omega) (by decide) (by decide), _, rfl, _, _, _, _, rfl, rfl, hb, rfl, ?_⟩⟩
      refine ⟨_, rfl, ?_⟩
      refine q _ _ (Int.emod_nonneg _ (by omega)) (Int.emod_lt_of_pos _ hm0) ⟨c / m, st, n, ns, upd_same, (upd_ne ne).trans hc, ne, h0, h63⟩ (fun a ha => ?_)
      rw [upd_ne ha]
      exact hH a ha
    · have fin : ∀ r : Int, 0 ≤ r → r < m → Q (.int r) H1 := fun r r0 r1 => q r H1 r0 r1 ⟨c, st, n, ns, hb, hc, ne, h0, h63⟩ hH
      refine ⟨_, rfl, Or.inl ⟨_, _, _, _, rfl, rfl, SqL.of hb, rfl, Or.inl ⟨_, _, rfl, rfl, Or.inl ⟨_, _, rfl, rfl, Or.inr (by decide), Or.inl ⟨_, rfl, _, _, rfl, rfl, (by show (0 : Int) < _; decide), ?_⟩⟩⟩⟩⟩
      have f0 : 0 ≤ (st + 1) * 39373 % 1000000007 := Int.emod_nonneg _ (by decide)
      have f1 : (st + 1) * 39373 % 1000000007 < 1000000007 := Int.emod_lt_of_pos _ (by decide)
      refine ⟨_, rfl, _, rfl, Or.inl ⟨_, _, rfl, rfl, Or.inl ⟨by omega, by omega⟩, Or.inl ⟨_, rfl, _, _, rfl, rfl, (by show (0 : Int) < _; decide), Or.inl ⟨_, _, rfl, rfl, Or.inr (by decide), Or.inl ⟨_, rfl, _, _, rfl, rfl, (by show (0 : Int) < _; decide), ?_⟩⟩⟩⟩⟩
      refine ⟨_, rfl, Or.inl ⟨_, _, rfl, rfl, _, rfl, ?_⟩⟩
      refine ite2 (fun _ => ?_) (fun _ => ?_)
      · refine ⟨_, rfl, Or.inl ⟨_, _, rfl, rfl, Or.inr (by decide), _, rfl, Or.inl ⟨_, _, rfl, rfl, Or.inl ⟨_, rfl, _, rfl, _, _, rfl, rfl, hm0, ?_⟩⟩⟩⟩
        exact fin _ (Int.emod_nonneg _ (by omega)) (Int.emod_lt_of_pos _ hm0)
      · refine ⟨_, rfl, _, _, rfl, rfl, ⟨by decide, by decide⟩, Or.inl ⟨_, rfl, _, rfl, _, _, rfl, rfl, hm0, ?_⟩⟩
        exact fin _ (Int.emod_nonneg _ (by omega)) (Int.emod_lt_of_pos _ hm0)
end
theorem cut_ints (ns : List Int) (lo hi : Option Int) : ∃ ms : List Int, cutV (ns.map V.int) lo hi = ms.map V.int ∧ ms.length ≤ ns.length := by
  unfold cutV
  rw [← List.map_drop, ← List.map_take]
  exact ⟨_, rfl, by rw [List.length_take, List.length_drop]; omega⟩
section
variable {P : Program} {w : World} {K : PySem.W.Frag} {mg : Str → Option Value} {base : Heap}
theorem ok_bag {f : Addr} {fd : FuncData} (F : Fun K "_law_bag" "_law_bag" s_law_bag f fd) (m_abs : mg "abs" = none) : FnOk P w K mg base CX0 1 f fd ["_law_script"] (spBag K) := by
  refine F.ok sc_law_bag (fun vs H Q E h => ?_) (fun cdv A outer s H vs Q E hr h => ?_)
  · obtain ⟨a, ns, rfl, _⟩ := h
    rfl
  obtain ⟨a, ns, rfl, hS, h63, q⟩ := h
  refine ⟨_, (pss_one (ps_ret (pe_lst (pa_cons pe_int (pa_cons pe_int (pa_cons pe_int (pa_cons (pe_lc (own := [("_law_cell", 1)]) (g := gName 1) (tt := tYes) rfl sc_law_bag.nd (pi_listk (K := K) (pe_slice (sl_k (K := K)) (pv 0) po_none (po_some pe_int))) (blkOk_by (own := [("_law_cell", 1)]) (N := ["_law_script", "_law_cell"]) (sc := defScope s_law_bag) (by decide +kernel)) (fun _ _ _ _ _ => (pg_name (i := 1) sc_law_bag.nd rfl (.inl rfl))) (fun _ _ _ _ _ => pts_nil) (fun _ _ _ _ _ => (pe_callB call_abs (by rfl) m_abs (by decide +kernel) (pa_cons (pv 1) pa_nil)))) pa_nil))))))), ?_⟩
  obtain ⟨ms, em, lm⟩ := cut_ints ns none (some 63)
  refine ⟨_, rfl, _, rfl, Or.inl ⟨_, _, rfl, hS, fun p hp => ?_⟩⟩
  rw [em]
  refine ⟨_, rfl, ⟨_, SqL.of upd_same⟩, fun D hD => lc_list (K := K) (a := p) (xs := ms.map V.int) (fun i G => ∃ acc : List Int, acc.length = i ∧ G D = some (.lst (acc.map V.int)) ∧ G p = some (.lst (ms.map V.int)) ∧ Same H G) ?_ ?_ ?_ ?_⟩
  · have hpD : p ≠ D := ne_of_none upd_same hD
    exact ⟨[], rfl, upd_same, (upd_ne hpD).trans upd_same, (same_new hp).trans (same_new hD)⟩
  · rintro i G _ ⟨acc, _, _, hG, _⟩
    exact SqL.of hG
  · rintro i x G hx ⟨acc, la, hacc, hG, sm⟩
    have li : i < ms.length := by
      have z := (List.getElem?_eq_some_iff.mp hx).1
      rwa [List.length_map] at z
    obtain ⟨y, hy⟩ : ∃ y : Int, x = .int y := by
      rw [List.getElem?_map, List.getElem?_eq_getElem li] at hx
      exact ⟨_, (Option.some.inj hx).symm⟩
    subst hy
    refine ⟨rfl, ?_⟩
    refine ⟨_, rfl, _, rfl, acc.map V.int, hacc, by rw [List.length_map]; exact small1000 (by omega), ?_⟩
    refine ⟨acc ++ [if y < 0 then -y else y], by rw [List.length_append, la]; rfl, ?_, ?_, ?_⟩
    · rw [upd_same, List.map_append]
      rfl
    · by_cases e : p = D
      · exfalso
        have hpD : p ≠ D := ne_of_none upd_same hD
        exact hpD e
      · exact (upd_ne e).trans hG
    · intro c o hc
      have nD : c ≠ D := ne_of_none (o := o) (by rw [upd_ne (ne_of_none hc hp)]; exact hc) hD
      rw [upd_ne nD]
      exact sm c o hc
  · rintro G ⟨acc, la, hacc, hG, sm⟩
    rw [List.length_map] at la
    refine ⟨(by show 4 ≤ sizeLine; decide), fun b hb => ?_⟩
    have ne : D ≠ b := ne_of_none hacc hb
    exact q b D _ ⟨0, 1234567891, 0, acc, upd_same, (upd_ne ne).trans hacc, ne, by decide, by omega⟩ (sm.trans (same_new hb))
end

/-- the bag stands, and all that was tracked in H but the bag -/
def BagK (b cl : Addr) (H G : Hp) : Prop := Bag G b cl ∧ Keeps (fun a => a = b) H G
theorem Bag.tracked {H : Hp} {b cl p : Addr} (h : Bag H b cl) (n : H p = none) : p ≠ b ∧ p ≠ cl := by
  obtain ⟨c, st, n', ns, hb, hc, _⟩ := h
  exact ⟨(ne_of_none hb n).symm, (ne_of_none hc n).symm⟩
theorem Bag.upd {G : Hp} {b cl p : Addr} {o : HO} (h : Bag G b cl) (n1 : p ≠ b) (n2 : p ≠ cl) : Bag (L2.upd G p o) b cl := by
  obtain ⟨c, st, n', ns, hb, hc, r⟩ := h
  exact ⟨c, st, n', ns, (upd_ne n1.symm).trans hb, (upd_ne n2.symm).trans hc, r⟩
theorem Bag.new {G : Hp} {b cl p : Addr} {o : HO} (h : Bag G b cl) (n : G p = none) : Bag (L2.upd G p o) b cl := h.upd (h.tracked n).1 (h.tracked n).2
theorem BagK.refl {b cl : Addr} {H : Hp} (h : Bag H b cl) : BagK b cl H H := ⟨h, Keeps.refl⟩
theorem BagK.new {b cl p : Addr} {H G : Hp} {o : HO} (h : BagK b cl H G) (n : G p = none) : BagK b cl H (L2.upd G p o) := ⟨h.1.new n, h.2.trans (Keeps.new n)⟩
/-- an object that H does not know is put -/
theorem BagK.put {b cl p : Addr} {H G : Hp} {o : HO} (h : BagK b cl H G) (k : Bag H b cl) (n : H p = none) : BagK b cl H (L2.upd G p o) := ⟨h.1.upd (k.tracked n).1 (k.tracked n).2, h.2.updN n⟩
theorem BagK.take {b cl : Addr} {H G G' : Hp} (h : BagK b cl H G) (k : Bag G' b cl) (only : ∀ a, a ≠ b → G' a = G a) : BagK b cl H G' := ⟨k, h.2.trans fun a o n q => (only a n).trans q⟩
theorem BagK.trans {b cl : Addr} {H G G' : Hp} (h : BagK b cl H G) (k : BagK b cl G G') : BagK b cl H G' := ⟨k.1, h.2.trans k.2⟩
theorem BagK.at {b cl a : Addr} {H G : Hp} {o : HO} (h : BagK b cl H G) (n : a ≠ b) (q : H a = some o) : G a = some o := h.2 a o n q

/-! ### texts that stay small -/
/-- at most n signs, all of them plain -/
def Wd (n : Nat) (z : Str) : Prop := z.cps.toList.length ≤ n ∧ ∀ c ∈ z.cps.toList, c < 128
theorem str_len (z : Str) : z.length = z.cps.toList.length := by simp [Str.length]
theorem Wd.len {n : Nat} {z : Str} (h : Wd n z) : z.length ≤ n := by rw [str_len]; exact h.1
theorem Wd.mono {n m : Nat} {z : Str} (h : Wd n z) (e : n ≤ m) : Wd m z := ⟨Nat.le_trans h.1 e, h.2⟩
theorem Wd.of {l : List Nat} {n : Nat} (h : l.length ≤ n) (k : ∀ c ∈ l, c < 128) : Wd n ⟨l.toArray⟩ := ⟨by simpa using h, by simpa using k⟩
theorem Wd.sign {c : Nat} (h : c < 128) : Wd 1 ⟨#[c]⟩ := ⟨by simp, by simpa using h⟩
theorem Wd.app {n m : Nat} {a b : Str} (h : Wd n a) (k : Wd m b) : Wd (n + m) (a ++ b) := by
  have e : (a ++ b).cps.toList = a.cps.toList ++ b.cps.toList := TL.tl_append a b
  refine ⟨?_, fun c hc => ?_⟩
  · rw [e, List.length_append]
    exact Nat.add_le_add h.1 k.1
  · rw [e] at hc
    rcases List.mem_append.mp hc with z | z
    · exact h.2 c z
    · exact k.2 c z
theorem Wd.cut {n : Nat} {z : Str} (h : Wd n z) (lo hi : Option Int) : Wd n (cutS z lo hi) := by
  unfold cutS
  refine Wd.of ?_ fun c hc => h.2 c (List.mem_of_mem_drop (List.mem_of_mem_take hc))
  rw [List.length_take, List.length_drop]
  exact Nat.le_trans (Nat.le_trans (Nat.min_le_right _ _) (Nat.sub_le _ _)) h.1
theorem fold_reps (z : Array Nat) : ∀ (k : Nat) (acc : Array Nat), ((List.replicate k z).foldl (· ++ ·) acc).toList = acc.toList ++ (List.replicate k z.toList).flatten
  | 0, acc => by simp
  | k + 1, acc => by
    rw [List.replicate_succ, List.foldl_cons, fold_reps z k, List.replicate_succ, List.flatten_cons, Array.toList_append, List.append_assoc]
theorem mul_signs (z : Str) (k : Int) : (Txt.mul z k).cps.toList = (List.replicate k.toNat z.cps.toList).flatten := by
  unfold Txt.mul
  by_cases h1 : k < 1
  · rw [if_pos h1, show k.toNat = 0 by omega]
    rfl
  · rw [if_neg h1]
    by_cases h2 : (k == 1 || z.length == 0) = true
    · rw [if_pos h2]
      rcases Bool.or_eq_true _ _ ▸ h2 with h | h
      · have e : k = 1 := by simpa using h
        subst e
        simp
      · have e : z.cps.toList.length = 0 := by rw [← str_len]; simpa using h
        rw [List.length_eq_zero_iff.mp e]
        simp
    · rw [if_neg h2]
      have e := fold_reps z.cps k.toNat #[]
      simpa using e
theorem Wd.mul {n : Nat} {z : Str} (h : Wd n z) {k : Int} {m : Nat} (hk : k ≤ m) : Wd (n * m) (Txt.mul z k) := by
  refine ⟨?_, fun c hc => ?_⟩
  · rw [mul_signs, List.length_flatten, List.map_replicate, List.sum_replicate_nat]
    exact Nat.le_trans (Nat.mul_le_mul (by omega : k.toNat ≤ m) h.1) (Nat.le_of_eq (Nat.mul_comm _ _))
  · rw [mul_signs] at hc
    obtain ⟨l, hl, hc⟩ := List.mem_flatten.mp hc
    exact h.2 c ((List.mem_replicate.mp hl).2 ▸ hc)
theorem joinL_nil : ∀ ls : List (List Nat), TL.joinL [] ls = ls.flatten
  | [] => rfl
  | [p] => by simp [TL.joinL]
  | p :: q :: r => by
    show p ++ ([] ++ TL.joinL [] (q :: r)) = _
    rw [joinL_nil (q :: r)]
    simp
theorem join_signs (ys : List Str) : (Txt.join (Str.ofString "") ys).cps.toList = (ys.map fun z => z.cps.toList).flatten := by
  rw [TL.join_eq]
  have e := TL.tl_join (Str.ofString "") ys
  have n : TL.tl (Str.ofString "") = [] := rfl
  rw [n, joinL_nil] at e
  exact e
theorem sum_le {n : Nat} : ∀ {ls : List Nat}, (∀ x ∈ ls, x ≤ n) → ls.sum ≤ n * ls.length
  | [], _ => Nat.zero_le _
  | x :: ls, h => by
    have h1 := h x List.mem_cons_self
    have h2 := sum_le (ls := ls) fun y hy => h y (List.mem_cons_of_mem _ hy)
    rw [List.sum_cons, List.length_cons, Nat.mul_succ]
    omega
theorem Wd.join {n m : Nat} {ys : List Str} (h : ∀ z ∈ ys, Wd n z) (l : ys.length ≤ m) : Wd (n * m) (Txt.join (Str.ofString "") ys) := by
  refine ⟨?_, fun c hc => ?_⟩
  · rw [join_signs, List.length_flatten]
    have z := sum_le (n := n) (ls := (ys.map fun z => z.cps.toList).map List.length) (by
      intro x hx
      obtain ⟨q, hq, rfl⟩ := List.mem_map.mp hx
      obtain ⟨y, hy, rfl⟩ := List.mem_map.mp hq
      exact (h y hy).1)
    rw [List.length_map, List.length_map] at z
    exact Nat.le_trans z (Nat.mul_le_mul_left n l)
  · rw [join_signs] at hc
    obtain ⟨q, hq, hc⟩ := List.mem_flatten.mp hc
    obtain ⟨y, hy, rfl⟩ := List.mem_map.mp hq
    exact (h y hy).2 c hc
theorem join_room {n m : Nat} {ys : List Str} (h : ∀ z ∈ ys, Wd n z) (l : ys.length ≤ m) (k : n * m ≤ 1000) : (ys.map (·.length)).sum + ys.length * (Str.ofString "").length ≤ 16777216 := by
  have z := sum_le (n := n) (ls := ys.map (·.length)) (by
    intro x hx
    obtain ⟨y, hy, rfl⟩ := List.mem_map.mp hx
    exact (h y hy).len)
  rw [List.length_map] at z
  have e : (Str.ofString "").length = 0 := rfl
  have z2 := Nat.mul_le_mul_left n l
  rw [e, Nat.mul_zero]
  omega
def wdB (n : Nat) (z : Str) : Bool := decide (z.cps.toList.length ≤ n) && z.cps.toList.all (fun c => decide (c < 128))
theorem wd_of {n : Nat} {z : Str} (h : wdB n z = true) : Wd n z := by
  unfold wdB at h
  rw [Bool.and_eq_true, decide_eq_true_eq, List.all_eq_true] at h
  exact ⟨h.1, fun c hc => of_decide_eq_true (h.2 c hc)⟩

/-- labels(bag, many): a new list of small texts -/
def spLabels : Sp := fun vs H Q _ => ∃ (b cl : Addr) (m : Int), vs = [.ref b, .int m] ∧ Bag H b cl ∧ 0 ≤ m ∧ m ≤ 24 ∧
  ∀ (p : Addr) (H' : Hp) (ss : List Str), p ≠ b → BagK b cl H H' → ss.length = m.toNat → (∀ z ∈ ss, Wd 24 z) → H' p = some (.lst (ss.map V.str)) → Q (.ref p) H'
theorem letters26 : wdB 26 (Str.ofString "abcdefghijklmnopqrstuvwxyz") = true := by decide +kernel
/-- a letter by its place -/
theorem letter_at {r : Int} (h0 : 0 ≤ r) (h1 : r < 26) : ∃ c, atI (Str.ofString "abcdefghijklmnopqrstuvwxyz").cps.toList r = some c ∧ c < 128 := by
  have l : (Str.ofString "abcdefghijklmnopqrstuvwxyz").cps.toList.length = 26 := by decide +kernel
  have e := atI_nat (xs := (Str.ofString "abcdefghijklmnopqrstuvwxyz").cps.toList) (j := r.toNat) (List.getElem?_eq_getElem (by omega))
  rw [Int.toNat_of_nonneg h0] at e
  exact ⟨_, e, (wd_of letters26).2 _ (List.getElem_mem _)⟩
theorem wd_all {n : Nat} {ss : List Str} (h : ss.all (wdB n) = true) : ∀ z ∈ ss, Wd n z := fun z hz => wd_of (List.all_eq_true.mp h z hz)
theorem strs_cut (ss : List Str) (lo hi : Option Int) : ∃ ts : List Str, cutV (ss.map V.str) lo hi = ts.map V.str ∧ (∀ z ∈ ts, z ∈ ss) ∧ ts.length = (HT.sIx ss.length ss.length hi - HT.sIx ss.length 0 lo) := by
  unfold cutV
  rw [← List.map_drop, ← List.map_take, List.length_map]
  refine ⟨_, rfl, fun z hz => List.mem_of_mem_drop (List.mem_of_mem_take hz), ?_⟩
  rw [List.length_take, List.length_drop]
  have h := HT.sIx_le ss.length ss.length (Nat.le_refl _) hi
  omega
def menu1 : List Str := Txt.split (Str.ofString "a b mark jump get free take use clear call either loop move arm rest go body break") (Str.ofString " ")
def menu2 : List Str := ["within", "ended", "outer", "mine", "keep", "none"]
theorem menu_ok : (menu1 ++ menu2).all (wdB 8) = true := by decide +kernel
theorem menu_24 : (menu1 ++ menu2).length = 24 := by decide +kernel
theorem sIx_some {n d : Nat} {v : Int} (h : 0 ≤ v) : HT.sIx n d (some v) = min v.toNat n := by
  show (if v < 0 then _ else _) = _
  rw [if_neg (by omega)]
section
variable {P : Program} {w : World} {K : PySem.W.Frag} {mg : Str → Option Value} {base : Heap}
theorem ok_labels {f : Addr} {fd : FuncData} (F : Fun K "_law_labels" "_law_labels" s_law_labels f fd) (c_law_take : C8.Cal P w K mg base 1 "_law_take" spTake []) (m_len : mg "len" = none) (m_int : mg "int" = none) (m_range : mg "range" = none) :
    FnOk P w K mg base CX0 2 f fd ["_law_bag_here", "_law_many"] spLabels := by
  refine F.ok sc_law_labels (fun vs H Q E h => ?_) (fun cdv A outer s H vs Q E hr h => ?_)
  · obtain ⟨b, cl, m, rfl, _⟩ := h
    rfl
  obtain ⟨b, cl, m, rfl, bag, hm0, hm1, q⟩ := h
  have hu := hu_of hr
  have small : ∀ {n : Nat}, n ≤ 1000 → n ≤ sizeLine := fun h => Nat.le_of_lt (small1000 h)
  have hu64 := hr.units
  refine ⟨_, (pss_cons (ps_set (i := 2) sc_law_labels.nd rfl (.inr rfl) pe_str) (pss_cons (ps_set (i := 3) sc_law_labels.nd rfl (.inl rfl) (pe_split pe_str pe_str)) (pss_cons (ps_set (i := 3) sc_law_labels.nd rfl (.inl rfl) (pe_op (op_addk (K := K)) (pv 3) (pe_lst (pa_cons pe_str (pa_cons pe_str (pa_cons pe_str (pa_cons pe_str (pa_cons pe_str (pa_cons pe_str pa_nil))))))))) (pss_cons (ps_asg (pe_tup (pa_cons (C8.pe_c c_law_take hr (by decide) rfl (pa_cons (pv 0) (pa_cons pe_int pa_nil))) (pa_cons (C8.pe_c c_law_take hr (by decide) rfl (pa_cons (pv 0) (pa_cons pe_int pa_nil))) pa_nil))) (pg_tupk (K := K) (n := 2) rfl (pgs_cons (pg_name (i := 4) sc_law_labels.nd rfl (.inl rfl)) (pgs_cons (pg_name (i := 5) sc_law_labels.nd rfl (.inr rfl)) pgs_nil)))) (pss_cons (ps_set (i := 6) sc_law_labels.nd rfl (.inr rfl) (pe_joink (K := K) pe_str (pe_lc (own := [("_law_k", 10)]) (g := gName 10) (tt := tYes) rfl sc_law_labels.nd (pi_range1 rfl m_range (pa_cons (pe_op (op_addk (K := K)) pe_int (C8.pe_c c_law_take hr (by decide) rfl (pa_cons (pv 0) (pa_cons pe_int pa_nil)))) pa_nil)) (blkOk_by (own := [("_law_k", 10)]) (N := ["_law_bag_here", "_law_many", "_law_letters", "_law_menu", "_law_way", "_law_turn", "_law_stem", "_law_at", "_law_far", "_law_some", "_law_k"]) (sc := defScope s_law_labels) (by decide +kernel)) (fun _ _ _ _ _ => (pg_name (i := 10) sc_law_labels.nd rfl (.inl rfl))) (fun _ _ _ _ _ => pts_nil) (fun _ _ _ _ _ => (pe_ix (ix_k (K := K) hu) (pv 2) (C8.pe_c c_law_take hr (by decide) rfl (pa_cons (pv 0) (pa_cons pe_int pa_nil))) (fun _ _ => rfl)))))) (pss_cons (ps_asg (pe_tup (pa_cons (C8.pe_c c_law_take hr (by decide) rfl (pa_cons (pv 0) (pa_cons (pe_op (op_addk (K := K)) (pe_callB (call_lenk (K := K)) (by rfl) m_len PySem.boot_len (pa_cons (pv 6) pa_nil)) pe_int) pa_nil))) (pa_cons (pe_op op_fdivW (pv 4) pe_int) pa_nil))) (pg_tupk (K := K) (n := 2) rfl (pgs_cons (pg_name (i := 7) sc_law_labels.nd rfl (.inr rfl)) (pgs_cons (pg_name (i := 8) sc_law_labels.nd rfl (.inr rfl)) pgs_nil)))) (pss_cons (ps_if (pt_cmpR (op_eqk (K := K) hu64) (pv 4) pe_int (nomark _)) (pss_one (ps_ret (pe_slice (sl_k (K := K)) (pe_op (op_addk (K := K)) (pe_slice (sl_k (K := K)) (pv 3) (po_some (pv 5)) po_none) (pe_slice (sl_k (K := K)) (pv 3) po_none (po_some (pv 5)))) po_none (po_some (pv 1))))) pss_nil) (pss_cons (ps_set (i := 9) sc_law_labels.nd rfl (.inr rfl) (pe_lc (own := [("_law_k", 10)]) (g := gName 10) (tt := tYes) rfl sc_law_labels.nd (pi_range1 rfl m_range (pa_cons (pv 1) pa_nil)) (blkOk_by (own := [("_law_k", 10)]) (N := ["_law_bag_here", "_law_many", "_law_letters", "_law_menu", "_law_way", "_law_turn", "_law_stem", "_law_at", "_law_far", "_law_some", "_law_k"]) (sc := defScope s_law_labels) (by decide +kernel)) (fun _ _ _ _ _ => (pg_name (i := 10) sc_law_labels.nd rfl (.inl rfl))) (fun _ _ _ _ _ => pts_nil) (fun _ _ _ _ _ => (pe_op op_mulU (pe_ix (ix_k (K := K) hu) (pv 2) (pe_op op_mod (pe_callTy call_intU (by rfl) m_int (by decide +kernel) (pa_cons (pe_op (op_addk (K := K)) (pv 5) (pe_ix (ix_k (K := K) hu) (pe_lst (pa_cons (pe_op op_mulU pe_int (pv 10)) (pa_cons (pe_op op_fdivW (pv 10) pe_int) pa_nil))) (pv 8) (fun _ _ => rfl))) pa_nil)) pe_int) (fun _ _ => rfl)) (pe_op (op_addk (K := K)) pe_int (pe_op op_mulU (pe_op op_mod (pe_callTy call_intU (by rfl) m_int (by decide +kernel) (pa_cons (pv 10) pa_nil)) pe_int) (pv 8))))))) (pss_cons (ps_set (i := 6) sc_law_labels.nd rfl (.inr rfl) (pe_op op_mulU (pv 6) (pe_callTy call_intU (by rfl) m_int (by decide +kernel) (pa_cons (pe_cmpR (op_eqk (K := K) hu64) (pv 4) pe_int (nomark _)) pa_nil)))) (pss_one (ps_ret (pe_lc (own := [("_law_k", 10)]) (g := gName 10) (tt := tYes) rfl sc_law_labels.nd (pi_range1 rfl m_range (pa_cons (pv 1) pa_nil)) (blkOk_by (own := [("_law_k", 10)]) (N := ["_law_bag_here", "_law_many", "_law_letters", "_law_menu", "_law_way", "_law_turn", "_law_stem", "_law_at", "_law_far", "_law_some", "_law_k"]) (sc := defScope s_law_labels) (by decide +kernel)) (fun _ _ _ _ _ => (pg_name (i := 10) sc_law_labels.nd rfl (.inl rfl))) (fun _ _ _ _ _ => pts_nil) (fun _ _ _ _ _ => (pe_op (op_addk (K := K)) (pe_op (op_addk (K := K)) (pe_slice (sl_k (K := K)) (pv 6) po_none (po_some (pv 7))) (pe_ix (ix_k (K := K) hu) (pv 9) (pv 10) (fun _ _ => rfl))) (pe_slice (sl_k (K := K)) (pv 6) (po_some (pv 7)) po_none))))))))))))))), ?_⟩
  -- the menu
  refine ⟨⟨_, rfl⟩, _, _, rfl, rfl, by decide +kernel, by decide +kernel, fun p1 hp1 => ?_⟩
  refine ⟨_, rfl, (by show 6 ≤ sizeLine; decide), fun p2 hp2 => Or.inr (Or.inr (Or.inl ⟨_, _, _, [.str "within", .str "ended", .str "outer", .str "mine", .str "keep", .str "none"], rfl, rfl, (upd_ne (ne_of_none upd_same hp2)).trans upd_same, upd_same, by decide +kernel, fun p3 hp3 => ?_⟩))⟩
  refine absS [some (.ref b), some (.int m), some (.str "abcdefghijklmnopqrstuvwxyz"), some (.ref p3), none, none, none, none, none, none, none]
    (fun G => BagK b cl H G ∧ p3 ≠ b ∧ ∃ ms : List Str, G p3 = some (.lst (ms.map V.str)) ∧ ms.length = 24 ∧ ∀ z ∈ ms, Wd 8 z) ⟨(((BagK.refl bag).new hp1).new hp2).new hp3, ?_, menu1 ++ menu2, upd_same.trans (congrArg (fun l => some (HO.lst l)) (List.map_append (f := V.str) (l₁ := menu1) (l₂ := menu2)).symm), menu_24, wd_all menu_ok⟩ (fun G3 hG3 => ?_)
  · exact (Bag.tracked ((((BagK.refl bag).new hp1).new hp2)).1 hp3).1
  obtain ⟨k3, ne3, ms, hms, l24, w8⟩ := hG3
  -- two draws
  refine ⟨_, rfl, _, _, _, rfl, k3.1, by decide, by decide, fun way G4 w0 w1 bag4 only4 => ?_⟩
  have k4 := k3.take bag4 only4
  refine ⟨_, rfl, _, _, _, rfl, k4.1, by decide, by decide, fun turn G5 t0 t1 bag5 only5 => ?_⟩
  have k5 := k4.take bag5 only5
  have hm5 : G5 p3 = some (.lst (ms.map V.str)) := (only5 _ ne3).trans ((only4 _ ne3).trans hms)
  refine ⟨(by show 2 ≤ sizeLine; decide), fun tt htt => ?_⟩
  refine ⟨_, _, rfl, SqT.of upd_same, rfl, _, _, rfl, _, _, rfl, rfl, ?_⟩
  refine absS [some (.ref b), some (.int m), some (.str "abcdefghijklmnopqrstuvwxyz"), some (.ref p3), some (.int way), some (.int turn), none, none, none, none, none]
    (fun G => BagK b cl H G ∧ G p3 = some (.lst (ms.map V.str))) ⟨k5.new htt, (upd_ne (ne_of_none hm5 htt)).trans hm5⟩ (fun G6 hG6 => ?_)
  obtain ⟨k6, hm6⟩ := hG6
  -- the stem
  refine ⟨⟨_, rfl⟩, _, rfl, _, _, _, rfl, k6.1, by decide, by decide, fun n G7 n0 n1 bag7 only7 => Or.inl ⟨_, _, rfl, rfl, _, rfl, by omega, by omega, fun D hD => ?_⟩⟩
  have k7 := k6.take bag7 only7
  have hm7 : G7 p3 = some (.lst (ms.map V.str)) := (only7 _ ne3).trans hm6
  refine lcR (fun _ y => ∃ z : Str, y = .str z ∧ Wd 1 z) (fun G => BagK b cl G7 G) ((BagK.refl k7.1).new hD) (fun i G hi hP => ?_) (fun G hP => ?_)
  · obtain ⟨acc, la, ra, hacc, iv⟩ := hP.get
    refine ⟨_, rfl, _, rfl, _, _, _, rfl, iv.1, by decide, by decide, fun r G' r0 r1 bag' only' => ?_⟩
    obtain ⟨c, hc, c128⟩ := letter_at r0 r1
    refine Or.inr (Or.inr (Or.inl ⟨_, _, _, rfl, rfl, by decide +kernel, hc, ?_⟩))
    exact LcQ.mk la ra ((only' _ (k7.1.tracked hD).1).trans hacc) (small1000 (by omega)) ⟨_, rfl, Wd.sign c128⟩ ((iv.take bag' only').put k7.1 hD)
  obtain ⟨acc, la, ra, hacc, iv⟩ := hP.get
  obtain ⟨ss, rfl, ls, ws⟩ := strs_of ra
  rw [la] at ls
  refine ⟨_, _, ss, rfl, rfl, Or.inl (SqL.of hacc), join_room (n := 1) (m := 8) ws (by omega) (by decide), ?_⟩
  have wstem : Wd 8 (Txt.join (Str.ofString "") ss) := Wd.join (n := 1) (m := 8) ws (by omega)
  generalize Txt.join (Str.ofString "") ss = stem at wstem
  refine setS [some (.ref b), some (.int m), some (.str "abcdefghijklmnopqrstuvwxyz"), some (.ref p3), some (.int way), some (.int turn), some (.str stem), none, none, none, none]
    (fun G => BagK b cl H G ∧ G p3 = some (.lst (ms.map V.str))) ⟨k7.trans iv, iv.at ne3 hm7⟩ (fun G8 hG8 => ?_)
  obtain ⟨k8, hm8⟩ := hG8
  -- its place, and which way
  have ls8 : stem.length ≤ 8 := wstem.len
  refine ⟨_, rfl, _, rfl, Or.inr (Or.inl ⟨_, rfl, Nat.le_trans ls8 (by decide), Or.inl ⟨_, _, rfl, rfl, _, _, _, rfl, k8.1, by omega, by omega, fun at_ G9 a0 a1 bag9 only9 => ?_⟩⟩)⟩
  have k9 := k8.take bag9 only9
  have hm9 : G9 p3 = some (.lst (ms.map V.str)) := (only9 _ ne3).trans hm8
  refine ⟨_, rfl, _, _, rfl, rfl, ⟨by decide, by decide⟩, (by show 2 ≤ sizeLine; decide), fun t2 ht2 => ?_⟩
  refine ⟨_, _, rfl, SqT.of upd_same, rfl, _, _, rfl, _, _, rfl, rfl, ?_⟩
  refine absS [some (.ref b), some (.int m), some (.str "abcdefghijklmnopqrstuvwxyz"), some (.ref p3), some (.int way), some (.int turn), some (.str stem), some (.int at_), some (.int (way / 3)), none, none]
    (fun G => BagK b cl H G ∧ G p3 = some (.lst (ms.map V.str))) ⟨k9.new ht2, (upd_ne (ne_of_none hm9 ht2)).trans hm9⟩ (fun G10 hG10 => ?_)
  obtain ⟨k10, hm10⟩ := hG10
  -- way 0: the menu, turned
  refine ⟨_, rfl, Or.inl ⟨rfl, _, rfl, ?_⟩⟩
  refine ite2 (fun _ => ?_) (fun _ => ?_)
  · obtain ⟨ts1, e1, m1, l1⟩ := strs_cut ms (some turn) none
    obtain ⟨ts2, e2, m2, l2⟩ := strs_cut ms none (some turn)
    rw [HT.sIx_none, sIx_some t0] at l1 l2
    refine ⟨_, rfl, _, rfl, _, rfl, Or.inl ⟨_, _, rfl, SqL.of hm10, fun u1 hu1 => ?_⟩⟩
    rw [e1]
    refine ⟨_, rfl, _, rfl, _, rfl, Or.inl ⟨_, _, rfl, SqL.of ((upd_ne (ne_of_none hm10 hu1)).trans hm10), fun u2 hu2 => ?_⟩⟩
    rw [e2]
    refine Or.inr (Or.inr (Or.inl ⟨_, _, _, _, rfl, rfl, (upd_ne (ne_of_none upd_same hu2)).trans upd_same, upd_same, ?_, fun u3 hu3 => ?_⟩))
    · rw [List.length_map, List.length_map]
      exact small (by omega)
    rw [← List.map_append]
    obtain ⟨ts, e3, m3, l3⟩ := strs_cut (ts1 ++ ts2) none (some m)
    refine ⟨_, rfl, _, rfl, Or.inl ⟨_, _, rfl, SqL.of upd_same, fun u4 hu4 => ?_⟩⟩
    rw [e3]
    have kk := (((k10.new (o := .lst (ts1.map V.str)) hu1).new (o := .lst (ts2.map V.str)) hu2).new (o := .lst ((ts1 ++ ts2).map V.str)) hu3)
    refine q _ _ ts (kk.1.tracked hu4).1 (kk.new hu4) ?_ (fun z hz => ?_) upd_same
    · rw [l3, HT.sIx_none, sIx_some hm0, List.length_append, l1, l2, l24]
      omega
    · rcases List.mem_append.mp (m3 z hz) with h | h
      · exact (w8 z (m1 z h)).mono (by decide)
      · exact (w8 z (m2 z h)).mono (by decide)
  -- the other ways: a sign for each
  have far : way / 3 = 0 ∨ way / 3 = 1 := by omega
  generalize way / 3 = fr at *
  refine ⟨_, rfl, _, rfl, by omega, by omega, fun D hD => ?_⟩
  refine lcR (fun _ y => ∃ z : Str, y = .str z ∧ Wd 8 z) (fun G => BagK b cl G10 G) ((BagK.refl k10.1).new hD) (fun i G hi hP => ?_) (fun G hP => ?_)
  · obtain ⟨acc, la, ra, hacc, iv⟩ := hP.get
    have hDt := k10.1.tracked hD
    refine ⟨_, rfl, _, rfl, _, rfl, Or.inl ⟨_, _, rfl, rfl, Or.inl (by decide), _, rfl, _, _, rfl, rfl, ⟨by decide, by decide⟩, (by show 2 ≤ sizeLine; decide), fun e he => ?_⟩⟩
    have neD : D ≠ e := ne_of_none hacc he
    have h8 : 0 ≤ (0 + (i : Int)) % 8 ∧ (0 + (i : Int)) % 8 < 8 := ⟨Int.emod_nonneg _ (by decide), Int.emod_lt_of_pos _ (by decide)⟩
    obtain ⟨u, hu0⟩ : ∃ u : Int, atI [V.int (3 * (0 + (i : Int))), V.int ((0 + (i : Int)) / 8)] fr = some (.int u) := by
      rcases far with e0 | e1
      · exact ⟨3 * (0 + (i : Int)), by rw [e0]; rfl⟩
      · exact ⟨(0 + (i : Int)) / 8, by rw [e1]; rfl⟩
    refine ⟨_, rfl, Or.inl ⟨_, _, _, _, rfl, rfl, SqL.of upd_same, hu0, Or.inl ⟨_, _, rfl, rfl, Or.inl ⟨_, rfl, _, _, rfl, rfl, (by show (0 : Int) < _; decide), ?_⟩⟩⟩⟩
    obtain ⟨c, hc, c128⟩ := letter_at (r := (turn + u) % 26) (Int.emod_nonneg _ (by decide)) (Int.emod_lt_of_pos _ (by decide))
    refine Or.inr (Or.inr (Or.inl ⟨_, _, _, rfl, rfl, by decide +kernel, hc, ?_⟩))
    refine ⟨_, rfl, Or.inl ⟨_, rfl, _, _, rfl, rfl, (by show (0 : Int) < _; decide), _, rfl, Or.inl ⟨_, _, rfl, rfl, Or.inl ⟨by omega, by omega⟩, Or.inl ⟨_, _, rfl, rfl, ?_⟩⟩⟩⟩
    have hk : 0 ≤ 1 + (0 + (i : Int)) % 8 * fr ∧ 1 + (0 + (i : Int)) % 8 * fr ≤ 8 := by
      rcases far with e0 | e1
      · rw [e0]; omega
      · rw [e1]; omega
    refine Or.inr (Or.inl ⟨_, _, rfl, rfl, hk.1, Int.le_trans hk.2 (by decide), Nat.le_trans (Wd.sign c128).len (by decide), ?_⟩)
    exact LcQ.mk la ra ((upd_ne neD).trans hacc) (small1000 (by omega)) ⟨_, rfl, (Wd.mul (Wd.sign c128) (m := 8) hk.2).mono (by decide)⟩ ((iv.new he).put k10.1 hD)
  obtain ⟨acc, la, ra, hacc, iv⟩ := hP.get
  obtain ⟨ss, rfl, ls, ws⟩ := strs_of ra
  rw [la] at ls
  refine setS [some (.ref b), some (.int m), some (.str "abcdefghijklmnopqrstuvwxyz"), some (.ref p3), some (.int way), some (.int turn), some (.str stem), some (.int at_), some (.int fr), some (.ref D), none]
    (fun G => BagK b cl H G ∧ D ≠ b ∧ G D = some (.lst (ss.map V.str))) ⟨k10.trans iv, (k10.1.tracked hD).1, hacc⟩ (fun G11 hG11 => ?_)
  obtain ⟨k11, neD, hD11⟩ := hG11
  have l11 : ss.length = m.toNat := by rw [ls]
  -- the stem, or nothing
  refine ⟨_, rfl, _, rfl, Or.inl ⟨rfl, Or.inr ⟨_, rfl, (?key : ∀ u : Int, 0 ≤ u → u ≤ 1 → rMulU (.str stem) (.int u) G11 _) _ (by split <;> decide) (by split <;> decide)⟩⟩⟩
  intro u u0 u1
  refine Or.inr (Or.inl ⟨_, _, rfl, rfl, u0, Int.le_trans u1 (by decide), Nat.le_trans ls8 (by decide), ?_⟩)
  have wst : Wd 8 (Txt.mul stem u) := (Wd.mul wstem (m := 1) u1).mono (by decide)
  generalize Txt.mul stem u = st2 at wst
  refine setS [some (.ref b), some (.int m), some (.str "abcdefghijklmnopqrstuvwxyz"), some (.ref p3), some (.int way), some (.int turn), some (.str st2), some (.int at_), some (.int fr), some (.ref D), none]
    (fun G => G = G11) rfl (fun G12 hG12 => ?_)
  subst hG12
  refine ⟨_, rfl, _, rfl, by omega, by omega, fun D2 hD2 => ?_⟩
  refine lcR (fun _ y => ∃ z : Str, y = .str z ∧ Wd 24 z) (fun G => BagK b cl G12 G) ((BagK.refl k11.1).new hD2) (fun i G hi hP => ?_) (fun G hP => ?_)
  · obtain ⟨acc, la, ra, hacc, iv⟩ := hP.get
    have hi' : i < ss.length := by rw [l11]; exact hi
    have hz := List.getElem?_eq_getElem hi'
    have wz : Wd 8 ss[i] := ws _ (List.getElem_mem hi')
    have ati : atI (ss.map V.str) (0 + (i : Int)) = some (.str ss[i]) := by
      rw [Int.zero_add]
      exact atI_nat (by rw [List.getElem?_map, hz]; rfl)
    have z1 := wst.cut none (some at_)
    have z2 := wst.cut (some at_) none
    refine ⟨_, rfl, _, rfl, _, rfl, Or.inr (Or.inr ⟨_, rfl, Nat.le_trans wst.len (by decide), _, rfl, _, rfl, Or.inl ⟨_, _, _, _, rfl, rfl, SqL.of (iv.at neD hD11), ati, ?_⟩⟩)⟩
    refine Or.inr (Or.inl ⟨_, _, rfl, rfl, small (by have := z1.len; have := wz.len; omega), _, rfl, _, rfl, _, rfl, Or.inr (Or.inr ⟨_, rfl, Nat.le_trans wst.len (by decide), ?_⟩)⟩)
    refine Or.inr (Or.inl ⟨_, _, rfl, rfl, small (by have := (z1.app wz).len; have := z2.len; omega), ?_⟩)
    exact LcQ.mk la ra hacc (small1000 (by omega)) ⟨_, rfl, ((z1.app wz).app z2).mono (by decide)⟩ (iv.put k11.1 hD2)
  obtain ⟨acc, la, ra, hacc, iv⟩ := hP.get
  obtain ⟨ts, rfl, lt, wt⟩ := strs_of ra
  exact q _ _ ts (k11.1.tracked hD2).1 (k11.trans iv) (by rw [lt, la]) wt hacc
end

end K12

namespace K12
open PySem PySem.Spec PyProof.Rows L2 VL
/-! ### the things that are asked -/
/-- which kind of thing -/
def Kd (H : Hp) (v : V) : Prop := v = .non ∨ (∃ b, v = .bl b) ∨ (∃ i, v = .int i) ∨ (∃ z, v = .str z ∧ Wd 64 z) ∨ ∃ a, v = .ref a ∧ ((∃ xs, H a = some (.lst xs)) ∨ (∃ xs, H a = some (.tup xs)) ∨ ∃ kvs, H a = some (.dK kvs))
theorem Kd.mono {H H' : Hp} {v : V} (e : Same H H') (h : Kd H v) : Kd H' v := by
  rcases h with h | h | h | h | ⟨a, h, q⟩
  · exact .inl h
  · exact .inr (.inl h)
  · exact .inr (.inr (.inl h))
  · exact .inr (.inr (.inr (.inl h)))
  · refine .inr (.inr (.inr (.inr ⟨a, h, ?_⟩)))
    rcases q with ⟨xs, q⟩ | ⟨xs, q⟩ | ⟨xs, q⟩
    · exact .inl ⟨xs, e _ _ q⟩
    · exact .inr (.inl ⟨xs, e _ _ q⟩)
    · exact .inr (.inr ⟨xs, e _ _ q⟩)
/-- a thing: it may be shown, and its kind is known -/
def Th (K : PySem.W.Frag) (H : Hp) (v : V) : Prop := ∃ d, Dr K H v d ∧ tame d = true ∧ d.depth ≤ 60 ∧ szb d ≤ 100000 ∧ Kd H v
section
variable {K : PySem.W.Frag} {H H' : Hp}
theorem Th.mono {v : V} (e : Same H H') (h : Th K H v) : Th K H' v := by
  obtain ⟨d, h1, h2, h3, h4, h5⟩ := h
  exact ⟨d, h1.mono e, h2, h3, h4, h5.mono e⟩
theorem wd_ok {n : Nat} {z : Str} (h : Wd n z) : PyData.strOk z = true := by
  show z.cps.all (· < 0x110000) = true
  rw [← Array.all_toList, List.all_eq_true]
  exact fun c hc => decide_eq_true (Nat.lt_trans (h.2 c hc) (by decide))
theorem Th.non : Th K H .non := ⟨.none, .dp .non rfl, rfl, by decide, by decide, .inl rfl⟩
theorem Th.bl (b : Bool) : Th K H (.bl b) := ⟨.bool b, .dp (.bl b) rfl, rfl, (by show 0 ≤ 60; decide), (by show 5 ≤ _; decide), .inr (.inl ⟨b, rfl⟩)⟩
theorem Th.int {i : Int} (h : i.natAbs.log2 < 1920) : Th K H (.int i) := ⟨.int i, .dp (.int i) rfl, decide_eq_true h, (by show 0 ≤ 60; decide), (by show 1925 ≤ _; decide), .inr (.inr (.inl ⟨i, rfl⟩))⟩
theorem Th.str {z : Str} (h : Wd 64 z) : Th K H (.str z) := ⟨.str z, .dp (.str z) rfl, wd_ok h, (by show 0 ≤ 60; decide), (by have := h.len; show 10 * z.length + 2 ≤ _; omega), .inr (.inr (.inr (.inl ⟨z, rfl, h⟩)))⟩
/-- a list or a tuple of one plain thing, or of none -/
theorem Th.lst0 {a : Addr} (h : H a = some (.lst [])) : Th K H (.ref a) := ⟨.list [], .dp (.lst (SqL.of h) .nil) rfl, rfl, by decide, by decide, .inr (.inr (.inr (.inr ⟨a, rfl, .inl ⟨_, h⟩⟩)))⟩
theorem Th.tup0 {a : Addr} (h : H a = some (.tup [])) : Th K H (.ref a) := ⟨.tuple [], .dp (.tup (SqT.of h) .nil) rfl, rfl, by decide, by decide, .inr (.inr (.inr (.inr ⟨a, rfl, .inr (.inl ⟨_, h⟩)⟩)))⟩
theorem Th.lstI {a : Addr} {i : Int} (hi : i.natAbs.log2 < 1920) (h : H a = some (.lst [.int i])) : Th K H (.ref a) :=
  ⟨.list [.int i], .dp (.lst (SqL.of h) (.cons (.int i) .nil)) rfl, (by show (decide (i.natAbs.log2 < 1920) && true) = true; rw [decide_eq_true hi]; rfl), (by show max 0 0 + 1 ≤ 60; decide), (by show 1925 + 2 + 0 + 3 ≤ _; decide), .inr (.inr (.inr (.inr ⟨a, rfl, .inl ⟨_, h⟩⟩)))⟩
theorem Th.lstS {a : Addr} {z : Str} (w : Wd 64 z) (h : H a = some (.lst [.str z])) : Th K H (.ref a) :=
  ⟨.list [.str z], .dp (.lst (SqL.of h) (.cons (.str z) .nil)) rfl, (by show (PyData.strOk z && true) = true; rw [wd_ok w]; rfl), (by show max 0 0 + 1 ≤ 60; decide), (by have := w.len; show 10 * z.length + 2 + 2 + 0 + 3 ≤ _; omega), .inr (.inr (.inr (.inr ⟨a, rfl, .inl ⟨_, h⟩⟩)))⟩
theorem Th.tupS {a : Addr} {z : Str} (w : Wd 64 z) (h : H a = some (.tup [.str z])) : Th K H (.ref a) :=
  ⟨.tuple [.str z], .dp (.tup (SqT.of h) (.cons (.str z) .nil)) rfl, (by show (PyData.strOk z && true) = true; rw [wd_ok w]; rfl), (by show max 0 0 + 1 ≤ 60; decide), (by have := w.len; show 10 * z.length + 2 + 2 + 0 + 3 ≤ _; omega), .inr (.inr (.inr (.inr ⟨a, rfl, .inr (.inl ⟨_, h⟩)⟩)))⟩
/-- a dict of one entry -/
theorem Th.dct {a : Addr} {k : Key} {v : V} {d : PyData} (h : H a = some (.dK [(k, v)])) (q : Dp K H v d) (nr : ∀ b, v ≠ .ref b) (tk : tame (kD k) = true) (td : tame d = true) (dd : d.depth = 0) (dk : (kD k).depth = 0) (sk : szb (kD k) ≤ 3000) (sd : szb d ≤ 3000) : Th K H (.ref a) := by
  refine ⟨_, .dct h (.cons q .nil) (fun x hx b => ?_), ?_, ?_, ?_, .inr (.inr (.inr (.inr ⟨a, rfl, .inr (.inr ⟨_, h⟩)⟩)))⟩
  · have e : x = v := by simpa using hx
    rw [e]
    exact nr b
  · show (tame (kD k) && tame d && true) = true
    rw [tk, td]
    rfl
  · show max (max (kD k).depth d.depth) 0 + 1 ≤ 60
    rw [dk, dd]
    decide
  · show szb (kD k) + szb d + 4 + 0 + 3 ≤ _
    omega
end
/-- odd(bag, label): a thing -/
def spOdd (K : PySem.W.Frag) : Sp := fun vs H Q _ => ∃ (b cl : Addr) (z : Str), vs = [.ref b, .str z] ∧ Bag H b cl ∧ Wd 24 z ∧ ∀ (v : V) (H' : Hp), BagK b cl H H' → Th K (fr H H') v → Q v H'
/-- all of a list are things -/
def Ths (K : PySem.W.Frag) (H G : Hp) (xs : List V) : Prop := ∀ x ∈ xs, Th K (fr H G) x
section
variable {P : Program} {w : World} {K : PySem.W.Frag} {mg : Str → Option Value} {base : Heap}
theorem Bag.ne {H : Hp} {b cl : Addr} (h : Bag H b cl) : ∀ a, a = b → H a ≠ none := fun a e => by
  obtain ⟨c, st, n, ns, hb, _⟩ := h
  rw [e, hb]
  simp
theorem fr_take {b cl : Addr} {H G G' : Hp} (h : Bag H b cl) (only : ∀ a, a ≠ b → G' a = G a) : Same (fr H G) (fr H G') := fr_keeps (S := fun a => a = b) (fun a o n q => (only a n).trans q) h.ne
theorem Ths.mono {H G G' : Hp} {xs : List V} (h : Ths K H G xs) (e : Same (fr H G) (fr H G')) : Ths K H G' xs := fun x hx => (h x hx).mono e
theorem Ths.app {H G : Hp} {xs ys : List V} (h : Ths K H G xs) (k : Ths K H G ys) : Ths K H G (xs ++ ys) := fun x hx => (List.mem_append.mp hx).elim (h x) (k x)
theorem step_new {b cl p q : Addr} {H G : Hp} {o0 o : HO} {L : List V} (k : BagK b cl H G) (hp : G p = some o0) (bag : Bag H b cl) (t : Ths K H G L) (n : G q = none) (th : H q = none → Th K (fr H (upd G q o)) (.ref q)) :
    BagK b cl H (upd G q o) ∧ (upd G q o) p = some o0 ∧ Ths K H (upd G q o) (.ref q :: L) := by
  refine ⟨k.new n, (upd_ne (ne_of_none hp n)).trans hp, fun x hx => ?_⟩
  rcases List.mem_cons.mp hx with e | hx
  · rw [e]
    exact th (k.2.free (k.1.tracked n).1 n)
  · exact (t x hx).mono (fr_new n)
/-- a sign of a written text by its place -/
theorem sign_at {z : Str} {n : Nat} (l : z.cps.toList.length = n) (w : Wd n z) {r : Int} (h0 : 0 ≤ r) (h1 : r < n) : ∃ c, atI z.cps.toList r = some c ∧ c < 128 := by
  have e := atI_nat (xs := z.cps.toList) (j := r.toNat) (List.getElem?_eq_getElem (by omega))
  rw [Int.toNat_of_nonneg h0] at e
  exact ⟨_, e, w.2 _ (List.getElem_mem _)⟩
theorem ok_odd {f : Addr} {fd : FuncData} (F : Fun K "_law_odd" "_law_odd" s_law_odd f fd) (c_law_take : C8.Cal P w K mg base 1 "_law_take" spTake []) (m_len : mg "len" = none) : FnOk P w K mg base CX0 2 f fd ["_law_bag_here", "_law_label"] (spOdd K) := by
  refine F.ok sc_law_odd (fun vs H Q E h => ?_) (fun cdv A outer s H vs Q E hr h => ?_)
  · obtain ⟨b, cl, z, rfl, _⟩ := h
    rfl
  obtain ⟨b, cl, z, rfl, bag, wz, q⟩ := h
  have hu := hu_of hr
  refine ⟨_, (pss_cons (ps_par (i := 2) (j := 3) rfl sc_law_odd.nd rfl rfl (by decide) rfl rfl (pa_cons (C8.pe_c c_law_take hr (by decide) rfl (pa_cons (pv 0) (pa_cons (pe_op (op_addk (K := K)) (pe_callB (call_lenk (K := K)) (by rfl) m_len PySem.boot_len (pa_cons (pv 1) pa_nil)) pe_int) pa_nil))) (pa_cons (pe_ix (ix_k (K := K) hu) pe_str (C8.pe_c c_law_take hr (by decide) rfl (pa_cons (pv 0) (pa_cons pe_int pa_nil))) (fun _ _ => rfl)) pa_nil)) (by rfl)) (pss_cons (ps_set (i := 4) sc_law_odd.nd rfl (.inl rfl) (pe_lst (pa_cons pe_int (pa_cons pe_int (pa_cons (pe_un un_neg pe_int) (pa_cons pe_bl (pa_cons pe_bl (pa_cons pe_non (pa_cons (pe_op op_pow pe_int pe_int) (pa_cons (pe_un un_neg (pe_op op_pow pe_int pe_int)) (pa_cons (pv 1) (pa_cons (pe_op (op_addk (K := K)) (pe_op (op_addk (K := K)) (pe_slice (sl_k (K := K)) (pv 1) po_none (po_some (pv 2))) (pv 3)) (pe_slice (sl_k (K := K)) (pv 1) (po_some (pv 2)) po_none)) (pa_cons pe_str (pa_cons (pe_op op_mulU (pv 1) pe_int) pa_nil)))))))))))))) (pss_cons (ps_set (i := 4) sc_law_odd.nd rfl (.inl rfl) (pe_op (op_addk (K := K)) (pv 4) (pe_lst (pa_cons (pe_lst (pa_cons (pv 1) pa_nil)) (pa_cons (pe_tup (pa_cons (pv 1) pa_nil)) (pa_cons (pe_disp (pps_cons (pv 1) pe_int pps_nil) (by rfl) (by rfl) (fun z => by cases z) (by decide)) (pa_cons (pe_lst pa_nil) (pa_cons (pe_tup pa_nil) (pa_cons (C8.pe_c c_law_take hr (by decide) rfl (pa_cons (pv 0) (pa_cons pe_int pa_nil))) (pa_cons (pe_slice (sl_k (K := K)) (pv 1) po_none (po_some pe_int)) (pa_cons (pe_op (op_addk (K := K)) (pv 1) pe_str) pa_nil))))))))))) (pss_cons (ps_set (i := 4) sc_law_odd.nd rfl (.inl rfl) (pe_op (op_addk (K := K)) (pv 4) (pe_lst (pa_cons (pe_disp (pps_cons pe_int pe_int pps_nil) (by rfl) (by rfl) (fun z => by cases z) (by decide)) (pa_cons (pe_disp (pps_cons (pv 1) pe_non pps_nil) (by rfl) (by rfl) (fun z => by cases z) (by decide)) (pa_cons (pe_lst (pa_cons pe_int pa_nil)) (pa_cons pe_str (pa_cons pe_str (pa_cons pe_str pa_nil))))))))) (pss_one (ps_ret (pe_ix (ix_k (K := K) hu) (pv 4) (C8.pe_c c_law_take hr (by decide) rfl (pa_cons (pv 0) (pa_cons pe_int pa_nil))) (fun _ _ => rfl)))))))), ?_⟩
  have zl : z.length ≤ 24 := wz.len
  have zs : z.length ≤ sizeLine := Nat.le_trans zl (by decide)
  have small : ∀ {n : Nat}, n ≤ 1000 → n ≤ sizeLine := fun h => Nat.le_of_lt (small1000 h)
  refine ⟨_, rfl, _, rfl, Or.inr (Or.inl ⟨_, rfl, zs, Or.inl ⟨_, _, rfl, rfl, _, _, _, rfl, bag, by omega, by omega, fun at_ G1 a0 a1 bag1 only1 => ?_⟩⟩)⟩
  refine ⟨_, rfl, _, _, _, rfl, bag1, by decide, by decide, fun r G2 r0 r1 bag2 only2 => ?_⟩
  obtain ⟨c, hc, c128⟩ := sign_at (z := "A0 _-~.b") (n := 8) (by decide +kernel) (wd_of (by decide +kernel)) r0 r1
  refine Or.inr (Or.inr (Or.inl ⟨_, _, _, rfl, rfl, by decide +kernel, hc, _, _, rfl, ?_⟩))
  refine absS [some (.ref b), some (.str z), some (.int at_), some (.str ⟨#[c]⟩), none] (fun G => BagK b cl H G) (((BagK.refl bag).take bag1 only1).take bag2 only2) (fun G3 k3 => ?_)
  -- twelve plain things
  have c1 := wz.cut none (some at_)
  have c2 := wz.cut (some at_) none
  have ws := Wd.sign c128
  have w1 := (c1.app ws)
  have w2 := w1.app c2
  refine ⟨_, rfl, _, _, rfl, rfl, ⟨by decide, by decide, by decide⟩, _, _, rfl, rfl, ⟨by decide, by decide, by decide⟩, _, rfl, _, rfl, _, rfl, _, rfl, _, rfl, Or.inr (Or.inr ⟨_, rfl, zs, _, rfl, Or.inr (Or.inl ⟨_, _, rfl, rfl, small (by have := c1.len; have := ws.len; omega), _, rfl, _, rfl, _, rfl, Or.inr (Or.inr ⟨_, rfl, zs, Or.inr (Or.inl ⟨_, _, rfl, rfl, small (by have := w1.len; have := c2.len; omega), ?_⟩)⟩)⟩)⟩)⟩
  refine ⟨_, rfl, Or.inr (Or.inl ⟨_, _, rfl, rfl, by decide, by decide, Nat.le_trans zl (by decide), (by show 12 ≤ sizeLine; decide), fun p0 hp0 => ?_⟩)⟩
  have ne0 := (k3.1.tracked hp0).1
  have wm : Wd 48 (Txt.mul z 2) := wz.mul (m := 2) (by decide)
  have w0 : Wd 64 (Str.ofString "") := wd_of (by decide +kernel)
  refine setS [some (.ref b), some (.str z), some (.int at_), some (.str ⟨#[c]⟩), some (.ref p0)] (fun G => BagK b cl H G ∧ ∃ xs : List V, xs.length = 12 ∧ G p0 = some (.lst xs) ∧ Ths K H G xs) ⟨k3.new hp0, _, ?_, upd_same, ?_⟩ (fun G4 h4 => ?_)
  · rfl
  · intro x hx
    simp only [List.mem_cons, List.not_mem_nil, or_false] at hx
    rcases hx with e | e | e | e | e | e | e | e | e | e | e | e
    all_goals rw [e]
    · exact Th.int (by decide)
    · exact Th.int (by decide)
    · exact Th.int (by decide)
    · exact Th.bl _
    · exact Th.bl _
    · exact Th.non
    · exact Th.int (by decide +kernel)
    · exact Th.int (by decide +kernel)
    · exact Th.str (wz.mono (by decide))
    · exact Th.str (w2.mono (by decide))
    · exact Th.str w0
    · exact Th.str (wm.mono (by decide))
  obtain ⟨k4, xs, lx, hx, tx⟩ := h4
  -- eight more
  refine ⟨_, rfl, _, rfl, (by show 1 ≤ sizeLine; decide), fun p1 n1 => ?_⟩
  refine absT (fun G => BagK b cl H G ∧ G p0 = some (.lst xs) ∧ Ths K H G (.ref p1 :: xs)) (step_new k4 hx bag tx n1 fun ne => Th.lstS (wz.mono (by decide)) (fr_at upd_same ne)) (fun G5 h5 => ?_)
  refine ⟨_, rfl, (by show 1 ≤ sizeLine; decide), fun p2 n2 => ?_⟩
  refine absT (fun G => BagK b cl H G ∧ G p0 = some (.lst xs) ∧ Ths K H G (.ref p2 :: .ref p1 :: xs)) (step_new h5.1 h5.2.1 bag h5.2.2 n2 fun ne => Th.tupS (wz.mono (by decide)) (fr_at upd_same ne)) (fun G6 h6 => ?_)
  refine fun p3 n3 => ⟨_, rfl, upd_same, [(Sum.inr z, .int 1)], rfl, (by show 1 ≤ 15; decide), ?_⟩
  rw [upd_upd]
  refine absT (fun G => BagK b cl H G ∧ G p0 = some (.lst xs) ∧ Ths K H G (.ref p3 :: .ref p2 :: .ref p1 :: xs)) (step_new h6.1 h6.2.1 bag h6.2.2 n3 fun ne => Th.dct (d := .int 1) (fr_at upd_same ne) (.int 1) (fun b e => by cases e) (wd_ok wz) (by decide) rfl rfl (by show 10 * z.length + 2 ≤ _; omega) (by decide)) (fun G7 h7 => ?_)
  refine ⟨(by show 0 ≤ sizeLine; decide), fun p4 n4 => ?_⟩
  refine absT (fun G => BagK b cl H G ∧ G p0 = some (.lst xs) ∧ Ths K H G (.ref p4 :: .ref p3 :: .ref p2 :: .ref p1 :: xs)) (step_new h7.1 h7.2.1 bag h7.2.2 n4 fun ne => Th.lst0 (fr_at upd_same ne)) (fun G8 h8 => ?_)
  refine ⟨(by show 0 ≤ sizeLine; decide), fun p5 n5 => ?_⟩
  refine absT (fun G => BagK b cl H G ∧ G p0 = some (.lst xs) ∧ Ths K H G (.ref p5 :: .ref p4 :: .ref p3 :: .ref p2 :: .ref p1 :: xs)) (step_new h8.1 h8.2.1 bag h8.2.2 n5 fun ne => Th.tup0 (fr_at upd_same ne)) (fun G9 h9 => ?_)
  refine ⟨_, rfl, _, _, _, rfl, h9.1.1, by decide, by decide, fun n12 G10 _ n1 bag10 only10 => ?_⟩
  have k10 := h9.1.take bag10 only10
  have hx10 := (only10 _ ne0).trans h9.2.1
  have t10 := h9.2.2.mono (fr_take bag only10)
  have wi : Wd 8 (Str.ofString "abcdefgh") := wd_of (by decide +kernel)
  refine ⟨_, rfl, _, rfl, Or.inr (Or.inr ⟨_, rfl, zs, _, rfl, Or.inr (Or.inl ⟨_, _, rfl, rfl, small (by have := wi.len; omega), ?_⟩)⟩)⟩
  refine ⟨(by show 8 ≤ sizeLine; decide), fun p6 n6 => ?_⟩
  refine Or.inr (Or.inr (Or.inl ⟨_, _, _, _, rfl, rfl, (upd_ne (ne_of_none hx10 n6)).trans hx10, upd_same, ?_, fun p7 n7 => ?_⟩))
  · rw [lx]
    exact small (by show 12 + 8 ≤ 1000; decide)
  have ne7 := ((k10.new (o := .lst [.ref p1, .ref p2, .ref p3, .ref p4, .ref p5, .int n12, .str (cutS z none (some 8)), .str (z ++ Str.ofString "abcdefgh")]) n6).1.tracked n7).1
  refine setS [some (.ref b), some (.str z), some (.int at_), some (.str ⟨#[c]⟩), some (.ref p7)] (fun G => BagK b cl H G ∧ ∃ xs : List V, xs.length = 20 ∧ G p7 = some (.lst xs) ∧ Ths K H G xs) ⟨(k10.new n6).new n7, _, ?_, upd_same, ?_⟩ (fun G11 h11 => ?_)
  · rw [List.length_append, lx]
    rfl
  · have t11 := (t10.mono (fr_new (o := .lst [.ref p1, .ref p2, .ref p3, .ref p4, .ref p5, .int n12, .str (cutS z none (some 8)), .str (z ++ Str.ofString "abcdefgh")]) n6)).mono (fr_new (o := .lst (xs ++ [.ref p1, .ref p2, .ref p3, .ref p4, .ref p5, .int n12, .str (cutS z none (some 8)), .str (z ++ Str.ofString "abcdefgh")])) n7)
    refine Ths.app (fun x hx => t11 x ?_) (fun x hx => ?_)
    · simp only [List.mem_cons]
      exact .inr (.inr (.inr (.inr (.inr hx))))
    · simp only [List.mem_cons, List.not_mem_nil, or_false] at hx
      rcases hx with e | e | e | e | e | e | e | e
      · rw [e]; exact t11 _ (by simp)
      · rw [e]; exact t11 _ (by simp)
      · rw [e]; exact t11 _ (by simp)
      · rw [e]; exact t11 _ (by simp)
      · rw [e]; exact t11 _ (by simp)
      · rw [e]
        exact Th.int (PySem.Flt.log2_lt_of (by decide) (Nat.lt_of_lt_of_le (show n12.natAbs < 12 by omega) (by decide +kernel)))
      · rw [e]
        exact Th.str ((wz.cut _ _).mono (by decide))
      · rw [e]
        exact Th.str ((wz.app wi).mono (by decide))
  obtain ⟨k11, ys, ly, hy, ty⟩ := h11
  -- six more
  refine ⟨_, rfl, fun q1 m1 => ⟨upd_same, [(Sum.inl 0, .int 1)], rfl, (by show 1 ≤ 15; decide), ?_⟩⟩
  rw [upd_upd]
  refine absT (fun G => BagK b cl H G ∧ G p7 = some (.lst ys) ∧ Ths K H G (.ref q1 :: ys)) (step_new k11 hy bag ty m1 fun ne => Th.dct (d := .int 1) (fr_at upd_same ne) (.int 1) (fun b e => by cases e) (by decide) (by decide) rfl rfl (by decide) (by decide)) (fun G12 h12 => ?_)
  refine fun q2 m2 => ⟨_, rfl, upd_same, [(Sum.inr z, .non)], rfl, (by show 1 ≤ 15; decide), ?_⟩
  rw [upd_upd]
  refine absT (fun G => BagK b cl H G ∧ G p7 = some (.lst ys) ∧ Ths K H G (.ref q2 :: .ref q1 :: ys)) (step_new h12.1 h12.2.1 bag h12.2.2 m2 fun ne => Th.dct (d := .none) (fr_at upd_same ne) .non (fun b e => by cases e) (wd_ok wz) rfl rfl rfl (by show 10 * z.length + 2 ≤ _; omega) (by decide)) (fun G13 h13 => ?_)
  refine ⟨(by show 1 ≤ sizeLine; decide), fun q3 m3 => ?_⟩
  refine absT (fun G => BagK b cl H G ∧ G p7 = some (.lst ys) ∧ Ths K H G (.ref q3 :: .ref q2 :: .ref q1 :: ys)) (step_new h13.1 h13.2.1 bag h13.2.2 m3 fun ne => Th.lstI (by decide) (fr_at upd_same ne)) (fun G14 h14 => ?_)
  obtain ⟨k14, hy14, t14⟩ := h14
  refine ⟨(by show 6 ≤ sizeLine; decide), fun q4 m4 => ?_⟩
  refine Or.inr (Or.inr (Or.inl ⟨_, _, _, _, rfl, rfl, (upd_ne (ne_of_none hy14 m4)).trans hy14, upd_same, ?_, fun q5 m5 => ?_⟩))
  · rw [ly]
    exact small (by show 20 + 6 ≤ 1000; decide)
  have ne5 := ((k14.new (o := .lst [.ref q1, .ref q2, .ref q3, .str "0", .str "ninesigns", .str "eightlet"]) m4).1.tracked m5).1
  refine setS [some (.ref b), some (.str z), some (.int at_), some (.str ⟨#[c]⟩), some (.ref q5)] (fun G => BagK b cl H G ∧ ∃ xs : List V, xs.length = 26 ∧ G q5 = some (.lst xs) ∧ Ths K H G xs) ⟨(k14.new m4).new m5, _, ?_, upd_same, ?_⟩ (fun G15 h15 => ?_)
  · rw [List.length_append, ly]
    rfl
  · have t15 := (t14.mono (fr_new (o := .lst [.ref q1, .ref q2, .ref q3, .str "0", .str "ninesigns", .str "eightlet"]) m4)).mono (fr_new (o := .lst (ys ++ [.ref q1, .ref q2, .ref q3, .str "0", .str "ninesigns", .str "eightlet"])) m5)
    refine Ths.app (fun x hx => t15 x ?_) (fun x hx => ?_)
    · simp only [List.mem_cons]
      exact .inr (.inr (.inr hx))
    · simp only [List.mem_cons, List.not_mem_nil, or_false] at hx
      rcases hx with e | e | e | e | e | e
      · rw [e]; exact t15 _ (by simp)
      · rw [e]; exact t15 _ (by simp)
      · rw [e]; exact t15 _ (by simp)
      · rw [e]; exact Th.str (wd_of (by decide +kernel))
      · rw [e]; exact Th.str (wd_of (by decide +kernel))
      · rw [e]; exact Th.str (wd_of (by decide +kernel))
  obtain ⟨k15, us, lu, hus, tu⟩ := h15
  -- one of them
  refine ⟨_, rfl, _, rfl, _, _, _, rfl, k15.1, by decide, by decide, fun j G16 j0 j1 bag16 only16 => ?_⟩
  have hj : j.toNat < us.length := by omega
  have at_j := atI_nat (xs := us) (j := j.toNat) (List.getElem?_eq_getElem hj)
  rw [Int.toNat_of_nonneg j0] at at_j
  exact Or.inl ⟨_, _, _, _, rfl, rfl, SqL.of ((only16 _ ne5).trans hus), at_j, q _ _ (k15.take bag16 only16) ((tu _ (List.getElem_mem hj)).mono (fr_take bag only16))⟩
end

end K12

namespace K12
open PySem PySem.Spec PyProof.Rows L2 VL
/-! ### alike: the same data twice -/
def spAlike (K : PySem.W.Frag) : Sp := fun vs H Q _ => ∃ (x y : V) (d : PyData), vs = [x, y] ∧ Dp K H x d ∧ Dp K H y d ∧ tame d = true ∧ d.hasDict = false ∧ d.depth ≤ 60 ∧ szb d ≤ 16777216 ∧ Q (.bl true) H
section
variable {P : Program} {w : World} {K : PySem.W.Frag} {mg : Str → Option Value} {base : Heap}
theorem ok_alike {f : Addr} {fd : FuncData} (F : Fun K "_law_alike" "_law_alike" s_law_alike f fd) (m_repr : mg "repr" = none) : FnG P w K mg base CX0 1 f fd ["_law_found", "_law_due"] (spAlike K) := by
  refine okG F sc_law_alike (fun vs H Q E h => ?_) (fun cdv A outer s H vs Q E hG hr h => ?_)
  · obtain ⟨x, y, d, rfl, _⟩ := h
    rfl
  obtain ⟨x, y, d, rfl, hx, hy, ta, nd, dep, sz, q⟩ := h
  have hu64 := hr.units
  have sh : SeqAt.shaped d = true := by
    show (d.canLay0 && decide (d.depth ≤ 64)) = true
    rw [tame_canLay d ta nd, decide_eq_true (Nat.le_trans dep (by decide))]
    rfl
  have room : d.shown.length ≤ sizeLine := Nat.le_trans (shown_len d ta) (by rw [sizeLine_eq]; exact sz)
  refine ⟨_, (pss_one (ps_ret (pe_andTk (K := K) (pe_cmpR (op_eqk (K := K) hu64) (pv 0) (pv 1) (nomark _)) (pe_one (pe_cmpR (op_eqk (K := K) hu64) (pe_callB (call_reprk (K := K) hG hu64) (by rfl) m_repr (by decide +kernel) (pa_cons (pv 0) pa_nil)) (pe_callB (call_reprk (K := K) hG hu64) (by rfl) m_repr (by decide +kernel) (pa_cons (pv 1) pa_nil)) (nomark _)))))), ?_⟩
  refine ⟨_, rfl, _, rfl, Or.inr ⟨d, d, hx, hy, sh, sh, _, rfl, ?_⟩⟩
  rw [SeqAt.eqv_refl d (tame_canLay d ta nd)]
  refine iteT ?_
  refine ⟨_, rfl, x, d, rfl, .dp hx nd, tame_showable d ta, dep, room, _, rfl, y, d, rfl, .dp hy nd, tame_showable d ta, dep, room, Or.inl ⟨rfl, ?_⟩⟩
  rw [decide_eq_true rfl]
  exact q
end

/-! ### names -/
/-- a sign of a name, as the texts' order has it -/
def signB (c : Nat) : Bool := !sLt ⟨#[c]⟩ (Str.ofString "a") && !sLt (Str.ofString "z") ⟨#[c]⟩
def nameB (z : Str) : Bool := decide (1 ≤ z.cps.toList.length) && decide (z.cps.toList.length ≤ 8) && z.cps.toList.all signB
/-- items told one by one are the map of a list -/
theorem lc_map {α : Type} {xs : List α} {f : α → V} {acc : List V} (l : acc.length = xs.length) (r : ∀ (k : Nat) y, acc[k]? = some y → ∃ x, xs[k]? = some x ∧ y = f x) : acc = xs.map f := by
  refine List.ext_getElem? fun k => ?_
  rw [List.getElem?_map]
  cases e : acc[k]? with
  | none =>
    have z := List.getElem?_eq_none_iff.mp e
    rw [List.getElem?_eq_none (by omega)]
    rfl
  | some y =>
    obtain ⟨x, hx, rfl⟩ := r k y e
    rw [hx]
    rfl

theorem txTab : ((List.range 128).all fun c => ((Unicode.isAlpha c && !(Unicode.isUpper c || Unicode.isTitle c)) == (decide (97 ≤ c) && decide (c ≤ 122))) && (Unicode.isLower c || !(decide (97 ≤ c) && decide (c ≤ 122)))) = true := by decide +kernel
theorem sign_iff (c : Nat) : signB c = (decide (97 ≤ c) && decide (c ≤ 122)) := by
  have h1 : sLt ⟨#[c]⟩ (Str.ofString "a") = decide (c < 97) := by
    show decide ([c] < [97]) = _
    refine decide_eq_decide.mpr ⟨fun h => ?_, fun h => List.Lex.rel h⟩
    cases h with
    | rel h => exact h
    | cons h => cases h
  have h2 : sLt (Str.ofString "z") ⟨#[c]⟩ = decide (122 < c) := by
    show decide ([122] < [c]) = _
    refine decide_eq_decide.mpr ⟨fun h => ?_, fun h => List.Lex.rel h⟩
    cases h with
    | rel h => exact h
    | cons h => cases h
  unfold signB
  rw [h1, h2]
  by_cases a : 97 ≤ c <;> by_cases b : c ≤ 122 <;> simp [a, b, Nat.not_lt, Nat.lt_of_not_le] <;> omega
theorem tx_sign {c : Nat} (h : c < 128) : (Unicode.isAlpha c = true ∧ Unicode.isUpper c = false ∧ Unicode.isTitle c = false ↔ signB c = true) ∧ (signB c = true → Unicode.isLower c = true) := by
  have t := List.all_eq_true.mp txTab c (List.mem_range.mpr h)
  rw [sign_iff]
  generalize (decide (97 ≤ c) && decide (c ≤ 122)) = s at t ⊢
  cases e1 : Unicode.isAlpha c <;> cases e2 : Unicode.isUpper c <;> cases e3 : Unicode.isTitle c <;> cases e4 : Unicode.isLower c <;> cases s <;> simp_all
theorem tx_name (z : Str) : (Txt.isascii z && (Txt.isalpha z && Txt.islower z)) = (decide (1 ≤ z.cps.toList.length) && z.cps.toList.all signB) := by
  unfold Txt.isascii Txt.isalpha Txt.islower
  have l : z.length = z.cps.toList.length := str_len z
  rw [l]
  simp only [← Array.all_toList, ← Array.any_toList]
  generalize z.cps.toList = L
  rw [Bool.eq_iff_iff]
  simp only [Bool.and_eq_true, List.all_eq_true, decide_eq_true_eq, List.any_eq_true, Bool.not_eq_true', List.any_eq_false, Bool.or_eq_true, not_or, Bool.not_eq_true]
  constructor
  · rintro ⟨h1, ⟨h2, h3⟩, h4, h5⟩
    exact ⟨h2, fun c hc => (tx_sign (h1 c hc)).1.mp ⟨h3 c hc, h5 c hc⟩⟩
  · rintro ⟨h1, h2⟩
    have h3 : ∀ c ∈ L, c < 128 := fun c hc => by
      have := h2 c hc
      rw [sign_iff, Bool.and_eq_true, decide_eq_true_eq, decide_eq_true_eq] at this
      omega
    refine ⟨h3, ⟨h1, fun c hc => ((tx_sign (h3 c hc)).1.mpr (h2 c hc)).1⟩, ?_, fun c hc => ((tx_sign (h3 c hc)).1.mpr (h2 c hc)).2⟩
    cases L with
    | nil => simp at h1
    | cons c L => exact ⟨c, List.mem_cons_self, (tx_sign (h3 c List.mem_cons_self)).2 (h2 c List.mem_cons_self)⟩

def wholeB : V → Bool
  | .int _ => true
  | _ => false
def speltB : V → Bool
  | .str z => nameB z
  | _ => false
def numB (m : Int) : V → Bool
  | .int i => decide (0 ≤ i) && decide (i < m)
  | _ => false
def intish : V → Bool
  | .int _ => true
  | .bl _ => true
  | _ => false
def boolish : V → Bool
  | .bl _ => true
  | _ => false
def strish : V → Bool
  | .str _ => true
  | _ => false
/-- what isinstance says of a thing -/
theorem kinds {K : PySem.W.Frag} {H : Hp} {v : V} (h : Kd H v) : ∃ t : String, TyX K H v (.type t) ∧ kitB t "int" = some (intish v) ∧ kitB t "bool" = some (boolish v) ∧ kitB t "str" = some (strish v) := by
  rcases h with rfl | ⟨b, rfl⟩ | ⟨i, rfl⟩ | ⟨z, rfl, _⟩ | ⟨a, rfl, ⟨xs, q⟩ | ⟨xs, q⟩ | ⟨xs, q⟩⟩
  · exact ⟨_, .base .non, by decide +kernel, by decide +kernel, by decide +kernel⟩
  · exact ⟨_, .base (.bl b), by show _ = some true; decide +kernel, by show _ = some true; decide +kernel, by show _ = some false; decide +kernel⟩
  · exact ⟨_, .base (.int i), by show _ = some true; decide +kernel, by show _ = some false; decide +kernel, by show _ = some false; decide +kernel⟩
  · exact ⟨_, .base (.str z), by show _ = some false; decide +kernel, by show _ = some false; decide +kernel, by show _ = some true; decide +kernel⟩
  · exact ⟨_, .base (.lst q), by show _ = some false; decide +kernel, by show _ = some false; decide +kernel, by show _ = some false; decide +kernel⟩
  · exact ⟨_, .base (.tup q), by show _ = some false; decide +kernel, by show _ = some false; decide +kernel, by show _ = some false; decide +kernel⟩
  · exact ⟨_, .base (.dK q), by show _ = some false; decide +kernel, by show _ = some false; decide +kernel, by show _ = some false; decide +kernel⟩
def spInt : Sp := fun vs H Q _ => ∃ v, vs = [v] ∧ Kd H v ∧ Q (.bl (wholeB v)) H
def spNum : Sp := fun vs H Q _ => ∃ (m : Int) (v : V), vs = [.int m, v] ∧ Kd H v ∧ Q (.bl (numB m v)) H
def spName : Sp := fun vs H Q _ => ∃ v, vs = [v] ∧ Kd H v ∧ ∀ H', Same H H' → Q (.bl (speltB v)) H'
/-- own(thing, many): the three answers -/
def spOwn : Sp := fun vs H Q _ => ∃ (v : V) (m : Int), vs = [v, .int m] ∧ Kd H v ∧ ∀ H' p, Same H H' → H' p = some (.lst [.bl (wholeB v), .bl (speltB v), .bl (numB m v)]) → Q (.ref p) H'
section
variable {P : Program} {w : World} {K : PySem.W.Frag} {mg : Str → Option Value} {base : Heap}
theorem ok_int {f : Addr} {fd : FuncData} (F : Fun K "is_integer" "is_integer" s_is_integer f fd) (m_isinstance : mg "isinstance" = none) (m_int : mg "int" = none) (m_bool : mg "bool" = none) : FnOk P w K mg base CX0 1 f fd ["thing"] spInt := by
  refine F.ok sc_is_integer (fun vs H Q E h => ?_) (fun cdv A outer s H vs Q E hr h => ?_)
  · obtain ⟨v, rfl, _⟩ := h
    rfl
  obtain ⟨v, rfl, kd, q⟩ := h
  obtain ⟨t, ty, e1, e2, e3⟩ := kinds (K := K) kd
  refine ⟨_, (pss_one (ps_ret (pe_andTk (K := K) (pe_callB (call_isik (K := K)) (by rfl) m_isinstance (by decide +kernel) (pa_cons (pv 0) (pa_cons (pe_bltn (v := .ty "int") rfl m_int (show bootBuiltins "int" = some (.type "int") by decide +kernel) rfl) pa_nil))) (pe_one (pe_notTk (K := K) (pe_callB (call_isik (K := K)) (by rfl) m_isinstance (by decide +kernel) (pa_cons (pv 0) (pa_cons (pe_bltn (v := .ty "bool") rfl m_bool (show bootBuiltins "bool" = some (.type "bool") by decide +kernel) rfl) pa_nil)))))))), ?_⟩
  refine ⟨_, rfl, _, _, _, _, _, rfl, .ty _, ty, kit_ty e1, _, rfl, ?_⟩
  cases c : intish v with
  | false =>
    refine iteF ?_
    have e : wholeB v = false := by cases v <;> first | rfl | cases c
    rw [e] at q
    exact q
  | true =>
    refine iteT ?_
    refine ⟨_, rfl, _, _, _, _, _, rfl, .ty _, ty, kit_ty e2, _, rfl, ?_⟩
    have e : wholeB v = !boolish v := by cases v <;> first | rfl | cases c
    rw [e] at q
    exact q
theorem ok_num {f : Addr} {fd : FuncData} (F : Fun K "is_number" "is_number" s_is_number f fd) (c_is_integer : C8.Cal P w K mg base 1 "is_integer" spInt []) : FnOk P w K mg base CX0 2 f fd ["many", "thing"] spNum := by
  refine F.ok sc_is_number (fun vs H Q E h => ?_) (fun cdv A outer s H vs Q E hr h => ?_)
  · obtain ⟨m, v, rfl, _⟩ := h
    rfl
  obtain ⟨m, v, rfl, kd, q⟩ := h
  refine ⟨_, (pss_one (ps_ret (pe_andTk (K := K) (C8.pe_c c_is_integer hr (by decide) rfl (pa_cons (pv 1) pa_nil)) (pe_one (pe_chain op_leU op_ltU pe_int (pv 1) (pv 0)))))), ?_⟩
  refine ⟨_, rfl, _, rfl, kd, _, rfl, ?_⟩
  cases v with
  | int i =>
    refine iteT ?_
    refine ⟨_, rfl, Or.inl ⟨_, _, rfl, rfl, _, rfl, ?_⟩⟩
    have q' : Q (.bl (decide (0 ≤ i) && decide (i < m))) H := q
    refine ite2 (fun c => ?_) (fun c => ?_)
    · refine ⟨_, rfl, Or.inl ⟨_, _, rfl, rfl, ?_⟩⟩
      have c' : decide (0 ≤ i) = true := c
      rw [c'] at q'
      exact q'
    · have c' : decide (0 ≤ i) = false := Bool.eq_false_iff.mpr c
      rw [c'] at q'
      exact q'
  | _ => exact iteF q
theorem ok_name {f : Addr} {fd : FuncData} (F : Fun K "is_name" "is_name" s_is_name f fd) (m_isinstance : mg "isinstance" = none) (m_str : mg "str" = none) (m_len : mg "len" = none) (g_LONGEST_NAME : ∃ u, mg "LONGEST_NAME" = some u ∧ RelV (.int 8) u) :
    FnOk P w K mg base CX0 1 f fd ["thing"] spName := by
  refine F.ok sc_is_name (fun vs H Q E h => ?_) (fun cdv A outer s H vs Q E hr h => ?_)
  · obtain ⟨v, rfl, _⟩ := h
    rfl
  obtain ⟨v, rfl, kd, q⟩ := h
  obtain ⟨t, ty, e1, e2, e3⟩ := kinds (K := K) kd
  refine ⟨_, (pss_cons (ps_if (PW.pt (pw_or (pt_not (pt_trk (K := K) (pe_callB (call_isik (K := K)) (by rfl) m_isinstance (by decide +kernel) (pa_cons (pv 0) (pa_cons (pe_bltn (v := .ty "str") rfl m_str (show bootBuiltins "str" = some (.type "str") by decide +kernel) rfl) pa_nil))) (by intro _; rfl))) (pw_or1 (pt_not (pt_chain op_leU op_leU pe_int (pe_callB (call_lenk (K := K)) (by rfl) m_len PySem.boot_len (pa_cons (pv 0) pa_nil)) (C8.pe_gc rfl g_LONGEST_NAME)))))) (pss_one (ps_ret pe_bl)) pss_nil) (pss_one (ps_ret (pe_andTk (K := K) (pe_bm0k (K := K) PySem.F.plainAttrs_str PySem.F.slot_str_isascii PySem.F.type_str_isascii mt_isascii (pv 0)) (pe_andTk (K := K) (pe_bm0k (K := K) PySem.F.plainAttrs_str PySem.F.slot_str_isalpha PySem.F.type_str_isalpha mt_isalpha (pv 0)) (pe_one (pe_bm0k (K := K) PySem.F.plainAttrs_str PySem.F.slot_str_islower PySem.F.type_str_islower mt_islower (pv 0)))))))), ?_⟩
  refine ⟨_, rfl, _, _, _, _, _, rfl, .ty _, ty, kit_ty e3, _, rfl, ?_⟩
  cases c : strish v with
  | false =>
    have e : speltB v = false := by cases v <;> first | rfl | cases c
    rw [e] at q
    exact q H (Same.refl H)
  | true =>
    obtain ⟨z, rfl⟩ : ∃ z, v = .str z := by cases v <;> first | exact ⟨_, rfl⟩ | cases c
    have wz : Wd 64 z := by
      rcases kd with h | ⟨b, h⟩ | ⟨i, h⟩ | ⟨y, h, wy⟩ | ⟨a, h, _⟩ <;> cases h
      exact wy
    have zl : z.length ≤ sizeLine := Nat.le_trans wz.len (by decide)
    have le : z.length = z.cps.toList.length := str_len z
    refine ⟨_, rfl, Or.inr (Or.inl ⟨_, rfl, zl, Or.inl ⟨_, _, rfl, rfl, _, rfl, ?_⟩⟩)⟩
    have no : (decide (1 ≤ z.cps.toList.length) && decide (z.cps.toList.length ≤ 8)) = false → Q (.bl false) H := fun h => by
      have e : speltB (.str z) = false := by
        show nameB z = false
        unfold nameB
        rw [h]
        rfl
      rw [e] at q
      exact q H (Same.refl H)
    refine ite2 (fun c1 => ?_) (fun c1 => ?_)
    · refine Or.inl ⟨_, _, rfl, rfl, _, rfl, ?_⟩
      have h1 : decide (1 ≤ z.cps.toList.length) = true := decide_eq_true (by have := of_decide_eq_true c1; omega)
      show (if (!decide ((z.length : Int) ≤ 8)) = true then _ else _)
      cases c2 : decide ((z.length : Int) ≤ 8) with
      | false =>
        refine iteT (no ?_)
        rw [h1, decide_eq_false (by have := of_decide_eq_false c2; omega)]
        rfl
      | true =>
        have h2 : decide (z.cps.toList.length ≤ 8) = true := decide_eq_true (by have := of_decide_eq_true c2; omega)
        refine iteF ?_
        have sp : (Txt.isascii z && (Txt.isalpha z && Txt.islower z)) = speltB (.str z) := by
          rw [tx_name]
          show _ = nameB z
          unfold nameB
          rw [h2, Bool.and_true]
        rw [← sp] at q
        refine ⟨_, rfl, rfl, _, rfl, rfl, trivial, _, rfl, ?_⟩
        cases d1 : Txt.isascii z with
        | false =>
          refine iteF ?_
          rw [d1] at q
          exact q H (Same.refl H)
        | true =>
          refine iteT ⟨_, rfl, rfl, _, rfl, rfl, trivial, _, rfl, ?_⟩
          rw [d1] at q
          cases d2 : Txt.isalpha z with
          | false =>
            refine iteF ?_
            rw [d2] at q
            exact q H (Same.refl H)
          | true =>
            rw [d2] at q
            exact iteT ⟨_, rfl, rfl, _, rfl, rfl, trivial, q H (Same.refl H)⟩
    · have c1' : decide ((1 : Int) ≤ (z.length : Int)) = false := Bool.eq_false_iff.mpr c1
      refine ⟨_, rfl, iteT (no ?_)⟩
      rw [decide_eq_false (by have := of_decide_eq_false c1'; omega)]
      rfl
end

end K12

namespace K12
open PySem PySem.Spec PyProof.Rows L2 VL

/-- the law's own look at a name -/
theorem own_spelt (z : Str) : (!decide (V.str z = V.str (Str.ofString ""))) = true → decide ((z.length : Int) < 9) = true → nameB z = z.cps.toList.all signB := fun h1 h2 => by
  have a : z.cps.toList.length ≠ 0 := fun e => by
    have e2 : z = Str.ofString "" := by
      have q : z.cps.toList = [] := List.length_eq_zero_iff.mp e
      have q2 : z = ⟨z.cps.toList.toArray⟩ := by simp
      rw [q2, q]
      rfl
    rw [e2] at h1
    simp at h1
  have b := of_decide_eq_true h2
  rw [str_len] at b
  unfold nameB
  rw [decide_eq_true (by omega), decide_eq_true (by omega)]
  rfl
theorem own_short (z : Str) : (!decide (V.str z = V.str (Str.ofString ""))) = false → nameB z = false := fun h1 => by
  have e : z = Str.ofString "" := by
    have h2 : decide (V.str z = V.str (Str.ofString "")) = true := by simpa using h1
    exact V.str.inj (of_decide_eq_true h2)
  rw [e]
  decide +kernel
theorem own_long (z : Str) : decide ((z.length : Int) < 9) = false → nameB z = false := fun h1 => by
  have b := of_decide_eq_false h1
  rw [str_len] at b
  unfold nameB
  rw [decide_eq_false (p := z.cps.toList.length ≤ 8) (by omega), Bool.and_false]
  rfl
def preB : V → Bool
  | .str z => !decide (V.str z = V.str (Str.ofString "")) && decide ((z.length : Int) < 9)
  | _ => false
section
variable {P : Program} {w : World} {K : PySem.W.Frag} {mg : Str → Option Value} {base : Heap}
theorem ok_own {f : Addr} {fd : FuncData} (F : Fun K "_law_own" "_law_own" s_law_own f fd) (m_isinstance : mg "isinstance" = none) (m_str : mg "str" = none) (m_int : mg "int" = none) (m_len : mg "len" = none) :
    FnOk P w K mg base CX0 1 f fd ["_law_thing", "_law_many"] spOwn := by
  refine F.ok sc_law_own (fun vs H Q E h => ?_) (fun cdv A outer s H vs Q E hr h => ?_)
  · obtain ⟨v, m, rfl, _⟩ := h
    rfl
  obtain ⟨v, m, rfl, kd, q⟩ := h
  have hu64 := hr.units
  obtain ⟨t, ty, e1, e2, e3⟩ := kinds (K := K) kd
  refine ⟨_, (pss_cons (ps_set (i := 2) sc_law_own.nd rfl (.inl rfl) (pe_andTk (K := K) (pe_callB (call_isik (K := K)) (by rfl) m_isinstance (by decide +kernel) (pa_cons (pv 0) (pa_cons (pe_bltn (v := .ty "int") rfl m_int (show bootBuiltins "int" = some (.type "int") by decide +kernel) rfl) pa_nil))) (pe_andTk (K := K) (pe_cmpR op_isnotU (pv 0) pe_bl (nomark _)) (pe_one (pe_cmpR op_isnotU (pv 0) pe_bl (nomark _)))))) (pss_cons (ps_set (i := 3) sc_law_own.nd rfl (.inl rfl) (pe_andTk (K := K) (pe_callB (call_isik (K := K)) (by rfl) m_isinstance (by decide +kernel) (pa_cons (pv 0) (pa_cons (pe_bltn (v := .ty "str") rfl m_str (show bootBuiltins "str" = some (.type "str") by decide +kernel) rfl) pa_nil))) (pe_andTk (K := K) (pe_cmpR (op_nek (K := K) hu64) (pv 0) pe_str (nomark _)) (pe_one (pe_cmpR op_ltU (pe_callB (call_lenk (K := K)) (by rfl) m_len PySem.boot_len (pa_cons (pv 0) pa_nil)) pe_int (nomark _)))))) (pss_cons (ps_set (i := 3) sc_law_own.nd rfl (.inl rfl) (pe_andTk (K := K) (pv 3) (pe_one (pe_cmpR (op_eqk (K := K) hu64) (pe_lc (own := [("_law_sign", 4)]) (g := gName 4) rfl sc_law_own.nd (pi_str (pv 0)) (blkOk_by (own := [("_law_sign", 4)]) (N := ["_law_thing", "_law_many", "_law_whole", "_law_spelt", "_law_sign"]) (sc := defScope s_law_own) (by decide +kernel)) (fun _ _ _ _ _ => (pg_name (i := 4) sc_law_own.nd rfl (.inl rfl))) (fun _ _ _ _ _ => (pts_one (pt_not (pt_chain op_leU op_leU pe_str (pv 4) pe_str)))) (fun _ _ _ _ _ => (pv 4))) (pe_lst pa_nil) (nomark _))))) (pss_one (ps_ret (pe_lst (pa_cons (pv 2) (pa_cons (pv 3) (pa_cons (pe_andTk (K := K) (pv 2) (pe_one (pe_chain op_leU op_ltU pe_int (pv 0) (pv 1)))) pa_nil))))))))), ?_⟩
  -- whole
  refine asgVs (v := .bl (wholeB v)) (fun Q2 q2 => ?_) ?_
  · refine ⟨_, rfl, _, _, _, _, _, rfl, .ty _, ty, kit_ty e1, _, rfl, ?_⟩
    cases v with
    | int i => exact iteT ⟨_, rfl, true, rfl, rfl, _, rfl, iteT ⟨_, rfl, false, rfl, rfl, q2⟩⟩
    | bl x =>
      refine iteT ⟨_, rfl, true, rfl, rfl, _, rfl, ?_⟩
      cases x with
      | true => exact iteF q2
      | false => exact iteT ⟨_, rfl, false, rfl, rfl, q2⟩
    | _ => exact iteF q2
  -- spelt, but for the signs
  have kz : ∀ z, v = .str z → z.length ≤ sizeLine := fun z e => by
    subst e
    rcases kd with h | ⟨b, h⟩ | ⟨i, h⟩ | ⟨y, h, wy⟩ | ⟨a, h, _⟩ <;> cases h
    exact Nat.le_trans wy.len (by decide)
  dsimp only [gName]
  refine asgVs (v := .bl (preB v)) (fun Q2 q2 => ?_) ?_
  · refine ⟨_, rfl, _, _, _, _, _, rfl, .ty _, ty, kit_ty e3, _, rfl, ?_⟩
    cases v with
    | str z =>
      refine iteT ⟨_, rfl, Or.inl ⟨rfl, _, rfl, ?_⟩⟩
      have q2' : Q2 (.bl (!decide (V.str z = V.str (Str.ofString "")) && decide ((z.length : Int) < 9))) H := q2
      cases c : (!decide (V.str z = V.str (Str.ofString ""))) with
      | false =>
        rw [c] at q2'
        exact iteF q2'
      | true =>
        rw [c] at q2'
        exact iteT ⟨_, rfl, Or.inr (Or.inl ⟨_, rfl, kz z rfl, Or.inl ⟨_, _, rfl, rfl, q2'⟩⟩)⟩
    | _ => exact iteF q2
  -- .. and the signs
  dsimp only [gName]
  refine asgNs (R := fun x G => x = .bl (speltB v) ∧ Same H G) (fun Q2 q2 => ?_) ?_
  · refine ⟨_, rfl, _, rfl, ?_⟩
    cases v with
    | str z =>
      refine ite2 (fun c => ?_) (fun c => ?_)
      · have c' : (!decide (V.str z = V.str (Str.ofString "")) && decide ((z.length : Int) < 9)) = true := c
        obtain ⟨c1, c2⟩ := and2 c'
        have sp := own_spelt z c1 c2
        have wz : Wd 64 z := by
          rcases kd with h | ⟨b, h⟩ | ⟨i, h⟩ | ⟨y, h, wy⟩ | ⟨a, h, _⟩ <;> cases h
          exact wy
        have zn : z.cps.size < 9 := by have := of_decide_eq_true c2; have e : z.length = z.cps.size := rfl; omega
        refine ⟨_, rfl, _, rfl, fun D hD => ?_⟩
        refine lc_it walk_str (fun i G => Same H G ∧ ∃ acc : List V, acc.length ≤ i ∧ G D = some (.lst acc) ∧ (∃ ss : List Str, acc = ss.map V.str ∧ ∀ y ∈ ss, Wd 1 y) ∧ (acc = [] ↔ (z.cps.toList.take i).all signB = true)) ?_ (fun _ _ _ _ => trivial) (fun i x G G' hi hP hy => ?_) (fun G hP => ?_)
        · exact ⟨same_new hD, [], Nat.le_refl _, upd_same, ⟨[], rfl, fun y hy => by cases hy⟩, by simp⟩
        · obtain ⟨rfl, ch, hc, rfl⟩ := hy
          obtain ⟨sm, acc, la, hacc, ⟨ss, hss, wss⟩, iff⟩ := hP
          have hc' : z.cps.toList[i]? = some ch := by rw [Array.getElem?_toList]; exact hc
          have tk : z.cps.toList.take (i + 1) = z.cps.toList.take i ++ [ch] := by
            rw [List.take_succ, hc']
            rfl
          have all1 : (z.cps.toList.take (i + 1)).all signB = ((z.cps.toList.take i).all signB && signB ch) := by
            rw [tk, List.all_append]
            simp
          have sm' : ∀ o, Same H (upd G' D o) := fun o a u hu0 => by
            rw [upd_ne (ne_of_none hu0 hD)]
            exact sm a u hu0
          have cut : signB ch = true → Same H G' ∧ ∃ acc : List V, acc.length ≤ i + 1 ∧ G' D = some (.lst acc) ∧ (∃ ss : List Str, acc = ss.map V.str ∧ ∀ y ∈ ss, Wd 1 y) ∧ (acc = [] ↔ (z.cps.toList.take (i + 1)).all signB = true) := fun hb =>
            ⟨sm, acc, by omega, hacc, ⟨ss, hss, wss⟩, by rw [all1, hb, Bool.and_true]; exact iff⟩
          have add : signB ch = false → Same H (upd G' D (.lst (acc ++ [.str ⟨#[ch]⟩]))) ∧ ∃ acc' : List V, acc'.length ≤ i + 1 ∧ (upd G' D (.lst (acc ++ [.str ⟨#[ch]⟩]))) D = some (.lst acc') ∧ (∃ ss : List Str, acc' = ss.map V.str ∧ ∀ y ∈ ss, Wd 1 y) ∧ (acc' = [] ↔ (z.cps.toList.take (i + 1)).all signB = true) := fun hb =>
            ⟨sm' _, _, by rw [List.length_append]; exact Nat.succ_le_succ la, upd_same, ⟨ss ++ [⟨#[ch]⟩], by rw [hss, List.map_append]; rfl, fun y hy => (List.mem_append.mp hy).elim (wss y) (fun e => by rw [List.mem_singleton.mp e]; exact Wd.sign (wz.2 ch (List.mem_of_getElem? hc')))⟩, by rw [all1, hb, Bool.and_false]; simp⟩
          have sz : acc.length < sizeLine := small1000 (by omega)
          refine ⟨wipe1, _, rfl, Or.inr ⟨_, _, rfl, rfl, _, rfl, ?_⟩⟩
          refine ite2 (fun d1 => ?_) (fun d1 => ?_)
          · have d1' : (!sLt ⟨#[ch]⟩ (Str.ofString "a")) = true := d1
            refine Or.inr ⟨_, _, rfl, rfl, _, rfl, ?_⟩
            show (if (!(!sLt (Str.ofString "z") ⟨#[ch]⟩)) = true then _ else _)
            cases d2 : (!sLt (Str.ofString "z") ⟨#[ch]⟩) with
            | true => exact iteF (cut (by unfold signB; rw [d1', d2]; rfl))
            | false => exact iteT ⟨_, rfl, acc, hacc, sz, add (by unfold signB; rw [d1', d2]; rfl)⟩
          · have d1' : (!sLt ⟨#[ch]⟩ (Str.ofString "a")) = false := Bool.eq_false_iff.mpr d1
            exact ⟨_, rfl, iteT ⟨_, rfl, acc, hacc, sz, add (by unfold signB; rw [d1']; rfl)⟩⟩
        · obtain ⟨sm, acc, la, hacc, ⟨ss, hss, wss⟩, iff⟩ := hP
          refine ⟨(by show 0 ≤ sizeLine; decide), fun e he => ?_⟩
          have nD : D ≠ e := ne_of_none hacc he
          have se : Same H (upd G e (.lst [])) := sm.trans (same_new he)
          refine Or.inr ⟨.list (ss.map PyData.str), .list [], .lst (SqL.of ((upd_ne nD).trans hacc)) (hss ▸ dpAll_strs ss), .lst (SqL.of upd_same) .nil, shaped_strs fun y hy => wd_ok (wss y hy), rfl, ?_⟩
          refine q2 _ _ ⟨?_, se⟩
          have full : (z.cps.toList.take z.cps.size).all signB = z.cps.toList.all signB := by rw [List.take_of_length_le (by simp)]
          rw [full] at iff
          have e1 : speltB (.str z) = z.cps.toList.all signB := sp
          rw [e1]
          cases ss with
          | nil =>
            rw [iff.mp hss]
            rfl
          | cons s0 ss =>
            have ne : acc ≠ [] := by rw [hss]; simp
            have ff : z.cps.toList.all signB = false := by
              cases cc : z.cps.toList.all signB with
              | false => rfl
              | true => exact absurd (iff.mpr cc) ne
            rw [ff]
            rfl
      · have c' : (!decide (V.str z = V.str (Str.ofString "")) && decide ((z.length : Int) < 9)) = false := Bool.eq_false_iff.mpr c
        have sp : speltB (.str z) = false := by
          show nameB z = false
          cases c1 : (!decide (V.str z = V.str (Str.ofString ""))) with
          | false => exact own_short z c1
          | true =>
            rw [c1, Bool.true_and] at c'
            exact own_long z c'
        have c3 : preB (.str z) = false := c'
        rw [c3]
        exact q2 _ _ ⟨by rw [sp], Same.refl H⟩
    | _ => exact iteF (q2 _ _ ⟨rfl, Same.refl H⟩)
  -- the answers
  intro x G hx
  obtain ⟨rfl, sm⟩ := hx
  dsimp only
  refine ⟨_, rfl, _, rfl, consV (v := .bl (numB m v)) (fun Q2 q2 => ?_) ⟨(by show 3 ≤ sizeLine; decide), fun p hp => q _ p (sm.trans (same_new hp)) upd_same⟩⟩
  refine ⟨_, rfl, _, rfl, ?_⟩
  cases v with
  | int i =>
    have q' : Q2 (.bl (decide (0 ≤ i) && decide (i < m))) G := q2
    refine iteT ⟨_, rfl, Or.inl ⟨_, _, rfl, rfl, _, rfl, ?_⟩⟩
    refine ite2 (fun c => ?_) (fun c => ?_)
    · have c' : decide (0 ≤ i) = true := c
      rw [c'] at q'
      exact ⟨_, rfl, Or.inl ⟨_, _, rfl, rfl, q'⟩⟩
    · have c' : decide (0 ≤ i) = false := Bool.eq_false_iff.mpr c
      rw [c'] at q'
      exact q'
  | _ => exact iteF q2
end

end K12

namespace K12
open PySem PySem.Spec PyProof.Rows L2 VL
/-! ### the law -/
def spLaw (K : PySem.W.Frag) : Sp := fun vs H Q _ => ∃ (a : Addr) (ns : List Int), vs = [.ref a] ∧ SqL K H a (ns.map V.int) ∧ ns.length ≤ 63 ∧ ∀ H', Q (.bl true) H'
/-- a row: a thing and a number -/
def RowOk (K : PySem.W.Frag) (H : Hp) (y : V) : Prop := ∃ t v m, y = .ref t ∧ H t = some (.tup [v, .int m]) ∧ Th K H v
theorem RowOk.mono {K : PySem.W.Frag} {H H' : Hp} {y : V} (e : Same H H') (h : RowOk K H y) : RowOk K H' y := by
  obtain ⟨t, v, m, r1, r2, r3⟩ := h
  exact ⟨t, v, m, r1, e _ _ r2, r3.mono e⟩
/-- the rows so far, in the list at D -/
def RowsAt (K : PySem.W.Frag) (H : Hp) (D : Addr) (G : Hp) : Prop := ∀ acc, G D = some (.lst acc) → ∀ y ∈ acc, RowOk K (fr H G) y
section
variable {P : Program} {w : World} {K : PySem.W.Frag} {mg : Str → Option Value} {base : Heap}
theorem ok_law {f : Addr} {fd : FuncData} (F : Fun K "law" "law" s_law f fd) (c_law_bag : C8.Cal P w K mg base 1 "_law_bag" (spBag K) []) (c_law_labels : C8.Cal P w K mg base 2 "_law_labels" spLabels []) (c_law_take : C8.Cal P w K mg base 1 "_law_take" spTake [])
    (c_law_odd : C8.Cal P w K mg base 2 "_law_odd" (spOdd K) []) (c_is_integer : C8.Cal P w K mg base 1 "is_integer" spInt []) (c_is_name : C8.Cal P w K mg base 1 "is_name" spName []) (c_is_number : C8.Cal P w K mg base 2 "is_number" spNum []) (c_law_alike : CalG P w K mg base 1 "_law_alike" (spAlike K) [])
    (c_law_own : C8.Cal P w K mg base 1 "_law_own" spOwn []) (m_range : mg "range" = none) (m_repr : mg "repr" = none) : FnG P w K mg base CX0 3 f fd ["_law_script"] (spLaw K) := by
  refine okG F sc_law (fun vs H Q E h => ?_) (fun cdv A outer s H vs Q E hG hr h => ?_)
  · obtain ⟨a, ns, rfl, _⟩ := h
    rfl
  obtain ⟨a, ns, rfl, hS, h63, q⟩ := h
  have hu := hu_of hr
  have hu64 := hr.units
  refine ⟨_, (pss_cons (ps_set (i := 1) sc_law.nd rfl (.inr rfl) (C8.pe_c c_law_bag hr (by decide) rfl (pa_cons (pv 0) pa_nil))) (pss_cons (ps_set (i := 2) sc_law.nd rfl (.inr rfl) (C8.pe_c c_law_labels hr (by decide) rfl (pa_cons (pv 1) (pa_cons pe_int pa_nil)))) (pss_cons (ps_setLc (i := 3) (own := [("_law_k", 8)]) (g := gName 8) (tt := tYes) rfl sc_law.nd rfl rfl (sw_true rfl rfl rfl (by decide +kernel)) (pi_range1 rfl m_range (pa_cons pe_int pa_nil)) (blkOk_by (own := [("_law_k", 8)]) (N := ["_law_script", "_law_bag_here", "_law_labels_here", "_law_rows", "_law_thing", "_law_many", "_law_shown", "_law_found", "_law_k"]) (sc := defScope s_law) (by decide +kernel)) (fun _ _ _ _ _ => (pg_name (i := 8) sc_law.nd rfl (.inl rfl))) (fun _ _ _ _ _ => pts_nil) (fun _ _ _ _ _ => (pe_tup (pa_cons (C8.pe_c c_law_odd hr (by decide) rfl (pa_cons (pv 1) (pa_cons (pe_ix (ix_k (K := K) hu) (pv 2) (C8.pe_c c_law_take hr (by decide) rfl (pa_cons (pv 1) (pa_cons pe_int pa_nil))) (fun _ _ => rfl)) pa_nil))) (pa_cons (pe_ix (ix_k (K := K) hu) (pe_lst (pa_cons pe_int (pa_cons pe_int (pa_cons pe_int (pa_cons pe_int (pa_cons (pe_op op_pow pe_int pe_int) pa_nil)))))) (C8.pe_c c_law_take hr (by decide) rfl (pa_cons (pv 1) (pa_cons pe_int pa_nil))) (fun _ _ => rfl)) pa_nil))))) (pss_cons (ps_for PassesOwn.never rfl (pi_listk (K := K) (pe_op (op_addk (K := K)) (pv 3) (pe_revLk (K := K) (pv 3)))) (pg_tupk (K := K) (n := 2) rfl (pgs_cons (pg_name (i := 4) sc_law.nd rfl (.inl rfl)) (pgs_cons (pg_name (i := 5) sc_law.nd rfl (.inl rfl)) pgs_nil))) (pss_cons (ps_set (i := 6) sc_law.nd rfl (.inl rfl) (pe_callB (call_reprk (K := K) hG hu64) (by rfl) m_repr (by decide +kernel) (pa_cons (pv 4) pa_nil))) (pss_cons (ps_set (i := 7) sc_law.nd rfl (.inl rfl) (pe_lst (pa_cons (C8.pe_c c_is_integer hr (by decide) rfl (pa_cons (pv 4) pa_nil)) (pa_cons (C8.pe_c c_is_name hr (by decide) rfl (pa_cons (pv 4) pa_nil)) (pa_cons (C8.pe_c c_is_number hr (by decide) rfl (pa_cons (pv 5) (pa_cons (pv 4) pa_nil))) pa_nil))))) (pss_one (ps_if (PW.pt (pw_or (pt_not (pt_trk (K := K) (pe_cG c_law_alike hG hr (by decide) rfl (pa_cons (pv 7) (pa_cons (C8.pe_c c_law_own hr (by decide) rfl (pa_cons (pv 4) (pa_cons (pv 5) pa_nil))) pa_nil))) (by intro _; rfl))) (pw_or1 (pt_cmpR (op_nek (K := K) hu64) (pe_callB (call_reprk (K := K) hG hu64) (by rfl) m_repr (by decide +kernel) (pa_cons (pv 4) pa_nil)) (pv 6) (nomark _))))) (pss_one (ps_ret pe_bl)) pss_nil))))) (pss_one (ps_ret pe_bl)))))), ?_⟩
  refine ⟨_, rfl, _, _, rfl, hS, h63, fun b cl G1 bag1 sm1 => ?_⟩
  refine ⟨_, rfl, _, _, _, rfl, bag1, by decide, by decide, fun pl G2 ss nel k2 ls ws hpl => ?_⟩
  -- thirty rows
  refine ⟨_, rfl, by decide, by decide, fun D hD => ?_⟩
  have hDt := k2.1.tracked hD
  refine lcR (n := 30) (fun _ _ => True) (fun G => BagK b cl G2 G ∧ RowsAt K (upd G2 D (.lst [])) D G) ⟨(BagK.refl k2.1).new hD, fun acc h y hy => ?_⟩ (fun i G hi hP => ?_) (fun G hP => ?_)
  · rw [upd_same] at h
    cases h
    cases hy
  · obtain ⟨acc, la, ra, hacc, iv, rows⟩ := hP.get
    -- the thing
    refine ⟨_, rfl, _, rfl, _, rfl, _, _, _, rfl, iv.1, by decide, by decide, fun r G3 r0 r1 bag3 only3 => ?_⟩
    have k3 := iv.take bag3 only3
    have hr4 : r.toNat < ss.length := by rw [ls]; show r.toNat < 4; omega
    have at_r := atI_nat (xs := ss.map V.str) (j := r.toNat) (v := .str ss[r.toNat]) (by rw [List.getElem?_map, List.getElem?_eq_getElem hr4]; rfl)
    rw [Int.toNat_of_nonneg r0] at at_r
    refine Or.inl ⟨_, _, _, _, rfl, rfl, SqL.of (k3.at nel hpl), at_r, ?_⟩
    refine ⟨_, _, _, rfl, k3.1, ws _ (List.getElem_mem hr4), fun v G4 k4 tv => ?_⟩
    have hacc3 : G3 D = some (.lst acc) := (only3 _ hDt.1).trans hacc
    -- its number
    refine ⟨_, _, rfl, rfl, ⟨by decide, by decide, by decide⟩, (by show 5 ≤ sizeLine; decide), fun u hu1 => ?_⟩
    refine ⟨_, rfl, _, _, _, rfl, (k4.1.new hu1), by decide, by decide, fun j G5 j0 j1 bag5 only5 => ?_⟩
    have neu := (k4.1.tracked hu1).1
    obtain ⟨mz, at_j⟩ : ∃ mz : Int, atI [V.int 0, V.int 1, V.int 2, V.int 12, V.int ((10 : Int) ^ (39 : Int).toNat)] j = some (.int mz) := by
      have hj : j.toNat < [V.int 0, V.int 1, V.int 2, V.int 12, V.int ((10 : Int) ^ (39 : Int).toNat)].length := by show j.toNat < 5; omega
      have z := atI_nat (List.getElem?_eq_getElem hj)
      rw [Int.toNat_of_nonneg j0] at z
      have c : j = 0 ∨ j = 1 ∨ j = 2 ∨ j = 3 ∨ j = 4 := by omega
      rcases c with e | e | e | e | e <;> subst e <;> exact ⟨_, rfl⟩
    refine Or.inl ⟨_, _, _, _, rfl, rfl, SqL.of ((only5 _ neu).trans upd_same), at_j, ?_⟩
    refine ⟨(by show 2 ≤ sizeLine; decide), fun t ht => ?_⟩
    have k5 : BagK b cl G2 G5 := ((k3.trans k4).new hu1).take bag5 only5
    have hacc5 : G5 D = some (.lst acc) := (only5 _ hDt.1).trans ((upd_ne (ne_of_none (k4.at hDt.1 hacc3) hu1)).trans (k4.at hDt.1 hacc3))
    have hacc6 : (upd G5 t (.tup [v, .int mz])) D = some (.lst acc) := (upd_ne (ne_of_none hacc5 ht)).trans hacc5
    have k6 := k5.new (o := .tup [v, .int mz]) ht
    -- what was untracked stays so, seen from the beginning
    have bagD : Bag (upd G2 D (.lst [])) b cl := k2.1.new hD
    have up : ∀ a, G3 a = none → (upd G2 D (.lst [])) a = none := fun a ha => by
      have nb : a ≠ b := fun e => bag3.ne a e ha
      have nD : a ≠ D := fun e => by rw [e, hacc3] at ha; cases ha
      rw [upd_ne nD]
      exact k3.2.free nb ha
    have g56 : Same (fr (upd G2 D (.lst [])) G4) (fr (upd G2 D (.lst [])) (upd G5 t (.tup [v, .int mz]))) := ((fr_new hu1).trans (fr_take bagD only5)).trans (fr_new ht)
    have g36 : Same (fr (upd G2 D (.lst [])) G) (fr (upd G2 D (.lst [])) (upd G5 t (.tup [v, .int mz]))) := ((fr_take bagD only3).trans (fr_keeps k4.2 bagD.ne)).trans g56
    have tD : t ≠ D := (ne_of_none hacc5 ht).symm
    have g7 : Same (fr (upd G2 D (.lst [])) (upd G5 t (.tup [v, .int mz]))) (fr (upd G2 D (.lst [])) (upd (upd G5 t (.tup [v, .int mz])) D (.lst (acc ++ [.ref t])))) :=
      fr_keeps (S := fun a => a = D) (Keeps.put rfl) fun a e => by rw [e, upd_same]; simp
    have tn : (upd G2 D (.lst [])) t = none := by
      rw [upd_ne tD]
      exact k5.2.free (k5.1.tracked ht).1 ht
    refine LcQ.mk la ra hacc6 (small1000 (by omega)) trivial ⟨k6.put k2.1 hD, fun acc' h y hy => ?_⟩
    rw [upd_same] at h
    cases h
    rcases List.mem_append.mp hy with hy | hy
    · exact ((rows acc hacc y hy).mono g36).mono g7
    · rw [List.mem_singleton.mp hy]
      exact ⟨t, v, mz, rfl, g7 _ _ (fr_at upd_same tn), ((tv.mono (fr_up up)).mono g56).mono g7⟩
  -- the thirty rows, and again from the end
  obtain ⟨acc, la, ra, hacc, iv, rows⟩ := hP.get
  have rows := rows acc hacc
  refine setS [some (.ref a), some (.ref b), some (.ref pl), some (.ref D), none, none, none, none, none] (fun G' => G' D = some (.lst acc) ∧ ∀ y ∈ acc, RowOk K G' y) ⟨hacc, fun y hy => (rows y hy).mono fr_same⟩ (fun G8 h8 => ?_)
  obtain ⟨hacc8, rows8⟩ := h8
  refine ⟨_, rfl, _, rfl, _, _, rfl, SqL.of hacc8, fun p1 n1 => Or.inr (Or.inr (Or.inl ⟨_, _, _, _, rfl, rfl, (upd_ne (ne_of_none hacc8 n1)).trans hacc8, upd_same, ?_, fun p2 n2 => ?_⟩))⟩
  · rw [List.length_reverse, la]
    decide
  have sm8 : Same G8 (upd (upd G8 p1 (.lst acc.reverse)) p2 (.lst (acc ++ acc.reverse))) := (same_new n1).trans (same_new n2)
  refine ⟨_, rfl, ⟨_, SqL.of upd_same⟩, for_list (K := K) (a := p2) (xs := acc ++ acc.reverse) (fun i σ G' => (∃ o4 o5 o6 o7, σ = [some (.ref a), some (.ref b), some (.ref pl), some (.ref D), o4, o5, o6, o7, none]) ∧ Same (upd (upd G8 p1 (.lst acc.reverse)) p2 (.lst (acc ++ acc.reverse))) G') ?_ ?_ ?_ ?_⟩
  · exact ⟨⟨_, _, _, _, rfl⟩, Same.refl _⟩
  · rintro i σ G' _ ⟨_, sm⟩
    exact SqL.of (sm _ _ upd_same)
  · rintro i y σ G' hy ⟨⟨o4, o5, o6, o7, rfl⟩, sm⟩
    have hy' : y ∈ acc := by
      rcases List.mem_append.mp (List.mem_of_getElem? hy) with z | z
      · exact z
      · exact List.mem_reverse.mp z
    obtain ⟨t, v, m, rfl, ht, tv⟩ := (rows8 y hy').mono (sm8.trans sm)
    obtain ⟨d, hd, td, dep, sz, kd⟩ := tv
    have room : d.shown.length ≤ sizeLine := Nat.le_trans (shown_len d td) (Nat.le_trans sz (by decide))
    have sh := tame_showable d td
    refine ⟨_, _, rfl, SqT.of ht, rfl, _, _, rfl, _, _, rfl, rfl, ?_⟩
    refine ⟨_, rfl, v, d, rfl, hd, sh, dep, room, ?_⟩
    -- found
    refine ⟨_, rfl, _, rfl, kd, ?_⟩
    refine ⟨_, rfl, _, rfl, kd, fun G9 s9 => ?_⟩
    refine ⟨_, rfl, _, rfl, m, v, rfl, kd.mono s9, (by show 3 ≤ sizeLine; decide), fun pf nf => ?_⟩
    have s10 : Same G' (upd G9 pf (.lst [.bl (wholeB v), .bl (speltB v), .bl (numB m v)])) := s9.trans (same_new nf)
    refine ⟨_, rfl, _, rfl, _, rfl, v, m, rfl, kd.mono s10, fun G11 po s11 hpo => ?_⟩
    have s12 := s10.trans s11
    have dp3 : ∀ {p : Addr}, G11 p = some (.lst [.bl (wholeB v), .bl (speltB v), .bl (numB m v)]) → Dp K G11 (.ref p) (.list [.bool (wholeB v), .bool (speltB v), .bool (numB m v)]) := fun h => .lst (SqL.of h) (.cons (.bl _) (.cons (.bl _) (.cons (.bl _) .nil)))
    refine ⟨_, _, _, rfl, dp3 (s11 _ _ upd_same), dp3 hpo, rfl, rfl, (by show max 0 (max 0 (max 0 0)) + 1 ≤ 60; decide), (by show 5 + 2 + (5 + 2 + (5 + 2 + 0)) + 3 ≤ _; decide), _, rfl, ?_⟩
    refine iteF ⟨_, rfl, v, d, rfl, hd.mono s12, sh, dep, room, _, rfl, Or.inl ⟨rfl, _, rfl, ?_⟩⟩
    exact iteNS rfl ⟨⟨_, _, _, _, rfl⟩, sm.trans s12⟩
  · rintro σ G' ⟨⟨o4, o5, o6, o7, rfl⟩, sm⟩
    exact q G'
end

end K12

namespace K12
open PySem PySem.Spec PyProof.Rows L2 VL
theorem all_mk {l : PySem.W.OpenLaw} {w : World} {K : PySem.W.Frag} {h : Heap} {mg : Str → Option Value} {fa : Addr} (X : K.In h) (G : h.Ns mainGlobals mg) (hfa : mg "law" = some (.ref fa))
    {f_is_integer : Addr} {od_is_integer an_is_integer : Option Addr} {sl_is_integer : Array (Option Value)} {oc_is_integer kV_is_integer dc_is_integer pm_is_integer cd_is_integer ct_is_integer : Value}
    {f_is_number : Addr} {od_is_number an_is_number : Option Addr} {sl_is_number : Array (Option Value)} {oc_is_number kV_is_number dc_is_number pm_is_number cd_is_number ct_is_number : Value}
    {f_is_name : Addr} {od_is_name an_is_name : Option Addr} {sl_is_name : Array (Option Value)} {oc_is_name kV_is_name dc_is_name pm_is_name cd_is_name ct_is_name : Value}
    {f_law_bag : Addr} {od_law_bag an_law_bag : Option Addr} {sl_law_bag : Array (Option Value)} {oc_law_bag kV_law_bag dc_law_bag pm_law_bag cd_law_bag ct_law_bag : Value}
    {f_law_take : Addr} {od_law_take an_law_take : Option Addr} {sl_law_take : Array (Option Value)} {oc_law_take kV_law_take dc_law_take pm_law_take cd_law_take ct_law_take : Value}
    {f_law_alike : Addr} {od_law_alike an_law_alike : Option Addr} {sl_law_alike : Array (Option Value)} {oc_law_alike kV_law_alike dc_law_alike pm_law_alike cd_law_alike ct_law_alike : Value}
    {f_law_labels : Addr} {od_law_labels an_law_labels : Option Addr} {sl_law_labels : Array (Option Value)} {oc_law_labels kV_law_labels dc_law_labels pm_law_labels cd_law_labels ct_law_labels : Value}
    {f_law_odd : Addr} {od_law_odd an_law_odd : Option Addr} {sl_law_odd : Array (Option Value)} {oc_law_odd kV_law_odd dc_law_odd pm_law_odd cd_law_odd ct_law_odd : Value}
    {f_law_own : Addr} {od_law_own an_law_own : Option Addr} {sl_law_own : Array (Option Value)} {oc_law_own kV_law_own dc_law_own pm_law_own cd_law_own ct_law_own : Value}
    {f_law : Addr} {od_law an_law : Option Addr} {sl_law : Array (Option Value)} {oc_law kV_law dc_law pm_law cd_law ct_law : Value}
    {t_LONGEST_NAME : Tok}
    (a_is_integer : PySem.W.nsIn K mainGlobals "is_integer" = some (some (.ref f_is_integer))) (l_is_integer : K.lookup f_is_integer = some ⟨oc_is_integer, od_is_integer, .func (PySem.W.fnOf "is_integer" "is_integer" (defArgs s_is_integer) (defBody s_is_integer) (defScope s_is_integer) .none kV_is_integer dc_is_integer pm_is_integer an_is_integer cd_is_integer ct_is_integer), sl_is_integer⟩)
    (c_is_integer : PySem.W.codeIn K cd_is_integer "is_integer" = true) (k_is_integer : PySem.W.keepIn K (.ref f_is_integer) = true)
    (a_is_number : PySem.W.nsIn K mainGlobals "is_number" = some (some (.ref f_is_number))) (l_is_number : K.lookup f_is_number = some ⟨oc_is_number, od_is_number, .func (PySem.W.fnOf "is_number" "is_number" (defArgs s_is_number) (defBody s_is_number) (defScope s_is_number) .none kV_is_number dc_is_number pm_is_number an_is_number cd_is_number ct_is_number), sl_is_number⟩)
    (c_is_number : PySem.W.codeIn K cd_is_number "is_number" = true) (k_is_number : PySem.W.keepIn K (.ref f_is_number) = true)
    (a_is_name : PySem.W.nsIn K mainGlobals "is_name" = some (some (.ref f_is_name))) (l_is_name : K.lookup f_is_name = some ⟨oc_is_name, od_is_name, .func (PySem.W.fnOf "is_name" "is_name" (defArgs s_is_name) (defBody s_is_name) (defScope s_is_name) .none kV_is_name dc_is_name pm_is_name an_is_name cd_is_name ct_is_name), sl_is_name⟩)
    (c_is_name : PySem.W.codeIn K cd_is_name "is_name" = true) (k_is_name : PySem.W.keepIn K (.ref f_is_name) = true)
    (a_law_bag : PySem.W.nsIn K mainGlobals "_law_bag" = some (some (.ref f_law_bag))) (l_law_bag : K.lookup f_law_bag = some ⟨oc_law_bag, od_law_bag, .func (PySem.W.fnOf "_law_bag" "_law_bag" (defArgs s_law_bag) (defBody s_law_bag) (defScope s_law_bag) .none kV_law_bag dc_law_bag pm_law_bag an_law_bag cd_law_bag ct_law_bag), sl_law_bag⟩)
    (c_law_bag : PySem.W.codeIn K cd_law_bag "_law_bag" = true) (k_law_bag : PySem.W.keepIn K (.ref f_law_bag) = true)
    (a_law_take : PySem.W.nsIn K mainGlobals "_law_take" = some (some (.ref f_law_take))) (l_law_take : K.lookup f_law_take = some ⟨oc_law_take, od_law_take, .func (PySem.W.fnOf "_law_take" "_law_take" (defArgs s_law_take) (defBody s_law_take) (defScope s_law_take) .none kV_law_take dc_law_take pm_law_take an_law_take cd_law_take ct_law_take), sl_law_take⟩)
    (c_law_take : PySem.W.codeIn K cd_law_take "_law_take" = true) (k_law_take : PySem.W.keepIn K (.ref f_law_take) = true)
    (a_law_alike : PySem.W.nsIn K mainGlobals "_law_alike" = some (some (.ref f_law_alike))) (l_law_alike : K.lookup f_law_alike = some ⟨oc_law_alike, od_law_alike, .func (PySem.W.fnOf "_law_alike" "_law_alike" (defArgs s_law_alike) (defBody s_law_alike) (defScope s_law_alike) .none kV_law_alike dc_law_alike pm_law_alike an_law_alike cd_law_alike ct_law_alike), sl_law_alike⟩)
    (c_law_alike : PySem.W.codeIn K cd_law_alike "_law_alike" = true) (k_law_alike : PySem.W.keepIn K (.ref f_law_alike) = true)
    (a_law_labels : PySem.W.nsIn K mainGlobals "_law_labels" = some (some (.ref f_law_labels))) (l_law_labels : K.lookup f_law_labels = some ⟨oc_law_labels, od_law_labels, .func (PySem.W.fnOf "_law_labels" "_law_labels" (defArgs s_law_labels) (defBody s_law_labels) (defScope s_law_labels) .none kV_law_labels dc_law_labels pm_law_labels an_law_labels cd_law_labels ct_law_labels), sl_law_labels⟩)
    (c_law_labels : PySem.W.codeIn K cd_law_labels "_law_labels" = true) (k_law_labels : PySem.W.keepIn K (.ref f_law_labels) = true)
    (a_law_odd : PySem.W.nsIn K mainGlobals "_law_odd" = some (some (.ref f_law_odd))) (l_law_odd : K.lookup f_law_odd = some ⟨oc_law_odd, od_law_odd, .func (PySem.W.fnOf "_law_odd" "_law_odd" (defArgs s_law_odd) (defBody s_law_odd) (defScope s_law_odd) .none kV_law_odd dc_law_odd pm_law_odd an_law_odd cd_law_odd ct_law_odd), sl_law_odd⟩)
    (c_law_odd : PySem.W.codeIn K cd_law_odd "_law_odd" = true) (k_law_odd : PySem.W.keepIn K (.ref f_law_odd) = true)
    (a_law_own : PySem.W.nsIn K mainGlobals "_law_own" = some (some (.ref f_law_own))) (l_law_own : K.lookup f_law_own = some ⟨oc_law_own, od_law_own, .func (PySem.W.fnOf "_law_own" "_law_own" (defArgs s_law_own) (defBody s_law_own) (defScope s_law_own) .none kV_law_own dc_law_own pm_law_own an_law_own cd_law_own ct_law_own), sl_law_own⟩)
    (c_law_own : PySem.W.codeIn K cd_law_own "_law_own" = true) (k_law_own : PySem.W.keepIn K (.ref f_law_own) = true)
    (a_law : PySem.W.nsIn K mainGlobals "law" = some (some (.ref f_law))) (l_law : K.lookup f_law = some ⟨oc_law, od_law, .func (PySem.W.fnOf "law" "law" (defArgs s_law) (defBody s_law) (defScope s_law) .none kV_law dc_law pm_law an_law cd_law ct_law), sl_law⟩)
    (c_law : PySem.W.codeIn K cd_law "law" = true) (k_law : PySem.W.keepIn K (.ref f_law) = true)
    (z_len : PySem.W.nsIn K mainGlobals "len" = some none)
    (z_int : PySem.W.nsIn K mainGlobals "int" = some none)
    (z_abs : PySem.W.nsIn K mainGlobals "abs" = some none)
    (z_repr : PySem.W.nsIn K mainGlobals "repr" = some none)
    (z_range : PySem.W.nsIn K mainGlobals "range" = some none)
    (z_isinstance : PySem.W.nsIn K mainGlobals "isinstance" = some none)
    (z_bool : PySem.W.nsIn K mainGlobals "bool" = some none)
    (z_str : PySem.W.nsIn K mainGlobals "str" = some none)
    (v_LONGEST_NAME : PySem.W.nsIn K mainGlobals "LONGEST_NAME" = some (some (.int 8 t_LONGEST_NAME)))
    : ∃ fd : FuncData, (∀ (s : Shared) (v : Value), BindsTo s fd ⟨[v], []⟩ [("_law_script", v)]) ∧ ∀ base : Heap, K.In base → base.Ns mainGlobals mg → FnG l.prog w K mg base CX0 3 fa fd ["_law_script"] (spLaw K) := by
  have e := hfa.symm.trans (PySem.W.mg_of X G a_law)
  cases e
  have F_is_integer := fun_mk (st := s_is_integer) l_is_integer c_is_integer k_is_integer
  have b_is_integer := F_is_integer.binds (ps := ["thing"]) (fun _ _ _ _ _ _ us hl => match us, hl with | [_], _ => rfl)
  have mg_is_integer := PySem.W.mg_of X G a_is_integer
  have F_is_number := fun_mk (st := s_is_number) l_is_number c_is_number k_is_number
  have b_is_number := F_is_number.binds (ps := ["many", "thing"]) (fun _ _ _ _ _ _ us hl => match us, hl with | [_, _], _ => rfl)
  have mg_is_number := PySem.W.mg_of X G a_is_number
  have F_is_name := fun_mk (st := s_is_name) l_is_name c_is_name k_is_name
  have b_is_name := F_is_name.binds (ps := ["thing"]) (fun _ _ _ _ _ _ us hl => match us, hl with | [_], _ => rfl)
  have mg_is_name := PySem.W.mg_of X G a_is_name
  have F_law_bag := fun_mk (st := s_law_bag) l_law_bag c_law_bag k_law_bag
  have b_law_bag := F_law_bag.binds (ps := ["_law_script"]) (fun _ _ _ _ _ _ us hl => match us, hl with | [_], _ => rfl)
  have mg_law_bag := PySem.W.mg_of X G a_law_bag
  have F_law_take := fun_mk (st := s_law_take) l_law_take c_law_take k_law_take
  have b_law_take := F_law_take.binds (ps := ["_law_bag_here", "_law_many"]) (fun _ _ _ _ _ _ us hl => match us, hl with | [_, _], _ => rfl)
  have mg_law_take := PySem.W.mg_of X G a_law_take
  have F_law_alike := fun_mk (st := s_law_alike) l_law_alike c_law_alike k_law_alike
  have b_law_alike := F_law_alike.binds (ps := ["_law_found", "_law_due"]) (fun _ _ _ _ _ _ us hl => match us, hl with | [_, _], _ => rfl)
  have mg_law_alike := PySem.W.mg_of X G a_law_alike
  have F_law_labels := fun_mk (st := s_law_labels) l_law_labels c_law_labels k_law_labels
  have b_law_labels := F_law_labels.binds (ps := ["_law_bag_here", "_law_many"]) (fun _ _ _ _ _ _ us hl => match us, hl with | [_, _], _ => rfl)
  have mg_law_labels := PySem.W.mg_of X G a_law_labels
  have F_law_odd := fun_mk (st := s_law_odd) l_law_odd c_law_odd k_law_odd
  have b_law_odd := F_law_odd.binds (ps := ["_law_bag_here", "_law_label"]) (fun _ _ _ _ _ _ us hl => match us, hl with | [_, _], _ => rfl)
  have mg_law_odd := PySem.W.mg_of X G a_law_odd
  have F_law_own := fun_mk (st := s_law_own) l_law_own c_law_own k_law_own
  have b_law_own := F_law_own.binds (ps := ["_law_thing", "_law_many"]) (fun _ _ _ _ _ _ us hl => match us, hl with | [_, _], _ => rfl)
  have mg_law_own := PySem.W.mg_of X G a_law_own
  have F_law := fun_mk (st := s_law) l_law c_law k_law
  have b_law := F_law.binds (ps := ["_law_script"]) (fun _ _ _ _ _ _ us hl => match us, hl with | [_], _ => rfl)
  have mg_law := PySem.W.mg_of X G a_law
  have m_len := PySem.W.mg_none_of X G z_len
  have m_int := PySem.W.mg_none_of X G z_int
  have m_abs := PySem.W.mg_none_of X G z_abs
  have m_repr := PySem.W.mg_none_of X G z_repr
  have m_range := PySem.W.mg_none_of X G z_range
  have m_isinstance := PySem.W.mg_none_of X G z_isinstance
  have m_bool := PySem.W.mg_none_of X G z_bool
  have m_str := PySem.W.mg_none_of X G z_str
  have g_LONGEST_NAME : ∃ u, mg "LONGEST_NAME" = some u ∧ RelV (.int 8) u := ⟨_, PySem.W.mg_of X G v_LONGEST_NAME, ⟨_, rfl⟩⟩
  refine ⟨PySem.W.fnOf "law" "law" (defArgs s_law) (defBody s_law) (defScope s_law) .none kV_law dc_law pm_law an_law cd_law ct_law, fun s v => .of_eq rfl, fun base _ _ => ?_⟩
  have cal_is_integer : ∀ {k : Nat} {sp : Sp}, FnOk l.prog w K mg base CX0 k f_is_integer _ ["thing"] sp → C8.Cal l.prog w K mg base k "is_integer" sp [] := fun h => ⟨⟨_, _, _, [], h, mg_is_integer, k_is_integer, b_is_integer, .nil⟩⟩
  have cal_is_number : ∀ {k : Nat} {sp : Sp}, FnOk l.prog w K mg base CX0 k f_is_number _ ["many", "thing"] sp → C8.Cal l.prog w K mg base k "is_number" sp [] := fun h => ⟨⟨_, _, _, [], h, mg_is_number, k_is_number, b_is_number, .nil⟩⟩
  have cal_is_name : ∀ {k : Nat} {sp : Sp}, FnOk l.prog w K mg base CX0 k f_is_name _ ["thing"] sp → C8.Cal l.prog w K mg base k "is_name" sp [] := fun h => ⟨⟨_, _, _, [], h, mg_is_name, k_is_name, b_is_name, .nil⟩⟩
  have cal_law_bag : ∀ {k : Nat} {sp : Sp}, FnOk l.prog w K mg base CX0 k f_law_bag _ ["_law_script"] sp → C8.Cal l.prog w K mg base k "_law_bag" sp [] := fun h => ⟨⟨_, _, _, [], h, mg_law_bag, k_law_bag, b_law_bag, .nil⟩⟩
  have cal_law_take : ∀ {k : Nat} {sp : Sp}, FnOk l.prog w K mg base CX0 k f_law_take _ ["_law_bag_here", "_law_many"] sp → C8.Cal l.prog w K mg base k "_law_take" sp [] := fun h => ⟨⟨_, _, _, [], h, mg_law_take, k_law_take, b_law_take, .nil⟩⟩
  have cal_law_alike : ∀ {k : Nat} {sp : Sp}, FnOk l.prog w K mg base CX0 k f_law_alike _ ["_law_found", "_law_due"] sp → C8.Cal l.prog w K mg base k "_law_alike" sp [] := fun h => ⟨⟨_, _, _, [], h, mg_law_alike, k_law_alike, b_law_alike, .nil⟩⟩
  have calG_law_alike : ∀ {k : Nat} {sp : Sp}, FnG l.prog w K mg base CX0 k f_law_alike _ ["_law_found", "_law_due"] sp → CalG l.prog w K mg base k "_law_alike" sp [] := fun h => ⟨⟨_, _, _, [], h, mg_law_alike, k_law_alike, b_law_alike, .nil⟩⟩
  have cal_law_labels : ∀ {k : Nat} {sp : Sp}, FnOk l.prog w K mg base CX0 k f_law_labels _ ["_law_bag_here", "_law_many"] sp → C8.Cal l.prog w K mg base k "_law_labels" sp [] := fun h => ⟨⟨_, _, _, [], h, mg_law_labels, k_law_labels, b_law_labels, .nil⟩⟩
  have cal_law_odd : ∀ {k : Nat} {sp : Sp}, FnOk l.prog w K mg base CX0 k f_law_odd _ ["_law_bag_here", "_law_label"] sp → C8.Cal l.prog w K mg base k "_law_odd" sp [] := fun h => ⟨⟨_, _, _, [], h, mg_law_odd, k_law_odd, b_law_odd, .nil⟩⟩
  have cal_law_own : ∀ {k : Nat} {sp : Sp}, FnOk l.prog w K mg base CX0 k f_law_own _ ["_law_thing", "_law_many"] sp → C8.Cal l.prog w K mg base k "_law_own" sp [] := fun h => ⟨⟨_, _, _, [], h, mg_law_own, k_law_own, b_law_own, .nil⟩⟩
  have take := cal_law_take (ok_take F_law_take m_len m_int)
  have int := cal_is_integer (ok_int F_is_integer m_isinstance m_int m_bool)
  exact ok_law F_law (cal_law_bag (ok_bag F_law_bag m_abs)) (cal_law_labels (ok_labels F_law_labels take m_len m_int m_range)) take (cal_law_odd (ok_odd F_law_odd take m_len)) int (cal_is_name (ok_name F_is_name m_isinstance m_str m_len g_LONGEST_NAME)) (cal_is_number (ok_num F_is_number int)) (calG_law_alike (ok_alike F_law_alike m_repr)) (cal_law_own (ok_own F_law_own m_isinstance m_str m_int m_len)) m_range m_repr

end K12
open PySem PySem.W PyProof.Rows
set_option maxRecDepth 100000 in
set_option maxHeartbeats 0 in
theorem PySem.Challenge.cw_landedback_k12_kinds_known_holds : PySem.Challenge.rw_landedback_k12_kinds_known.Holds := by
  w_on; o_law; k_head; (case hw => w_witness2)
  k_fill
  refine VL.walkG (l := PySem.Challenge.rw_landedback_k12_kinds_known) (k := 3) (x := "_law_script") (sp := K12.spLaw) rfl (by decide) rfl ⟨rfl, by decide, by decide⟩ (fun w h Y => PySem.W.kIn_of Y) ?F (fun K H a ns h1 h2 h3 => ⟨a, ns, rfl, h3, h1, fun _ => rfl⟩)
  case F =>
    intro w mg fa h KX G hmg
    refine' K12.all_mk KX G hmg ?a_is_integer ?l_is_integer ?c_is_integer ?k_is_integer ?a_is_number ?l_is_number ?c_is_number ?k_is_number ?a_is_name ?l_is_name ?c_is_name ?k_is_name ?a_law_bag ?l_law_bag ?c_law_bag ?k_law_bag ?a_law_take ?l_law_take ?c_law_take ?k_law_take ?a_law_alike ?l_law_alike ?c_law_alike ?k_law_alike ?a_law_labels ?l_law_labels ?c_law_labels ?k_law_labels ?a_law_odd ?l_law_odd ?c_law_odd ?k_law_odd ?a_law_own ?l_law_own ?c_law_own ?k_law_own ?a_law ?l_law ?c_law ?k_law ?z_len ?z_int ?z_abs ?z_repr ?z_range ?z_isinstance ?z_bool ?z_str ?v_LONGEST_NAME
    (case a_is_integer => k_is); (case l_is_integer => k_is); (case c_is_integer => k_is); (case k_is_integer => k_is)
    (case a_is_number => k_is); (case l_is_number => k_is); (case c_is_number => k_is); (case k_is_number => k_is)
    (case a_is_name => k_is); (case l_is_name => k_is); (case c_is_name => k_is); (case k_is_name => k_is)
    (case a_law_bag => k_is); (case l_law_bag => k_is); (case c_law_bag => k_is); (case k_law_bag => k_is)
    (case a_law_take => k_is); (case l_law_take => k_is); (case c_law_take => k_is); (case k_law_take => k_is)
    (case a_law_alike => k_is); (case l_law_alike => k_is); (case c_law_alike => k_is); (case k_law_alike => k_is)
    (case a_law_labels => k_is); (case l_law_labels => k_is); (case c_law_labels => k_is); (case k_law_labels => k_is)
    (case a_law_odd => k_is); (case l_law_odd => k_is); (case c_law_odd => k_is); (case k_law_odd => k_is)
    (case a_law_own => k_is); (case l_law_own => k_is); (case c_law_own => k_is); (case k_law_own => k_is)
    (case a_law => k_is); (case l_law => k_is); (case c_law => k_is); (case k_law => k_is)
    (case z_len => k_is); (case z_int => k_is); (case z_abs => k_is); (case z_repr => k_is)
    (case z_range => k_is); (case z_isinstance => k_is); (case z_bool => k_is); (case z_str => k_is)
    (case v_LONGEST_NAME => k_is)

