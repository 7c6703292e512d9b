
import PyProof.Rows.All
import Wide.All
import OpenK.AllK
import Wide.FinOn
import PyProof.ReprRoads
import HandS.ForMost
import HandS.IsInst
import HandS.Wide
import HandS.WideBits
import HandS.Conv
import HandS.Style
import HandS.Flow
import HandS.Walk
import HandS.Zip
import HandS.Deep
import KE.SortData
import KE.OsSetLaws
import HandS.RepeatKit
import HandS.Sort
import HandS.NoneIn
import HandS.SortInts
import HandS.TryOnly
import KE.OsSort
import HandS.ExcValue
import HandS.ExcIs
import HandS.ExcField
import HandS.ExcInit
import KE.KExcIs
import HandS.Defaults
import HandS.WordsExc
import HandS.Text
import HandS.DictComp
import HandS.SortRule
import KE.KMathG
import HandS.Gcd
import HandS.Lambda
import HandS.EndTab
import KE.KNestM
import PySem.Challenge.RW_twinties_k56_programs_refused
set_option Elab.async false
set_option linter.all false
set_option maxRecDepth 100000
set_option maxHeartbeats 4000000
/-! Defs whose promise is told where no guard of a repr stands around: a def that asks repr of a list holds its promise there alone. -/
namespace GL
open PySem PySem.Spec PyProof.Rows L2

/-- a def's promise, told of calls around which no repr is under way -/
structure FnG (P : Program) (w : World) (K : PySem.W.Frag) (mg : Str → Option Value) (base : Heap) (CX : CXT) (k : Nat) (f : Addr) (fd : FuncData) (ps : List Str) (sp : Sp) : Prop where
  many : ∀ vs H Q E, sp vs H Q E → vs.length = ps.length
  goes : ∀ (A : Around) (outer : List Env) (s : Shared) (H : Hp) (args : Args) (us : List Value) (vs : List V) (Q : VK) (E : XK), A.guards = some [] → Room k A →
    Env0 P w K mg base A outer s H → BindsTo s fd args (ps.zip us) → Vals vs us → sp vs H Q E → codeAny (model P w) A (.call (.ref f) args) (CR CX outer P w H s Q E) s

section
variable {P : Program} {w : World} {K : PySem.W.Frag} {mg : Str → Option Value} {base : Heap} {CX : CXT} {k : Nat} {f : Addr} {fd : FuncData} {ps : List Str} {sp : Sp}
end

section
variable {P : Program} {w : World} {K : PySem.W.Frag} {mg : Str → Option Value} {base : Heap}
/-- the body's walk gives the promise -/
theorem FnG.mk' {x qual : Str} {st : Stmt} {f : Addr} {fd : FuncData} {N ps : List Str} {k : Nat} {sp : Sp} (F : Fun K x qual st f fd) (S : FnScope N ps (defScope st)) (many : ∀ vs H Q E, sp vs H Q E → vs.length = ps.length)
    (walk : ∀ (cdv : Value) (A : Around) (outer : List Env) (s : Shared) (H : Hp) (vs : List V) (Q : VK) (E : XK), A.guards = some [] → Room k (A.deeper (envOfC qual (defScope st) s.heap.objs.size f cdv)) → sp vs H Q E →
      ∃ t, PSs (cxOf CX0 P w K mg base N qual (defScope st) f cdv A outer s H E).nox (defBody st) t ∧ t { nx := fun _ H' => Q .non H', rt := Q } (start N vs) H) : FnG P w K mg base CX0 (k + 1) f fd ps sp := by
  obtain ⟨oc, od, kV, doc, pm, an, cdv, ct, osl, efd, lk, hcd⟩ := F.ex
  subst efd
  refine ⟨many, ?_⟩
  intro A outer s H args us vs Q E hg hr e0 hb rv hsp
  have cnt := many _ _ _ _ hsp
  have up : ∀ b o, base.get? b = some o → s.heap.get? b = some o := fun b o e => (e0.bs b o e).1
  have inK : K.In s.heap := e0.mod.kin.keeps up
  have kinds : ∀ y ∈ ps.zip us, (defScope st).names.lookup y.1 = some .local ∨ ((defScope st).names.lookup y.1 = some .cell ∧ ((cellsFrom (s.heap.objs.size + 1) (defScope st).names []).lookup y.1).isSome = true) := by
    rintro ⟨n, v⟩ hy
    exact (S.par n (List.of_mem_zip hy).1).elim (fun q => .inl q) fun q => .inr ⟨q, PySem.W.cellsFrom_some _ _ _ (.inl q)⟩
  refine codeAny_call_function hr.depth (inK _ _ lk) rfl S.co S.gen rfl (PySem.W.codeRec_of inK hcd) (hb _ _ _ _ (wpAny_newFunctionEnv_cells S.kind kinds fun env he s1 x => ?_))
  subst he
  refine ⟨(e0.mod.nolimit.keeps up).keeps x.toInCall.keep, codeAny_func ?_⟩
  obtain ⟨t, ht, hq⟩ := walk cdv A outer s H vs Q E hg (hr.deeper _) hsp
  refine wpAny_mono (ht.nox.run [] s1 (start N vs) H _ (inv_start S hr.hd e0 cnt rv x) hq) (fun fl s' hs => ?_) fun e s' hs => hs
  cases fl with
  | next => exact let ⟨σ', H', J, q⟩ := hs; ⟨V.non, H', J.os, J.bare, J.base, J.hok, rfl, q⟩
  | ret u => exact let ⟨v, σ', H', J, rr, q⟩ := hs; ⟨v, H', J.os, J.bare, J.base, J.hok, rr, q⟩
  | brk => obtain ⟨σ', H', J, q⟩ := hs; exact q.elim
  | cont => obtain ⟨σ', H', J, q⟩ := hs; exact q.elim
end
end GL

namespace GL
open PySem PySem.Spec PyProof.Rows L2
open L2 (Room)
/-! ### a call of such a def from a body around which no guard stands -/
section
variable {X : Cx} {CX : CXT} {k : Nat} {f : Addr} {fd : FuncData} {ps : List Str} {sp : Sp} {ds : List Value} {dvs : List V} {E : XK} {x : Str} {e : Expr} {es : List Expr} {t : TA} {p pos : Pos}
theorem FnG.used {pins : List (Addr × Obj)} {σ : L2.St} {H : Hp} {s : Shared} {Q : VK} {us : List Value} {vs : List V} (F : FnG X.prog X.w X.K X.mg X.base CX k f fd ps sp) (hg : X.A.guards = some []) (hr : Room k X.A) (hb : Binds X.K fd ps ds)
    (hd : Vals dvs ds) (hx : Passes CX X E) (I : Inv X pins σ H s) (r : Vals vs us) (h : sp (vs ++ dvs) H Q E) : wpAny (model X.prog X.w) X.A (call (.ref f) us) (EP X pins σ Q) X.xe s := by
  have both : Vals (vs ++ dvs) (us ++ ds) := r.append hd
  have cnt : (us ++ ds).length = ps.length := (both.length).symm.trans (F.many _ _ _ _ h)
  refine wpAny_call (codeAny_mono (F.goes X.A X.stack s H ⟨us, []⟩ (us ++ ds) (vs ++ dvs) Q E hg hr I.env0 (hb s us I.kIn cnt) both h) ?_)
  rintro (er | fl) s' q
  · exact hx pins σ H s er s' I q
  · match fl, q with
    | .ret u, q => exact I.after q
theorem pe_callG (F : FnG X.prog X.w X.K X.mg X.base CX k f fd ps sp) (hgd : X.A.guards = some []) (hr : Room k X.A) (hg : Gl X x) (hm : X.mg x = some (.ref f)) (hk : PySem.W.keepIn X.K (.ref f) = true) (hb : Binds X.K fd ps ds) (hd : Vals dvs ds) (hx : Passes CX X E)
    (ha : PA X (e :: es) t) (hdb : (x == ("__debug__" : Str)) = false := by decide) (he : starEach (e :: es) X.env = (false, eval e X.env) :: starEach es X.env := by rfl) (hpl : (backTo pos (starEach es X.env)).any (·.1) = false := by rfl) :
    PE X (.Call (.Name x p) (e :: es) [] pos) (tCall sp dvs E t) :=
  ⟨fun pins s σ H Q I h => wpAny_Call_Name_kw (ld_glob I hg hm (PySem.W.callWith_K (h₀ := X.base) I.ok.mod.kin hk (thn (ha.run pos pins s σ H _ I h) fun us s1 hh => by
    obtain ⟨vs, H1, I1, r, q⟩ := hh
    exact ⟨I1.kIn, F.used hgd hr hb hd hx I1 r q⟩) he hpl) hdb)⟩
end
/-! ### the end -/
theorem law_callG {P : Program} {w : World} {K : PySem.W.Frag} {mg mb : Str → Option Value} {k : Nat} {fa a : Addr} {fd : FuncData} {x : Str} {sp : Sp} {s₁ : Shared} {vs : List Value} {ns : List Int}
    (KX : K.In s₁.heap) (hns : s₁.heap.Ns mainGlobals mg) (hb : s₁.heap.Ns builtinsNs mb) (hbb : ∀ x : Str, x ≠ "__name__" → mb x = bootBuiltins x) (hlim : s₁.heap.NoLimit) (hgen : s₁.gens = #[])
    (ha : s₁.heap.get? a = some { cls := .type "list", data := .seq vs.toArray }) (hi : IntsAre vs ns) (hl : ns.length ≤ sizeLine) (hr : Room k callerA)
    (F : ∀ base : Heap, K.In base → base.Ns mainGlobals mg → FnG P w K mg base CX0 k fa fd [x] sp) (hbind : ∀ (s : Shared) (u : Value), BindsTo s fd ⟨[u], []⟩ [(x, u)])
    (hsp : ∀ H : Hp, Only H → SqL K H a (ns.map V.int) → sp [.ref a] H (fun v _ => v = .bl true) fun _ _ _ => False) :
    codeAny (model P w) callerA (.call (.ref fa) ⟨[.ref a], []⟩) (fun r s' => r = .ok (.ret (.bool true)) ∧ OldK s₁.heap s'.heap ∧ s'.os = s₁.os ∧ AllBare s'.gens) s₁ := by
  have vals := vals_ints hi
  have cnt := hi.length
  -- whichever heap of tracked things holds the script alone
  suffices main : ∀ H : Hp, Only H → SqL K H a (ns.map V.int) → HOk P w H s₁.heap → (∀ b, H b ≠ none → b = a ∧ K.lookup a = none) →
      codeAny (model P w) callerA (.call (.ref fa) ⟨[.ref a], []⟩) (fun r s' => r = .ok (.ret (.bool true)) ∧ OldK s₁.heap s'.heap ∧ s'.os = s₁.os ∧ AllBare s'.gens) s₁ by
    by_cases hk : ∃ o, K.lookup a = some o
    · obtain ⟨o, hk⟩ := hk
      have eo : o = { cls := .type "list", data := .seq vs.toArray } := Option.some.inj ((KX a o hk).symm.trans ha)
      subst eo
      exact main (fun _ => none) (fun _ => Or.inl rfl) (Or.inr ⟨_, vs.toArray, _, hk, rfl, rfl, rfl, by rw [List.size_toArray, cnt]; exact hl, by simpa using vals⟩) (fun b u z => nomatch (show (none : Option HO) = some u from z)) fun b z => (z rfl).elim
    · have hk0 : K.lookup a = none := by
        cases q : K.lookup a with
        | none => rfl
        | some o => exact (hk ⟨o, q⟩).elim
      refine main (fun b => if b = a then some (.frz { cls := .type "list", data := .seq vs.toArray } (.lst (ns.map V.int))) else none) ?_ (Or.inl (Or.inr ⟨_, if_pos rfl⟩)) ?_ ?_
      · intro b
        by_cases e : b = a
        · exact Or.inr ⟨_, _, if_pos e⟩
        · exact Or.inl (if_neg e)
      · intro b u z
        by_cases e : b = a
        · subst e
          have z' := Option.some.inj ((if_pos rfl).symm.trans z)
          subst z'
          exact ⟨ha, by rw [List.length_map]; exact hl, vs, _, vals, ha⟩
        · exact nomatch ((if_neg e).symm.trans z : (none : Option HO) = some u)
      · intro b z
        by_cases e : b = a
        · exact ⟨e, hk0⟩
        · exact (z (if_neg e)).elim
  intro H hO hS hok hA
  have free : ∀ {b : Addr} {o : Obj} {es : Array DictEntry} {ep : Nat}, s₁.heap.get? b = some o → o.data = .dict es ep → H b = none := by
    intro b o es ep e d
    cases q : H b with
    | none => rfl
    | some u =>
      have eb := (hA b (by rw [q]; exact fun z => nomatch z)).1
      subst eb
      have eo := Option.some.inj (ha.symm.trans e)
      subst eo
      exact nomatch (show Data.seq vs.toArray _ = Data.dict es ep from d)
  have space : ∀ {b : Addr} {m : Str → Option Value}, s₁.heap.Ns b m → (hidT s₁.heap H).Ns b m := by
    rintro b m ⟨o, es, ep, e, d, r⟩
    exact ⟨o, es, ep, hidT_get e (free e d), d, r⟩
  have inB : K.In (hidT s₁.heap H) := by
    intro b o e
    refine hidT_get (KX b o e) ?_
    cases q : H b with
    | none => rfl
    | some u =>
      obtain ⟨eb, n⟩ := hA b (by rw [q]; exact fun z => nomatch z)
      subst eb
      exact nomatch (n.symm.trans e)
  have md : Mod K mg (hidT s₁.heap H) := ⟨inB, space hns, ⟨mb, space hb, hbb⟩, by obtain ⟨mc, h1, h2⟩ := hlim; exact ⟨mc, space h1, h2⟩⟩
  have en : Env0 P w K mg (hidT s₁.heap H) callerA [] s₁ H :=
    { frames := rfl, mod := md, bs := fun b o e => of_hidT e, bsz := Nat.le_of_eq (hidT_size _ _), funs := trivial, frf := fun b z => (List.not_mem_nil z).elim, hok := hok, bare := .of_eq hgen }
  refine codeAny_mono ((F _ inB (space hns)).goes callerA [] s₁ H ⟨[.ref a], []⟩ [.ref a] [.ref a] _ _ rfl hr en (hbind s₁ (.ref a)) (.cons rfl .nil) (hsp H hO hS)) ?_
  rintro (er | fl) s' h
  · exact (show False from h).elim
  · match fl, h with
    | .ret u, h =>
      obtain ⟨v, H', os, bare, un, hok', rr, q⟩ := h
      have ev : v = .bl true := q
      subst ev
      have eu : u = Value.bool true := rr
      subst eu
      refine ⟨rfl, OldK.of_keep ?_, os, bare⟩
      intro b o e
      rcases hO b with z | ⟨ob, xs, z⟩
      · exact un.keep b o e z (fun z => (List.not_mem_nil z).elim) (fun z => (List.not_mem_nil z).elim)
      · have e1 := (hok b _ z).1
        have e2 := (hok' b _ (un.frzs b ob _ z)).1
        exact e2.trans (e1.symm.trans e)
theorem walk_ofG {l : PySem.W.OpenLaw} {n k : Nat} {q : Program} {loose : List Str} {XP : (Str → Option Value) → Heap → Prop} {YP : World → Heap → Prop} {d : DefRec} {K : Params → PySem.W.Frag} {sp : PySem.W.Frag → Sp} {x : Str}
    (hn : l.most = some n) (hn2 : n ≤ sizeLine) (hdf : d.params.defaults = []) (hr : Room k callerA) (hY : ∀ (w : World) (h : Heap), YP w h → (K w.params).In h)
    (F : ∀ (w : World) (mg : Str → Option Value) (fa : Addr) (h : Heap), (K w.params).In h → h.Ns mainGlobals mg → mg d.name = some (.ref fa) →
      ∃ fd : FuncData, (∀ (s : Shared) (u : Value), BindsTo s fd ⟨[u], []⟩ [(x, u)]) ∧ ∀ base : Heap, (K w.params).In base → base.Ns mainGlobals mg → FnG l.prog w (K w.params) mg base CX0 k fa fd [x] (sp (K w.params)))
    (hsp : ∀ (K : PySem.W.Frag) (H : Hp) (a : Addr) (ns : List Int), ns.length ≤ n → Only H → SqL K H a (ns.map V.int) → sp K [.ref a] H (fun v _ => v = .bl true) fun _ _ _ => False) :
    PySem.W.WalkO q loose XP YP l.row.toRowW d [] (fun f vs => PySem.call f vs) := by
  refine Att.attach_call hn hdf ?_
  intro w s₀ s₁ mg mb fa o pm cd doc a vs ns G Y ho hd hcd hmg hobj hints hlen hgen
  obtain ⟨fd, hb, hF⟩ := F w mg fa _ (hY w _ Y) G.T.g hmg
  exact law_callG (hY w _ Y) G.T.g G.T.b G.T.builtins G.T.nolimit hgen hobj hints (Nat.le_trans hlen hn2) hr hF hb fun H hO hS => hsp _ H a ns hlen hO hS

/-! ### data -/
mutual
/-- x stands for the datum d: lists, tuples, empty dicts -/
inductive Dt (K : PySem.W.Frag) (H : Hp) : V → PyData → Prop
  | non : Dt K H .non .none
  | bl (b : Bool) : Dt K H (.bl b) (.bool b)
  | int (i : Int) : Dt K H (.int i) (.int i)
  | str (x : Str) : Dt K H (.str x) (.str x)
  | lst {a : Addr} {xs : List V} {ds : List PyData} : H a = some (.lst xs) → Dts K H xs ds → Dt K H (.ref a) (.list ds)
  | tup {a : Addr} {xs : List V} {ds : List PyData} : H a = some (.tup xs) → Dts K H xs ds → Dt K H (.ref a) (.tuple ds)
  | dct {a : Addr} : H a = some (.dK []) → Dt K H (.ref a) (.dict [])
inductive Dts (K : PySem.W.Frag) (H : Hp) : List V → List PyData → Prop
  | nil : Dts K H [] []
  | cons {v : V} {vs : List V} {d : PyData} {ds : List PyData} : Dt K H v d → Dts K H vs ds → Dts K H (v :: vs) (d :: ds)
end
section
variable {X : Cx} {pins : List (Addr × Obj)} {σ : L2.St} {H : Hp} {s : Shared}
theorem Dt.obL {K : PySem.W.Frag} {a : Addr} {xs : List V} (I : Inv X pins σ H s) (h : H a = some (.lst xs)) : ∃ (its : List Value) (n : Nat), Vals xs its ∧ s.heap.get? a = some { cls := .type "list", data := .seq its.toArray n } :=
  let ⟨_, its, n, rv, ho⟩ := (show ObjOk X.prog X.w H s.heap a (.lst xs) from I.hok _ _ h)
  ⟨its, n, rv, ho⟩
theorem Dt.obT {a : Addr} {xs : List V} (I : Inv X pins σ H s) (h : H a = some (.tup xs)) : ∃ (its : List Value) (o : Obj) (n : Nat), Vals xs its ∧ s.heap.get? a = some o ∧ o.cls = .type "tuple" ∧ o.data = .seq its.toArray n :=
  let ⟨_, its, rv, o, h1, h2, n, h3⟩ := (show ObjOk X.prog X.w H s.heap a (.tup xs) from I.hok _ _ h)
  ⟨its, o, n, rv, h1, h2, h3⟩
theorem Dt.obD {a : Addr} (I : Inv X pins σ H s) (h : H a = some (.dK [])) : ∃ (o : Obj) (n : Nat), s.heap.get? a = some o ∧ o.cls = .type "dict" ∧ o.data = .dict #[] n ∧ (a == sysModules) = false := by
  obtain ⟨_, hsys, vs, hv, o, es, ep, h1, h2, h3, _, h4, _⟩ := (show ObjOk X.prog X.w H s.heap a (.dK []) from I.hok _ _ h)
  cases hv
  have e : es = #[] := by
    cases es with
    | mk l => 
      have z : l = [] := by
        cases h4
        rfl
      rw [z]
  subst e
  exact ⟨o, ep, h1, h2.1, h3, hsys⟩
mutual
theorem Dt.reads (I : Inv X pins σ H s) : ∀ (d : PyData) (v : V) (u : Value), Dt X.K H v d → RelV v u → ∃ as, Reads s.heap u d as
  | .none, _, _, h, r => by
    cases h
    cases r
    exact ⟨_, .none⟩
  | .bool b, _, _, h, r => by
    cases h
    cases r
    exact ⟨_, .bool b⟩
  | .int i, _, _, h, r => by
    cases h
    obtain ⟨t, rfl⟩ := r
    exact ⟨_, .int i t⟩
  | .str x, _, _, h, r => by
    cases h
    obtain ⟨t, rfl⟩ := r
    exact ⟨_, .str x t⟩
  | .list ds, v, _, h, r => by
    cases h with
    | lst hs ha =>
      cases r
      obtain ⟨its, n, rv, ho⟩ := Dt.obL (K := X.K) I hs
      obtain ⟨as, hr⟩ := Dt.readsAll I ds _ its ha rv
      exact ⟨_, .list ho rfl rfl hr⟩
  | .tuple ds, _, _, h, r => by
    cases h with
    | tup hs ha =>
      cases r
      obtain ⟨its, o, n, rv, h1, h2, h3⟩ := Dt.obT I hs
      obtain ⟨as, hr⟩ := Dt.readsAll I ds _ its ha rv
      exact ⟨_, .tuple h1 h2 h3 hr⟩
  | .dict kvs, _, _, h, r => by
    cases h with
    | dct hs =>
      cases r
      obtain ⟨o, n, h1, h2, h3, _⟩ := Dt.obD I hs
      exact ⟨_, .dict h1 h2 h3 .nil .nil⟩
theorem Dt.readsAll (I : Inv X pins σ H s) : ∀ (ds : List PyData) (vs : List V) (us : List Value), Dts X.K H vs ds → Vals vs us → ∃ as, ReadsAll s.heap us ds as
  | [], _, _, h, r => by
    cases h
    cases r
    exact ⟨_, .nil⟩
  | d :: ds, _, _, h, r => by
    cases h with
    | cons h1 h2 =>
      cases r with
      | cons r1 r2 =>
        obtain ⟨as, q1⟩ := Dt.reads I d _ _ h1 r1
        obtain ⟨bs, q2⟩ := Dt.readsAll I ds _ _ h2 r2
        exact ⟨_, .cons q1 q2⟩
end
mutual
theorem Dt.rep (I : Inv X pins σ H s) : ∀ (d : PyData) (v : V) (u : Value), Dt X.K H v d → RelV v u → d.showable = true → d.shown.length ≤ sizeLine → ∃ bs, ReadAtMost s.heap d.depth bs ∧ ReprK X.prog X.w bs s.heap d.depth u d.shown
  | .none, _, _, h, r, _, _ => by
    cases h
    cases r
    exact ⟨[], (fun _ z => nomatch z), by simp only [PyData.shown]; exact .of_is ReprIs.none _ _ _⟩
  | .bool b, _, _, h, r, _, _ => by
    cases h
    cases r
    exact ⟨[], (fun _ z => nomatch z), by simp only [PyData.shown]; exact .of_is (ReprIs.bool b) _ _ _⟩
  | .int i, _, _, h, r, hs, _ => by
    cases h
    obtain ⟨t, rfl⟩ := r
    exact ⟨[], (fun _ z => nomatch z), by simp only [PyData.shown]; exact .of_is (ReprIs.int t (by simpa [PyData.showable] using hs)) _ _ _⟩
  | .str x, _, _, h, r, _, hz => by
    cases h
    obtain ⟨t, rfl⟩ := r
    exact ⟨[], (fun _ z => nomatch z), by simp only [PyData.shown]; exact .of_is (ReprIs.str x t (by simpa only [PyData.shown] using hz)) _ _ _⟩
  | .list ds, v, u, h, r, hs, hz => by
    obtain ⟨as0, whole⟩ := Dt.reads I (.list ds) v u h r
    have hz' : (listText (PyData.shownAll ds)).length ≤ sizeLine := by simpa only [PyData.shown] using hz
    cases h with
    | lst hh ha =>
      cases r
      obtain ⟨its, n, rv, ho⟩ := Dt.obL (K := X.K) I hh
      obtain ⟨bs, hb, hk⟩ := Dt.repAll I ds _ its ha rv (by simpa [PyData.showable] using hs) fun t ht => Nat.le_trans (listText_mem_le ht) hz'
      have out := not_mem_of_deeper whole (n := PyData.depthAll ds) (by simp only [PyData.depth]; omega) hb
      refine ⟨_ :: bs, ReadAtMost.cons whole (by simp only [PyData.depth]; omega) hb, ?_⟩
      simp only [PyData.depth, PyData.shown]
      cases its with
      | nil =>
        cases rv
        cases ha
        simp only [PyData.shownAll, listText_nil]
        exact ReprK.listEmpty ho rfl rfl
      | cons x l => exact ReprK.list ho rfl rfl out (by simpa using hk.length_eq) fun i y e => hk.item i y (by simpa using e)
  | .tuple ds, v, u, h, r, hs, hz => by
    obtain ⟨as0, whole⟩ := Dt.reads I (.tuple ds) v u h r
    have hz' : (tupleText (PyData.shownAll ds)).length ≤ sizeLine := by simpa only [PyData.shown] using hz
    cases h with
    | tup hh ha =>
      cases r
      obtain ⟨its, o, n, rv, h1, h2, h3⟩ := Dt.obT I hh
      obtain ⟨bs, hb, hk⟩ := Dt.repAll I ds _ its ha rv (by simpa [PyData.showable] using hs) fun t ht => Nat.le_trans (tupleText_mem_le ht) hz'
      have out := not_mem_of_deeper whole (n := PyData.depthAll ds) (by simp only [PyData.depth]; omega) hb
      refine ⟨_ :: bs, ReadAtMost.cons whole (by simp only [PyData.depth]; omega) hb, ?_⟩
      simp only [PyData.depth, PyData.shown]
      exact ReprK.tuple h1 h2 h3 out hk
  | .dict kvs, v, u, h, r, hs, hz => by
    obtain ⟨as0, whole⟩ := Dt.reads I (.dict kvs) v u h r
    cases h with
    | dct hh =>
      cases r
      obtain ⟨o, n, h1, h2, h3, h4⟩ := Dt.obD I hh
      refine ⟨[_], ReadAtMost.cons whole (Nat.le_refl _) (fun _ z => nomatch z), ?_⟩
      simp only [PyData.depth, PyData.shown, PyData.shownKv]
      exact ReprK.dict h1 h2 h3 h4 (by simp) .nil
theorem Dt.repAll (I : Inv X pins σ H s) : ∀ (ds : List PyData) (vs : List V) (us : List Value), Dts X.K H vs ds → Vals vs us → PyData.showableAll ds = true → (∀ t ∈ PyData.shownAll ds, t.length ≤ sizeLine) →
    ∃ bs, ReadAtMost s.heap (PyData.depthAll ds) bs ∧ ReprAllK X.prog X.w bs s.heap (PyData.depthAll ds) us (PyData.shownAll ds)
  | [], _, _, h, r, _, _ => by
    cases h
    cases r
    exact ⟨[], (fun _ z => nomatch z), by simp only [PyData.shownAll]; exact .nil⟩
  | d :: ds, _, _, h, r, hs, hz => by
    have hs' : d.showable = true ∧ PyData.showableAll ds = true := by simpa [PyData.showableAll] using hs
    cases h with
    | cons h1 h2 =>
      cases r with
      | cons r1 r2 =>
        obtain ⟨b1, hb1, k1⟩ := Dt.rep I d _ _ h1 r1 hs'.1 (hz _ (by simp [PyData.shownAll]))
        obtain ⟨b2, hb2, k2⟩ := Dt.repAll I ds _ _ h2 r2 hs'.2 fun t ht => hz t (by simp [PyData.shownAll, ht])
        refine ⟨b1 ++ b2, fun b hm => ?_, ?_⟩
        · rcases List.mem_append.mp hm with z | z
          · obtain ⟨d', as', r', q⟩ := hb1 b z
            exact ⟨d', as', r', Nat.le_trans q (by simp only [PyData.depthAll]; omega)⟩
          · obtain ⟨d', as', r', q⟩ := hb2 b z
            exact ⟨d', as', r', Nat.le_trans q (by simp only [PyData.depthAll]; omega)⟩
        · simp only [PyData.depthAll, PyData.shownAll]
          exact .cons ((k1.more fun b z => List.mem_append_left _ z).level_le (by omega)) (k2.more_le (fun b z => List.mem_append_right _ z) (by omega))
end
/-- repr(x), x data -/
noncomputable def rRepD (K : PySem.W.Frag) : List V → Hp → VK → Prop := fun xs H Q => ∃ x d, xs = [x] ∧ Dt K H x d ∧ d.showable = true ∧ d.shown.length ≤ sizeLine ∧ d.depth ≤ 60 ∧ Q (.str d.shown) H
theorem call_repD (hg : X.A.guards = some []) (hu : X.A.units + 64 < cLine) : CallR X (.builtin "repr") (rRepD X.K) := by
  intro pins s σ H xs us Q I r h
  obtain ⟨x, d, rfl, hd, hs, hz, hn, q⟩ := h
  obtain ⟨u, rfl, r1⟩ := vals1 r
  have back : ∀ (h' : Heap) (t : Tok) (tk : Nat), (∀ b o, s.heap.get? b = some o → h'.get? b = some o) → EP X pins σ Q (.str d.shown t) { s with heap := h', toks := tk } := fun h' t tk k =>
    ⟨.str d.shown, H, I.kept k, ⟨t, rfl⟩, q⟩
  cases d with
  | none =>
    cases hd
    cases r1
    exact PySem.P.repr_of_none (back _ _ _ fun _ _ e => e)
  | bool b =>
    cases hd
    cases r1
    exact PySem.P.repr_of_bool (back _ _ _ fun _ _ e => e)
  | int i =>
    cases hd
    obtain ⟨t, rfl⟩ := r1
    exact PySem.P.repr_of_int (by simpa [PyData.showable] using hs) (back _ _ _ fun _ _ e => e)
  | str y =>
    cases hd
    obtain ⟨t, rfl⟩ := r1
    exact PySem.P.repr_of_str (back _ _ _ fun _ _ e => e) (by simpa only [PyData.shown] using hz)
  | list ds =>
    obtain ⟨as0, whole⟩ := Dt.reads I (.list ds) x u hd r1
    have hz' : (listText (PyData.shownAll ds)).length ≤ sizeLine := by simpa only [PyData.shown] using hz
    cases hd with
    | lst hh ha =>
      cases r1
      obtain ⟨its, n, rv, ho⟩ := Dt.obL (K := X.K) I hh
      obtain ⟨bs, hb, hk⟩ := Dt.repAll I ds _ its ha rv (by simpa [PyData.showable] using hs) fun t ht => Nat.le_trans (listText_mem_le ht) hz'
      have out := not_mem_of_deeper whole (n := PyData.depthAll ds) (by simp only [PyData.depth]; omega) hb
      simp only [PyData.depth] at hn
      refine call_repr_slot (by omega) ⟨_, ho, rfl⟩ F.slot_list_repr.toG ?_
      cases its with
      | nil =>
        cases rv
        cases ha
        simp only [PyData.shown, PyData.shownAll, listText_nil] at back
        exact call_list_repr_empty ⟨_, ho, rfl⟩ ho rfl ⟨_, _, rfl, back s.heap _ _ fun _ _ e => e⟩
      | cons y l =>
        simp only [PyData.shown] at back
        exact call_list_reprK ho rfl rfl out (by simpa using hk.length_eq) (fun i y e => hk.item i y (by simpa using e)) hg (fun b _ => Clear.nil b) (by show X.A.units + 1 + _ < _; omega) (fun _ _ e => e) (fun h' u tk k => ⟨_, _, rfl, back h' u tk k⟩) hz'
  | tuple ds =>
    obtain ⟨as0, whole⟩ := Dt.reads I (.tuple ds) x u hd r1
    have hz' : (tupleText (PyData.shownAll ds)).length ≤ sizeLine := by simpa only [PyData.shown] using hz
    cases hd with
    | tup hh ha =>
      cases r1
      obtain ⟨its, o, n, rv, h1, h2, h3⟩ := Dt.obT I hh
      obtain ⟨bs, hb, hk⟩ := Dt.repAll I ds _ its ha rv (by simpa [PyData.showable] using hs) fun t ht => Nat.le_trans (tupleText_mem_le ht) hz'
      have out := not_mem_of_deeper whole (n := PyData.depthAll ds) (by simp only [PyData.depth]; omega) hb
      simp only [PyData.depth] at hn
      simp only [PyData.shown] at back
      exact call_repr_slot (by omega) ⟨o, h1, h2⟩ F.slot_tuple_repr (call_tuple_reprK h1 h2 h3 out hk hg (fun b _ => Clear.nil b) (by show X.A.units + 1 + _ < _; omega) (fun _ _ e => e) (fun h' u tk k => ⟨_, _, rfl, back h' u tk k⟩) hz')
  | dict kvs =>
    cases hd with
    | dct hh =>
      cases r1
      obtain ⟨o, n, h1, h2, h3, h4⟩ := Dt.obD I hh
      simp only [PyData.shown, PyData.shownKv] at back hz
      exact call_repr_slot (by omega) ⟨o, h1, h2⟩ F.slot_dict_repr (call_dict_reprK (as := []) (d := 0) h1 h2 h3 h4 (by simp) .nil hg (fun b _ => Clear.nil b) (by show X.A.units + 1 + _ < _; omega) (fun _ _ e => e) (fun h' u tk k => ⟨_, _, rfl, back h' u tk k⟩) hz)
end
end GL

namespace GL
open PySem PySem.Spec PyProof.Rows L2
/-! ### a def of the text, ready to be called -/
structure Use (P : Program) (w : World) (K : PySem.W.Frag) (mg : Str → Option Value) (base : Heap) (x : Str) (ps : List Str) (sp : Sp) (k : Nat) : Prop where
  ex : ∃ f fd, FnOk P w K mg base CX0 k f fd ps sp ∧ mg x = some (.ref f) ∧ PySem.W.keepIn K (.ref f) = true ∧ Binds K fd ps []
structure UseG (P : Program) (w : World) (K : PySem.W.Frag) (mg : Str → Option Value) (base : Heap) (x : Str) (ps : List Str) (sp : Sp) (k : Nat) : Prop where
  ex : ∃ f fd, FnG P w K mg base CX0 k f fd ps sp ∧ mg x = some (.ref f) ∧ PySem.W.keepIn K (.ref f) = true ∧ Binds K fd ps []
section
variable {X : Cx} {ps : List Str} {sp : Sp} {x : Str} {e : Expr} {es : List Expr} {t : TA} {p pos : Pos} {k : Nat}
theorem pe_use (U : Use X.prog X.w X.K X.mg X.base x ps sp k) (hr : Room k X.A) (hg : Gl X x) (ha : PA X (e :: es) t)
    (hdb : (x == ("__debug__" : Str)) = false := by decide) (he : starEach (e :: es) X.env = (false, eval e X.env) :: starEach es X.env := by rfl) (hpl : (backTo pos (starEach es X.env)).any (·.1) = false := by rfl) :
    PE X (.Call (.Name x p) (e :: es) [] pos) (tCall sp [] E0 t) := by
  obtain ⟨f, fd, F, hm, hk, hb⟩ := U.ex
  exact pe_call F hr hg hm hk hb .nil pass0 ha hdb he hpl
theorem pe_useG (U : UseG X.prog X.w X.K X.mg X.base x ps sp k) (hgd : X.A.guards = some []) (hr : Room k X.A) (hg : Gl X x) (ha : PA X (e :: es) t)
    (hdb : (x == ("__debug__" : Str)) = false := by decide) (he : starEach (e :: es) X.env = (false, eval e X.env) :: starEach es X.env := by rfl) (hpl : (backTo pos (starEach es X.env)).any (·.1) = false := by rfl) :
    PE X (.Call (.Name x p) (e :: es) [] pos) (tCall sp [] E0 t) := by
  obtain ⟨f, fd, F, hm, hk, hb⟩ := U.ex
  exact pe_callG F hgd hr hg hm hk hb .nil pass0 ha hdb he hpl
/-- f(k = v, ..), nothing by place -/
theorem pe_kws {CX : CXT} {f : Addr} {fd : FuncData} {ks : List Str} {E : XK} {kws : List Keyword} {tk : TA} {g : List Value → List Value → List Value} {gV : List V → List V → List V}
    (F : FnOk X.prog X.w X.K X.mg X.base CX k f fd ps sp) (hr : Room k X.A) (hg : Gl X x) (hm : X.mg x = some (.ref f)) (hk : PySem.W.keepIn X.K (.ref f) = true) (hb : KBinds X.K fd ps ks g gV) (hx : Passes CX X E) (hkw : PK X kws tk)
    (hall : (backToKw pos (keywordEach kws X.env)).all (·.1.isSome) = true := by rfl) (hks : (backToKw pos (keywordEach kws X.env)).filterMap (·.1) = ks := by rfl) (hdb : (x == ("__debug__" : Str)) = false := by decide)
    (hpl : ((backTo pos (starEach [] X.env)).any (·.1) || (backToKw pos (keywordEach kws X.env)).any (·.1.isNone)) = false := by rfl) :
    PE X (.Call (.Name x p) [] kws pos) (tCallK sp gV E tNil tk) :=
  ⟨fun pins s σ H Q I h => wpAny_Call_Name_kw (ld_glob I hg hm (PySem.W.callWith_KW0 (h₀ := X.base) I.ok.mod.kin hk hall (thn (hkw.run pos pins s σ H _ I h) fun ws s2 hh => by
    obtain ⟨zs, H2, I2, rz, q2⟩ := hh
    refine ⟨I2.kIn, ?_⟩
    rw [hks]
    exact run_fnk F hr hb hx I2 .nil rz q2) hpl) hdb)⟩
end
/-! ### rules -/
section
variable {X : Cx} {pos : Pos}
noncomputable def CPowW (i j : Int) : Prop := 0 ≤ j ∧ (Builtin.Int.intBits i : Int) * j ≤ 2 ^ 27
theorem op_powW : OpR X (binaryOp .Pow) (rI CPowW fun i j => .int (i ^ j.toNat)) := opI fun _ _ _ _ _ _ _ hc q => pow_int hc.1 hc.2 q
/-- xs != ys, ys an empty list -/
noncomputable def rNeNil (K : PySem.W.Frag) : R2 := fun x y H Q => ∃ a b xs, x = .ref a ∧ y = .ref b ∧ SqL K H a xs ∧ SqL K H b [] ∧ Q (.bl (!xs.isEmpty)) H
theorem op_neNil (hu : X.A.units + 64 < cLine) : OpR X (compareOp .NotEq) (rNeNil X.K) := by
  intro pins s σ H x y v u Q I rx ry h
  obtain ⟨a, b, xs, rfl, rfl, ha, hb, q⟩ := h
  cases rx
  cases ry
  obtain ⟨is, ra, pa, _⟩ := I.list ha
  obtain ⟨js, rb, pb, _⟩ := I.list hb
  cases rb
  cases xs with
  | nil =>
    cases ra
    exact (SeqAt.RcNeAt.lists (e := fun _ => true) pa.isList pb.isList rfl (by omega) (fun j h1 => absurd h1 (by simp))) _ _ _ _ ⟨.bl _, H, I, rfl, q⟩
  | cons z zs =>
    cases ra with
    | cons r1 r2 => exact (SeqAt.RcNeAt.lists_lengths pa.isList pb.isList (by simp) (by omega)) _ _ _ _ ⟨.bl _, H, I, rfl, q⟩
end
end GL

namespace GL
open PySem PySem.Spec PyProof.Rows L2
theorem same_new {p : Addr} {H : Hp} {o : HO} (h : H p = none) : Same H (upd H p o) := fun b u e => by rw [upd_ne (ne_of_none e h)]; exact e
mutual
theorem Dt.same {K : PySem.W.Frag} {H H' : Hp} (s : Same H H') : ∀ (d : PyData) (v : V), Dt K H v d → Dt K H' v d
  | .none, _, h => by cases h; exact .non
  | .bool b, _, h => by cases h; exact .bl b
  | .int i, _, h => by cases h; exact .int i
  | .str x, _, h => by cases h; exact .str x
  | .list ds, _, h => by
    cases h with
    | lst e a => exact .lst (s _ _ e) (Dts.same s ds _ a)
  | .tuple ds, _, h => by
    cases h with
    | tup e a => exact .tup (s _ _ e) (Dts.same s ds _ a)
  | .dict kvs, _, h => by
    cases h with
    | dct e => exact .dct (s _ _ e)
theorem Dts.same {K : PySem.W.Frag} {H H' : Hp} (s : Same H H') : ∀ (ds : List PyData) (vs : List V), Dts K H vs ds → Dts K H' vs ds
  | [], _, h => by cases h; exact .nil
  | d :: ds, _, h => by
    cases h with
    | cons a b => exact .cons (Dt.same s d _ a) (Dts.same s ds _ b)
end
theorem Dts.length {K : PySem.W.Frag} {H : Hp} : ∀ {vs : List V} {ds : List PyData}, Dts K H vs ds → vs.length = ds.length
  | _, _, .nil => rfl
  | _, _, .cons _ b => congrArg (· + 1) b.length
theorem Dts.get {K : PySem.W.Frag} {H : Hp} : ∀ {vs : List V} {ds : List PyData} {i : Nat} {v : V}, Dts K H vs ds → vs[i]? = some v → ∃ d, ds[i]? = some d ∧ Dt K H v d
  | _, _, i, v, .nil, e => by simp at e
  | _, _, 0, v, .cons a _, e => by
    cases e
    exact ⟨_, rfl, a⟩
  | _, _, i + 1, v, .cons _ b, e => b.get (i := i) (v := v) e
noncomputable def tyOf : PyData → String
  | .none => "NoneType" | .bool _ => "bool" | .int _ => "int" | .str _ => "str" | .list _ => "list" | .tuple _ => "tuple" | .dict _ => "dict"
theorem Dt.ty {K : PySem.W.Frag} {H : Hp} {x : V} {d : PyData} (h : Dt K H x d) : TyX K H x (.type (tyOf d)) := by
  cases h with
  | non => exact .base .non
  | bl b => exact .base (.bl b)
  | int i => exact .base (.int i)
  | str x => exact .base (.str x)
  | lst e _ => exact .base (.lst e)
  | tup e _ => exact .base (.tup e)
  | dct e => exact .base (.dK e)
noncomputable def isInt : PyData → Bool
  | .bool _ => true | .int _ => true | _ => false
noncomputable def isBool : PyData → Bool
  | .bool _ => true | _ => false
noncomputable def isList : PyData → Bool
  | .list _ => true | _ => false
theorem kit_int {K : PySem.W.Frag} (d : PyData) : PySem.W.kitOne K (.type (tyOf d)) (.type "int") = some (isInt d) := by
  cases d with
  | none => exact kit_ty (show kitB "NoneType" "int" = some false by decide +kernel)
  | bool _ => exact kit_ty (show kitB "bool" "int" = some true by decide +kernel)
  | int _ => exact kit_ty (show kitB "int" "int" = some true by decide +kernel)
  | str _ => exact kit_ty (show kitB "str" "int" = some false by decide +kernel)
  | list _ => exact kit_ty (show kitB "list" "int" = some false by decide +kernel)
  | tuple _ => exact kit_ty (show kitB "tuple" "int" = some false by decide +kernel)
  | dict _ => exact kit_ty (show kitB "dict" "int" = some false by decide +kernel)
theorem kit_bool {K : PySem.W.Frag} (d : PyData) : PySem.W.kitOne K (.type (tyOf d)) (.type "bool") = some (isBool d) := by
  cases d with
  | none => exact kit_ty (show kitB "NoneType" "bool" = some false by decide +kernel)
  | bool _ => exact kit_ty (show kitB "bool" "bool" = some true by decide +kernel)
  | int _ => exact kit_ty (show kitB "int" "bool" = some false by decide +kernel)
  | str _ => exact kit_ty (show kitB "str" "bool" = some false by decide +kernel)
  | list _ => exact kit_ty (show kitB "list" "bool" = some false by decide +kernel)
  | tuple _ => exact kit_ty (show kitB "tuple" "bool" = some false by decide +kernel)
  | dict _ => exact kit_ty (show kitB "dict" "bool" = some false by decide +kernel)
theorem kit_list {K : PySem.W.Frag} (d : PyData) : PySem.W.kitOne K (.type (tyOf d)) (.type "list") = some (isList d) := by
  cases d with
  | none => exact kit_ty (show kitB "NoneType" "list" = some false by decide +kernel)
  | bool _ => exact kit_ty (show kitB "bool" "list" = some false by decide +kernel)
  | int _ => exact kit_ty (show kitB "int" "list" = some false by decide +kernel)
  | str _ => exact kit_ty (show kitB "str" "list" = some false by decide +kernel)
  | list _ => exact kit_ty (show kitB "list" "list" = some true by decide +kernel)
  | tuple _ => exact kit_ty (show kitB "tuple" "list" = some false by decide +kernel)
  | dict _ => exact kit_ty (show kitB "dict" "list" = some false by decide +kernel)
theorem yes_of {σ : L2.St} {H : Hp} {A B : Bool → Hp → Prop} (h : A true H) : tYes σ H (fun b H' => if b = true then A b H' else B b H') := by
  show (if true = true then A true H else B true H)
  exact iteT h
end GL

/-! Data whose repr is known to fit: leaves, and lists and tuples of at most fifty things, three deep. -/
namespace GL
open PySem PySem.Spec PyProof.Rows L2
noncomputable def Leaf : PyData → Prop
  | .none => True
  | .bool _ => True
  | .int i => i.natAbs < 2 ^ 100
  | .str x => (reprText x).length ≤ 110
  | .dict kvs => kvs = []
  | _ => False
noncomputable def Nice : Nat → PyData → Prop
  | 0, d => Leaf d
  | n + 1, d => Leaf d ∨ ∃ ds, (d = .list ds ∨ d = .tuple ds) ∧ ds.length ≤ 50 ∧ ∀ e ∈ ds, Nice n e
theorem Nice.leaf {n : Nat} {d : PyData} (h : Leaf d) : Nice n d := by
  cases n with
  | zero => exact h
  | succ n => exact .inl h
theorem Nice.up {n : Nat} {d : PyData} (h : Nice n d) : Nice (n + 1) d := by
  induction n generalizing d with
  | zero => exact .inl h
  | succ n ih =>
    rcases h with h | ⟨ds, e, l, a⟩
    · exact .inl h
    · exact .inr ⟨ds, e, l, fun x hx => ih (a x hx)⟩
theorem Nice.list {n : Nat} {ds : List PyData} (l : ds.length ≤ 50) (a : ∀ e ∈ ds, Nice n e) : Nice (n + 1) (.list ds) := .inr ⟨ds, .inl rfl, l, a⟩
theorem Nice.tuple {n : Nat} {ds : List PyData} (l : ds.length ≤ 50) (a : ∀ e ∈ ds, Nice n e) : Nice (n + 1) (.tuple ds) := .inr ⟨ds, .inr rfl, l, a⟩
theorem textFrom_le : ∀ (ts : List Str) (k : Nat) (acc : Str), (textFrom k acc ts).length ≤ acc.length + piled ts
  | [], k, acc => Nat.le_refl _
  | t :: r, k, acc => by
    have ih := textFrom_le r (k + 1) (acc ++ (if k > 0 then ", " else "" : String) ++ t)
    rw [strLen_append, strLen_append] at ih
    rw [piled_cons]
    show (textFrom (k + 1) (acc ++ (if k > 0 then ", " else "" : String) ++ t) r).length ≤ _
    have e : (Str.ofString (if k > 0 then ", " else "" : String)).length ≤ 2 := by
      by_cases h : k > 0
      · rw [if_pos h]
        exact Nat.le_of_eq rfl
      · rw [if_neg h]
        exact Nat.zero_le _
    omega
theorem listText_le (ts : List Str) : (listText ts).length ≤ 2 + piled ts := by
  unfold listText
  rw [strLen_append]
  have := textFrom_le ts 0 "["
  have e1 : (Str.ofString "[").length = 1 := rfl
  have e2 : (Str.ofString "]").length = 1 := rfl
  omega
theorem tupleText_le (ts : List Str) : (tupleText ts).length ≤ 3 + piled ts := by
  unfold tupleText
  rw [strLen_append, strLen_append]
  have e1 : (Str.ofString "(").length = 1 := rfl
  have e2 : (Str.ofString (if ts.length == 1 then ",)" else ")" : String)).length ≤ 2 := by
    by_cases h : (ts.length == 1) = true
    · rw [if_pos h]
      exact Nat.le_of_eq rfl
    · rw [if_neg h]
      exact Nat.le_succ _
  cases ts with
  | nil =>
    have e3 : (Str.join ", " ([] : List Str)).length = 0 := rfl
    omega
  | cons t r =>
    have := join_length_add (t :: r) (by simp)
    omega
theorem piled_le {B : Nat} : ∀ {ds : List PyData}, (∀ e ∈ ds, e.shown.length ≤ B) → piled (PyData.shownAll ds) ≤ ds.length * (B + 2)
  | [], _ => Nat.zero_le _
  | d :: ds, h => by
    have ih := piled_le (ds := ds) (B := B) fun e he => h e (List.mem_cons_of_mem _ he)
    have h0 := h d (List.mem_cons_self ..)
    simp only [PyData.shownAll]
    rw [piled_cons, List.length_cons, Nat.add_mul]
    omega
noncomputable def Bound : Nat → Nat
  | 0 => 110
  | n + 1 => 3 + 50 * (Bound n + 2)
theorem Bound.up (n : Nat) : 110 ≤ Bound n := by
  induction n with
  | zero => exact Nat.le_refl _
  | succ n ih =>
    show 110 ≤ 3 + 50 * (Bound n + 2)
    omega
theorem log_of {i : Int} (h : i.natAbs < 2 ^ 100) : i.natAbs.log2 < 100 := PySem.Flt.log2_lt_of (by decide) h
theorem Leaf.shown {d : PyData} (h : Leaf d) : d.shown.length ≤ 110 ∧ d.showable = true ∧ d.depth ≤ 1 := by
  cases d with
  | none => exact ⟨by simp only [PyData.shown]; decide, by simp only [PyData.showable], by simp only [PyData.depth]; omega⟩
  | bool b => exact ⟨by simp only [PyData.shown]; cases b <;> decide, by simp only [PyData.showable], by simp only [PyData.depth]; omega⟩
  | int i =>
    have l := log_of h
    refine ⟨?_, by simp only [PyData.showable]; exact decide_eq_true (by omega), by simp only [PyData.depth]; omega⟩
    simp only [PyData.shown]
    have := int_text_length_le (k := 100) (by decide) l
    rw [PySem.ofString_length]
    omega
  | str x => exact ⟨by simp only [PyData.shown]; exact h, by simp only [PyData.showable], by simp only [PyData.depth]; omega⟩
  | dict kvs =>
    have e : kvs = [] := h
    subst e
    exact ⟨by simp only [PyData.shown, PyData.shownKv]; decide, by simp only [PyData.showable, PyData.showableKv], by simp only [PyData.depth, PyData.depthKv]; omega⟩
  | list ds => exact h.elim
  | tuple ds => exact h.elim
theorem showableAll_of : ∀ {ds : List PyData}, (∀ e ∈ ds, e.showable = true) → PyData.showableAll ds = true
  | [], _ => by simp only [PyData.showableAll]
  | d :: ds, h => by
    simp only [PyData.showableAll]
    rw [h d (List.mem_cons_self ..), showableAll_of fun e he => h e (List.mem_cons_of_mem _ he)]
    rfl
theorem depthAll_of {n : Nat} : ∀ {ds : List PyData}, (∀ e ∈ ds, e.depth ≤ n) → PyData.depthAll ds ≤ n
  | [], _ => by simp only [PyData.depthAll]; omega
  | d :: ds, h => by
    simp only [PyData.depthAll]
    have h0 := h d (List.mem_cons_self ..)
    have ih := depthAll_of (n := n) fun e he => h e (List.mem_cons_of_mem _ he)
    omega
theorem Nice.shown : ∀ {n : Nat} {d : PyData}, Nice n d → d.shown.length ≤ Bound n ∧ d.showable = true ∧ d.depth ≤ n + 1
  | 0, d, h => by
    obtain ⟨a, b, c⟩ := Leaf.shown h
    exact ⟨a, b, by omega⟩
  | n + 1, d, h => by
    rcases h with h | ⟨ds, e, l, a⟩
    · obtain ⟨x, y, z⟩ := Leaf.shown h
      exact ⟨Nat.le_trans x (Bound.up _), y, by omega⟩
    · have m : ds.length * (Bound n + 2) ≤ 50 * (Bound n + 2) := Nat.mul_le_mul_right _ l
      have pl := piled_le (B := Bound n) fun x hx => (Nice.shown (a x hx)).1
      have sh := showableAll_of fun x hx => (Nice.shown (a x hx)).2.1
      have dp := depthAll_of (n := n + 1) fun x hx => (Nice.shown (a x hx)).2.2
      rcases e with rfl | rfl
      · refine ⟨?_, by simp only [PyData.showable]; exact sh, by simp only [PyData.depth]; omega⟩
        simp only [PyData.shown]
        have := listText_le (PyData.shownAll ds)
        show _ ≤ 3 + 50 * (Bound n + 2)
        omega
      · refine ⟨?_, by simp only [PyData.showable]; exact sh, by simp only [PyData.depth]; omega⟩
        simp only [PyData.shown]
        have := tupleText_le (PyData.shownAll ds)
        show _ ≤ 3 + 50 * (Bound n + 2)
        omega
/-! ### what is tracked, but for one thing -/
noncomputable def hid (H : Hp) (g : Addr) : Hp := fun b => if b = g then none else H b
theorem hid_ne {H : Hp} {g b : Addr} (h : b ≠ g) : hid H g b = H b := if_neg h
theorem hid_same {H : Hp} {g : Addr} : Same (hid H g) H := fun b o e => by
  by_cases h : b = g
  · unfold hid at e
    rw [if_pos h] at e
    cases e
  · rw [hid_ne h] at e
    exact e
theorem hid_none {H : Hp} {g b : Addr} {o : HO} (h : hid H g b = some o) : b ≠ g := fun z => by
  unfold hid at h
  rw [if_pos z] at h
  cases h
end GL

namespace GL
open PySem PySem.Spec PyProof.Rows L2
theorem dpAll_ints {K : PySem.W.Frag} {H : Hp} : ∀ ns : List Int, DpAll K H (ns.map V.int) (ns.map PyData.int)
  | [] => .nil
  | n :: ns => .cons (.int n) (dpAll_ints ns)
/-- a row of numbers, as data -/
noncomputable def rowP (ns : List Int) : PyData := .list (ns.map PyData.int)
theorem dp_row {K : PySem.W.Frag} {H : Hp} {a : Addr} {ns : List Int} (h : SqL K H a (ns.map V.int)) : Dp K H (.ref a) (rowP ns) := .lst h (dpAll_ints ns)
section
variable {X : Cx}
end
/-! ### how many unlike numbers -/
/-! ### rows compared -/
theorem eqv_ints : ∀ xs ys : List Int, PyData.eqvAll (xs.map PyData.int) (ys.map PyData.int) = decide (xs = ys)
  | [], [] => by simp [PyData.eqvAll]
  | [], y :: ys => by simp [PyData.eqvAll]
  | x :: xs, [] => by simp [PyData.eqvAll]
  | x :: xs, y :: ys => by
    simp only [List.map_cons, PyData.eqvAll, PyData.eqv]
    rw [eqv_ints xs ys]
    by_cases h1 : x = y
    · subst h1
      simp
    · simp [h1]
theorem eqv_row (xs ys : List Int) : PyData.eqv (rowP xs) (rowP ys) = decide (xs = ys) := by
  unfold rowP
  simp only [PyData.eqv]
  exact eqv_ints xs ys
noncomputable def tabP (kss : List (List Int)) : PyData := .list (kss.map rowP)
theorem lay_ints : ∀ xs : List Int, PyData.canLayAll0 (xs.map PyData.int) = true
  | [] => by simp [PyData.canLayAll0]
  | x :: xs => by
    simp only [List.map_cons, PyData.canLayAll0, PyData.canLay0]
    rw [lay_ints xs]
    rfl
theorem lay_row (xs : List Int) : PyData.canLay0 (rowP xs) = true := by
  unfold rowP
  simp only [PyData.canLay0]
  exact lay_ints xs
theorem depth_row (xs : List Int) : (rowP xs).depth ≤ 1 := by
  unfold rowP
  simp only [PyData.depth]
  have := PySem.W.depth_ints xs
  omega
theorem shaped_row (xs : List Int) : SeqAt.shaped (rowP xs) = true := by
  unfold SeqAt.shaped
  rw [lay_row, decide_eq_true (Nat.le_trans (depth_row xs) (by decide))]
  rfl
end GL

/-! itertools.combinations of a range, at the library's level -/
namespace Cmb
open PySem PySem.Spec PyProof.Rows
open Sem (wp)
theorem mro_c : mroOf (.type "itertools.combinations") = pure [.type "itertools.combinations", .type "object"] := by rw [mroOf_type]; kernel_rfl
theorem lookup_c_new : typeLookup (.type "itertools.combinations") "__new__" = pure (some (.builtin "itertools.combinations.__new__")) := by rw [typeLookup_type, builtinLookup_eq_fast]; kernel_rfl
theorem slot_c_init : Slot "itertools.combinations" "__init__" "object.__init__" :=
  .of (owner := "object") (n := "__init__") (by rw [typeLookup_type, builtinLookup_eq_fast]; kernel_rfl) (by decide +kernel) (by decide +kernel) (by decide +kernel)
    (by first | exact .inl (by decide +kernel) | exact .inr (by decide +kernel)) (by rw [isSubtype_type]; kernel_rfl)
theorem sub_c : isSubtype (.type "itertools.combinations") (.type "itertools.combinations") = pure true := by rw [isSubtype_type]; kernel_rfl
theorem called_c : TypeCalled "itertools.combinations" "itertools.combinations.__new__" "object.__init__" :=
  ⟨by decide +kernel, by decide +kernel, ⟨_, _, mro_c⟩, madeBy_type mro_c lookup_c_new (by decide +kernel), by decide +kernel, sub_c, slot_c_init⟩
theorem typeCall_c_2 (a b : Value) : checkTypeCall "itertools.combinations" ⟨[a, b], []⟩ = pure () := by kernel_rfl
theorem newCall_c_2 (a b : Value) : checkBuiltinCall "itertools.combinations.__new__" ⟨[.type "itertools.combinations", a, b], []⟩ = pure () := by kernel_rfl
theorem entry_c_new : entryFor table "itertools.combinations.__new__" = some Builtin.«itertools.combinations.__new__» := entryFor_of_tree (by kernel_rfl)
theorem slot_c_iter : Slot "itertools.combinations" "__iter__" "itertools.combinations.__iter__" :=
  .of (owner := "itertools.combinations") (n := "__iter__") (by rw [typeLookup_type, builtinLookup_eq_fast]; kernel_rfl) (by decide +kernel) (by decide +kernel) (by decide +kernel)
    (by first | exact .inl (by decide +kernel) | exact .inr (by decide +kernel)) sub_c
theorem slot_c_next : Slot "itertools.combinations" "__next__" "itertools.combinations.__next__" :=
  .of (owner := "itertools.combinations") (n := "__next__") (by rw [typeLookup_type, builtinLookup_eq_fast]; kernel_rfl) (by decide +kernel) (by decide +kernel) (by decide +kernel)
    (by first | exact .inl (by decide +kernel) | exact .inr (by decide +kernel)) sub_c
theorem entry_c_iter : entryFor table "itertools.combinations.__iter__" = some Builtin.«dict_keyiterator.__iter__» :=
  entryFor_alias (id' := "dict_keyiterator.__iter__") (by kernel_rfl) (by first | rfl | decide +kernel | (unfold String.splitOn; simp +decide [String.splitOnAux])) (by decide +kernel) (by kernel_rfl)
theorem entry_c_next : entryFor table "itertools.combinations.__next__" = some Builtin.«itertools.combinations.__next__» := entryFor_of_tree (by kernel_rfl)
theorem owner_c : Manifest.owners.lookup (String.ofList ['s', 'n', 'o', 'i', 't', 'a', 'n', 'i', 'b', 'm', 'o', 'c', '.', 's', 'l', 'o', 'o', 't', 'r', 'e', 't', 'i'].reverse) = some Manifest.sig_itertools_combinations := by kernel_rfl
theorem noDict_c : typeHasDict (.type "itertools.combinations") = false := by decide +kernel
theorem args_c_iter (a : Value) : argsOk "itertools.combinations.__iter__" ⟨[a], []⟩ := by
  unfold argsOk; rw [signature?_of (id := "itertools.combinations.__iter__") (n := ['_', '_', 'r', 'e', 't', 'i', '_', '_']) (o := ['s', 'n', 'o', 'i', 't', 'a', 'n', 'i', 'b', 'm', 'o', 'c', '.', 's', 'l', 'o', 'o', 't', 'r', 'e', 't', 'i']) (by kernel_rfl) owner_c]; kernel_rfl
theorem args_c_next (a : Value) : argsOk "itertools.combinations.__next__" ⟨[a], []⟩ := by
  unfold argsOk; rw [signature?_of (id := "itertools.combinations.__next__") (n := ['_', '_', 't', 'x', 'e', 'n', '_', '_']) (o := ['s', 'n', 'o', 'i', 't', 'a', 'n', 'i', 'b', 'm', 'o', 'c', '.', 's', 'l', 'o', 'o', 't', 'r', 'e', 't', 'i']) (by kernel_rfl) owner_c]; kernel_rfl
end Cmb

namespace Cmb
open PySem PySem.Spec PyProof.Rows
/-! ### all choices of r of the numbers from lo to n - 1, in order -/
noncomputable def combs (n : Nat) : Nat → Nat → Nat → List (List Nat)
  | 0, _, _ => [[]]
  | r + 1, 0, lo => []
  | r + 1, d + 1, lo => (combs n r d (lo + 1)).map (lo :: ·) ++ combs n (r + 1) d (lo + 1)
/-- the row that begins at lo -/
noncomputable def rowF (lo r : Nat) : List Nat := (List.range r).map (lo + ·)
theorem rowF_cons (lo r : Nat) : rowF lo (r + 1) = lo :: rowF (lo + 1) r := by
  unfold rowF
  rw [List.range_succ_eq_map, List.map_cons, List.map_map]
  congr 1
  exact List.map_congr_left fun j _ => by show lo + (j + 1) = lo + 1 + j; omega
theorem combs_len (n : Nat) : ∀ r d lo, ∀ l ∈ combs n r d lo, l.length = r
  | 0, d, lo, l, h => by
    cases d <;> (rw [combs] at h; rw [List.mem_singleton] at h; rw [h]; rfl)
  | r + 1, 0, lo, l, h => by
    rw [combs] at h
    cases h
  | r + 1, d + 1, lo, l, h => by
    rw [combs, List.mem_append, List.mem_map] at h
    rcases h with ⟨t, ht, rfl⟩ | h
    · rw [List.length_cons, combs_len n r d _ t ht]
    · exact combs_len n (r + 1) d _ l h
theorem combs_head (n : Nat) : ∀ r d lo, (combs n r d lo).head? = if r ≤ d then some (rowF lo r) else none
  | 0, d, lo => by
    rw [if_pos (Nat.zero_le _)]
    cases d <;> (rw [combs]; rfl)
  | r + 1, 0, lo => by
    rw [if_neg (by omega), combs]
    rfl
  | r + 1, d + 1, lo => by
    rw [combs, List.head?_append, List.head?_map, combs_head n r d (lo + 1), combs_head n (r + 1) d (lo + 1)]
    by_cases h : r ≤ d
    · rw [if_pos h, if_pos (show r + 1 ≤ d + 1 by omega), rowF_cons lo r]
      rfl
    · rw [if_neg h, if_neg (show ¬ r + 1 ≤ d by omega), if_neg (show ¬ r + 1 ≤ d + 1 by omega)]
      rfl
/-- the choice behind one, as a row -/
noncomputable def nxt (n : Nat) : List Nat → Option (List Nat)
  | [] => none
  | a :: t => match nxt n t with
    | some t' => some (a :: t')
    | none => if (a != n - (t.length + 1)) = true then some (rowF (a + 1) (t.length + 1)) else none
/-- each is followed by the next one, the last one by e -/
noncomputable def Ch {α : Type} (f : α → Option α) : List α → Option α → Prop
  | [], _ => True
  | [x], e => f x = e
  | x :: y :: r, e => f x = some y ∧ Ch f (y :: r) e
theorem Ch.append {α : Type} {f : α → Option α} : ∀ {l m : List α} {e : Option α}, Ch f l (match m with | [] => e | y :: _ => some y) → Ch f m e → Ch f (l ++ m) e
  | [], m, e, _, h => h
  | [x], [], e, h, _ => h
  | [x], y :: m, e, h, g => ⟨h, g⟩
  | x :: y :: l, m, e, h, g => ⟨h.1, Ch.append (l := y :: l) h.2 g⟩
theorem Ch.cons {n a r : Nat} {e : Option (List Nat)} : ∀ {l : List (List Nat)}, (∀ t ∈ l, t.length = r) → Ch (nxt n) l none → (e = if (a != n - (r + 1)) = true then some (rowF (a + 1) (r + 1)) else none) → Ch (nxt n) (l.map (a :: ·)) e
  | [], _, _, _ => trivial
  | [x], hl, h, he => by
    have h' : nxt n x = none := h
    have lx := hl x (List.mem_cons_self ..)
    show nxt n (a :: x) = e
    unfold nxt
    rw [h', he, lx]
  | x :: y :: l, hl, h, he => by
    refine ⟨?_, Ch.cons (l := y :: l) (fun t ht => hl t (List.mem_cons_of_mem _ ht)) h.2 he⟩
    show nxt n (a :: x) = some (a :: y)
    unfold nxt
    rw [h.1]
theorem combs_chain (n : Nat) : ∀ r d lo, lo + d = n → Ch (nxt n) (combs n r d lo) none
  | 0, d, lo, h => by cases d <;> (rw [combs]; rfl)
  | r + 1, 0, lo, h => by
    rw [combs]
    trivial
  | r + 1, d + 1, lo, h => by
    rw [combs]
    refine Ch.append ?_ (combs_chain n (r + 1) d (lo + 1) (by omega))
    have hd := combs_head n (r + 1) d (lo + 1)
    by_cases hr : r ≤ d
    · refine Ch.cons (combs_len n r d (lo + 1)) (combs_chain n r d (lo + 1) (by omega)) ?_
      by_cases c : r + 1 ≤ d
      · rw [if_pos c] at hd
        have ne : (lo != n - (r + 1)) = true := by
          rw [bne_iff_ne]
          omega
        rw [if_pos ne]
        cases e : combs n (r + 1) d (lo + 1) with
        | nil => rw [e] at hd; cases hd
        | cons y m => rw [e] at hd; exact hd
      · rw [if_neg c] at hd
        have eq : ¬ (lo != n - (r + 1)) = true := by
          rw [bne_iff_ne]
          omega
        rw [if_neg eq]
        cases e : combs n (r + 1) d (lo + 1) with
        | nil => rfl
        | cons y m => rw [e] at hd; cases hd
    · have e0 : combs n r d (lo + 1) = [] := by
        have := combs_head n r d (lo + 1)
        rw [if_neg hr] at this
        exact List.head?_eq_none_iff.mp this
      rw [e0]
      exact trivial
theorem Ch.at {α : Type} {f : α → Option α} : ∀ {l : List α} {x : α} {i : Nat}, Ch f l none → l[i]? = some x → f x = l[i + 1]?
  | [], _, _, _, h => by simp at h
  | [y], x, 0, h, e => by
    cases e
    exact h
  | [y], x, i + 1, h, e => by simp at e
  | y :: z :: l, x, 0, h, e => by
    cases e
    exact h.1
  | y :: z :: l, x, i + 1, h, e => Ch.at (l := z :: l) (i := i) h.2 e
/-- as the library has it -/
noncomputable def nextC (n : Nat) (indices : List Nat) : Option (List Nat) :=
  let r := indices.length
  match (List.range r).reverse.find? fun i => indices.getD i 0 != i + n - r with
  | none => none
  | some i => some (indices.take i ++ (List.range (r - i)).map (indices.getD i 0 + 1 + ·))
theorem nextC_nxt (n : Nat) : ∀ l : List Nat, nextC n l = nxt n l
  | [] => rfl
  | a :: t => by
    have ih := nextC_nxt n t
    unfold nextC at ih ⊢
    unfold nxt
    rw [← ih]
    simp only [List.length_cons]
    rw [List.range_succ_eq_map, List.reverse_cons, List.find?_append, ← List.map_reverse, List.find?_map]
    have ef : ((fun i => (a :: t).getD i 0 != i + n - (t.length + 1)) ∘ Nat.succ) = fun i => t.getD i 0 != i + n - t.length := by
      funext i
      show ((a :: t).getD (i + 1) 0 != i + 1 + n - (t.length + 1)) = (t.getD i 0 != i + n - t.length)
      rw [List.getD_cons_succ, show i + 1 + n - (t.length + 1) = i + n - t.length by omega]
    rw [ef]
    cases h : (List.range t.length).reverse.find? (fun i => t.getD i 0 != i + n - t.length) with
    | some i =>
      have il : i < t.length := by
        have := List.mem_of_find?_eq_some h
        rw [List.mem_reverse, List.mem_range] at this
        exact this
      show some ((a :: t).take (i + 1) ++ (List.range (t.length + 1 - (i + 1))).map ((a :: t).getD (i + 1) 0 + 1 + ·)) = some (a :: (t.take i ++ (List.range (t.length - i)).map (t.getD i 0 + 1 + ·)))
      rw [List.getD_cons_succ, List.take_succ_cons, show t.length + 1 - (i + 1) = t.length - i by omega]
      rfl
    | none =>
      show (match (none : Option Nat).or ([0].find? fun i => (a :: t).getD i 0 != i + n - (t.length + 1)) with
        | none => none
        | some i => some ((a :: t).take i ++ (List.range (t.length + 1 - i)).map ((a :: t).getD i 0 + 1 + ·))) = _
      rw [Option.none_or]
      by_cases c : (a != n - (t.length + 1)) = true
      · have f0 : ([0].find? fun i => (a :: t).getD i 0 != i + n - (t.length + 1)) = some 0 := by
          refine List.find?_cons_of_pos ?_
          show (a != 0 + n - (t.length + 1)) = true
          rw [Nat.zero_add]
          exact c
        rw [f0, if_pos c]
        rfl
      · have f0 : ([0].find? fun i => (a :: t).getD i 0 != i + n - (t.length + 1)) = none := by
          rw [List.find?_cons_of_neg]
          · rfl
          · show ¬ (a != 0 + n - (t.length + 1)) = true
            rw [Nat.zero_add]
            exact c
        rw [f0, if_neg c]
noncomputable def choices (n r : Nat) : List (List Nat) := combs n r n 0
theorem choices_first {n r : Nat} (h : r ≤ n) : (choices n r)[0]? = some (List.range r) := by
  have := combs_head n r n 0
  rw [if_pos h] at this
  unfold choices
  rw [← List.head?_eq_getElem?, this]
  unfold rowF
  congr 1
  conv => rhs; rw [← List.map_id (List.range r)]
  exact List.map_congr_left fun j _ => Nat.zero_add j
theorem choices_next {n r i : Nat} {x : List Nat} (h : (choices n r)[i]? = some x) : nextC n x = (choices n r)[i + 1]? := by
  rw [nextC_nxt]
  exact Ch.at (combs_chain n r n 0 (Nat.zero_add n)) h
theorem choices_none {n r : Nat} (h : n < r) : choices n r = [] := by
  have := combs_head n r n 0
  rw [if_neg (by omega)] at this
  exact List.head?_eq_none_iff.mp this
theorem choices_len {n r : Nat} {x : List Nat} (h : x ∈ choices n r) : x.length = r := combs_len n r n 0 x h
end Cmb

namespace Cmb
open PySem PySem.Spec PyProof.Rows
noncomputable def recC (p : Addr) (st : Int) (last : Value) (idx : List Nat) : Array Value := ([Value.ref p, rawInt st, last] ++ idx.map fun (i : Nat) => rawInt i).toArray
noncomputable abbrev IsC (h : Heap) (it p : Addr) (st : Int) (last : Value) (idx : List Nat) : Prop := h.get? it = some { cls := .type "itertools.combinations", dict := none, data := .fields (recC p st last idx), slots := #[] }
/-- the pool: the numbers below n -/
noncomputable def IsPool (h : Heap) (p : Addr) (n : Nat) : Prop := ∃ acc, h.get? p = some { cls := .type "tuple", dict := none, data := .seq acc, slots := #[] } ∧ ItemsOf (fun i v => ∃ t, v = Value.int ((i : Nat) : Int) t) acc n
section
variable {prog : Program} {w : World} {A : Around} {E : Value → Shared → Prop} {s : Shared}
theorem numbers_at {it p : Addr} {st : Int} {last : Value} {idx : List Nat} {Q : List Nat → Shared → Prop} (hit : IsC s.heap it p st last idx) (h : Q idx s) : wpAny (model prog w) A (Builtin.Itertools.itNumbersFrom (.ref it) 3) Q E s := by
  unfold Builtin.Itertools.itNumbersFrom
  refine wpAny_bind (wpAny_load hit ?_)
  show wpAny _ _ (pure _) _ _ _
  refine wpAny_pure ?_
  have e : ((recC p st last idx).toList.drop 3).map (fun | .int n _ => n.toNat | _ => 0) = idx := by
    unfold recC
    rw [List.toList_toArray]
    show ((idx.map fun (i : Nat) => rawInt i)).map _ = idx
    rw [List.map_map]
    conv => rhs; rw [← List.map_id idx]
    exact List.map_congr_left fun j _ => by show ((j : Nat) : Int).toNat = j; exact Int.toNat_natCast j
  exact Eq.mpr (congrArg (fun l => Q l s) e) h
theorem field_at {it p : Addr} {st : Int} {last : Value} {idx : List Nat} {i : Nat} {x : Value} {Q : Value → Shared → Prop} (hit : IsC s.heap it p st last idx) (hx : (recC p st last idx)[i]? = some x) (h : Q x s) : wpAny (model prog w) A (field (.ref it) i) Q E s := wpAny_field hit rfl hx h
theorem state_at {it p : Addr} {st : Int} {last : Value} {idx : List Nat} {Q : Int → Shared → Prop} (hit : IsC s.heap it p st last idx) (h : Q st s) : wpAny (model prog w) A (Builtin.Itertools.itIntField (.ref it) 1) Q E s := by
  unfold Builtin.Itertools.itIntField
  exact wpAny_bind (field_at hit (x := rawInt st) rfl (wpAny_pure h))
theorem pick_at {p : Addr} {n : Nat} {idx : List Nat} {Q : Value → Shared → Prop} (hp : IsPool s.heap p n) (hb : ∀ j ∈ idx, j < n) (hl : idx.length ≤ 1000)
    (h : ∀ us : List Value, us.length = idx.length → (∀ (j k : Nat) , idx[j]? = some k → ∃ t, us[j]? = some (Value.int (k : Int) t)) → Q (.ref s.heap.objs.size) { s with heap := s.heap.push { cls := .type "tuple", data := .seq us.toArray } }) :
    wpAny (model prog w) A (Builtin.Itertools.itPoolItems (.ref p) >>= fun items => newTuple (idx.map fun i => items.getD i .none)) Q E s := by
  obtain ⟨acc, ho, hs, hi⟩ := hp
  refine wpAny_bind ?_
  unfold Builtin.Itertools.itPoolItems
  refine wpAny_bind (wpAny_seqItems ho rfl ?_)
  refine wpAny_pure ?_
  refine wpAny_newTuple (h _ (List.length_map _) fun j k e => ?_) (by rw [List.length_map]; exact Nat.le_trans hl (by decide))
  have kn := hb k (List.mem_of_getElem? e)
  rw [List.getElem?_map, e]
  have hk : k < acc.size := by rw [hs]; exact kn
  obtain ⟨t, ht⟩ := hi k _ (Array.getElem?_eq_getElem hk)
  refine ⟨t, ?_⟩
  show some (acc.getD k .none) = _
  rw [Array.getD_eq_getD_getElem?, Array.getElem?_eq_getElem hk, ← ht]
  rfl
theorem next_out {it p : Addr} {n : Nat} {last : Value} {idx : List Nat} {Q : Value → Shared → Prop} (hit : IsC s.heap it p 1 last idx) (hp : IsPool s.heap p n) (hb : ∀ j ∈ idx, j < n) (hl : idx.length ≤ 1000)
    (h : ∀ (h' : Heap) (us : List Value), us.length = idx.length → (∀ (j k : Nat) , idx[j]? = some k → ∃ t, us[j]? = some (Value.int (k : Int) t)) → IsC h' it p 1 (.ref s.heap.objs.size) idx → h'.get? s.heap.objs.size = some { cls := .type "tuple", data := .seq us.toArray } →
      (∀ b o, b ≠ it → s.heap.get? b = some o → h'.get? b = some o) → Q (.ref s.heap.objs.size) { s with heap := h' }) :
    wpAny (model prog w) A ((Builtin.Itertools.itPoolItems (.ref p) >>= fun items => newTuple (idx.map fun i => items.getD i .none)) >>= fun result => field (.ref it) 2 >>= fun before => setField (.ref it) 2 result >>= fun _ => letGo [before] [result] >>= fun _ => ret result) (fun fin s' => ∃ v, fin = .done (.ret v) ∧ Q v s') E s := by
  refine wpAny_bind (pick_at hp hb hl fun us hu hx => ?_)
  have lt := Heap.lt_size hit
  have hit2 : IsC (s.heap.push { cls := .type "tuple", data := .seq us.toArray }) it p 1 last idx := Heap.get?_push_of_some _ hit
  refine wpAny_bind (field_at (s := { s with heap := s.heap.push { cls := .type "tuple", data := .seq us.toArray } }) hit2 (x := last) rfl ?_)
  refine wpAny_bind (wpAny_setField hit2 rfl (by simp [recC]) ?_)
  refine wpAny_bind (wpAny_letGo (wpAny_pure ⟨_, rfl, h _ us hu hx ?_ ?_ ?_⟩))
  · show ((s.heap.push _).update it _).get? it = _
    rw [Heap.get?_update_self _ hit2 rfl]
    simp [recC, Obj.mapFields]
  · have ne : s.heap.objs.size ≠ it := Nat.ne_of_gt lt
    exact (Heap.SameBut.update ..).2 _ ne |>.trans (Heap.get?_push_size _ rfl)
  · intro b o hb' e
    exact ((Heap.SameBut.update ..).2 _ hb').trans (Heap.get?_push_of_some _ e)
theorem comb_first {it p : Addr} {n : Nat} {last : Value} {idx : List Nat} {Q : Option Value → Shared → Prop} (hit : IsC s.heap it p 0 last idx) (hp : IsPool s.heap p n) (hb : ∀ j ∈ idx, j < n) (hl : idx.length ≤ 1000)
    (h : ∀ (h' : Heap) (us : List Value), us.length = idx.length → (∀ (j k : Nat) , idx[j]? = some k → ∃ t, us[j]? = some (Value.int (k : Int) t)) → IsC h' it p 1 (.ref s.heap.objs.size) idx → h'.get? s.heap.objs.size = some { cls := .type "tuple", data := .seq us.toArray } →
      (∀ b o, b ≠ it → s.heap.get? b = some o → h'.get? b = some o) → Q (some (.ref s.heap.objs.size)) { s with heap := h' }) :
    wpAny (model prog w) A (callSpecial? (.ref it) "__next__") Q E s := by
  have hT : s.TypeIs (.ref it) "itertools.combinations" := ⟨_, hit, rfl⟩
  refine wpAny_callSpecial?_slot (name := Str.ofString "__next__") hT slot_c_next (wpAny_call_entry slot_c_next hT entry_c_next ?_ (args_c_next _))
  show wpAny _ _ (field (.ref it) 0 >>= _) _ _ s
  refine wpAny_bind (field_at hit (x := .ref p) rfl ?_)
  show wpAny _ _ (Builtin.Itertools.itNumbersFrom (.ref it) 3 >>= _) _ _ s
  refine wpAny_bind (numbers_at hit ?_)
  show wpAny _ _ (Builtin.Itertools.itIntField (.ref it) 1 >>= _) _ _ s
  refine wpAny_bind (state_at hit ?_)
  show wpAny _ _ (setField (.ref it) 1 (rawInt 1) >>= _) _ _ s
  refine wpAny_bind (wpAny_setField hit rfl (by simp [recC]) ?_)
  have sb := Heap.SameBut.update s.heap it (Obj.mapFields fun x => x.setIfInBounds 1 (rawInt 1))
  have hit2 : IsC (s.heap.update it (Obj.mapFields fun x => x.setIfInBounds 1 (rawInt 1))) it p 1 last idx := by
    show (s.heap.update it _).get? it = _
    rw [Heap.get?_update_self _ hit rfl]
    simp [recC, Obj.mapFields]
  have pit : p ≠ it := fun z => by
    obtain ⟨acc, ho, _⟩ := hp
    rw [z, hit] at ho
    exact absurd (Value.type.inj (congrArg Obj.cls (Option.some.inj ho))) (by decide)
  have hp2 : IsPool (s.heap.update it (Obj.mapFields fun x => x.setIfInBounds 1 (rawInt 1))) p n := by
    obtain ⟨acc, ho, r⟩ := hp
    exact ⟨acc, (sb.2 p pit).trans ho, r⟩
  refine next_out (s := { s with heap := s.heap.update it (Obj.mapFields fun x => x.setIfInBounds 1 (rawInt 1)) }) hit2 hp2 hb hl fun h' us hu hx hi ht hk => ?_
  have e : (s.heap.update it (Obj.mapFields fun x => x.setIfInBounds 1 (rawInt 1))).objs.size = s.heap.objs.size := sb.1
  rw [e] at hi ht ⊢
  exact h h' us hu hx hi ht fun b o hb e => hk b o hb ((sb.2 b hb).trans e)
theorem comb_more {it p : Addr} {n : Nat} {last : Value} {idx nx : List Nat} {Q : Option Value → Shared → Prop} (hit : IsC s.heap it p 1 last idx) (hp : IsPool s.heap p n) (hn : nextC n idx = some nx) (hb : ∀ j ∈ nx, j < n) (hl : nx.length ≤ 1000)
    (h : ∀ (h' : Heap) (us : List Value), us.length = nx.length → (∀ (j k : Nat) , nx[j]? = some k → ∃ t, us[j]? = some (Value.int (k : Int) t)) → IsC h' it p 1 (.ref s.heap.objs.size) nx → h'.get? s.heap.objs.size = some { cls := .type "tuple", data := .seq us.toArray } →
      (∀ b o, b ≠ it → s.heap.get? b = some o → h'.get? b = some o) → Q (some (.ref s.heap.objs.size)) { s with heap := h' }) :
    wpAny (model prog w) A (callSpecial? (.ref it) "__next__") Q E s := by
  have hT : s.TypeIs (.ref it) "itertools.combinations" := ⟨_, hit, rfl⟩
  refine wpAny_callSpecial?_slot (name := Str.ofString "__next__") hT slot_c_next (wpAny_call_entry slot_c_next hT entry_c_next ?_ (args_c_next _))
  show wpAny _ _ (field (.ref it) 0 >>= _) _ _ s
  refine wpAny_bind (field_at hit (x := .ref p) rfl ?_)
  show wpAny _ _ (Builtin.Itertools.itNumbersFrom (.ref it) 3 >>= _) _ _ s
  refine wpAny_bind (numbers_at hit ?_)
  show wpAny _ _ (Builtin.Itertools.itIntField (.ref it) 1 >>= _) _ _ s
  refine wpAny_bind (state_at hit ?_)
  show wpAny _ _ (Builtin.Itertools.itPoolItems (.ref p) >>= _) _ _ s
  obtain ⟨acc, ho, hs, hi⟩ := id hp
  refine wpAny_bind ?_
  unfold Builtin.Itertools.itPoolItems
  refine wpAny_bind (wpAny_seqItems ho rfl ?_)
  refine wpAny_pure ?_
  show wpAny _ _ (match nextC acc.size idx with | some next => _ | none => _) _ _ s
  rw [hs, hn]
  show wpAny _ _ (Builtin.Itertools.itSetNumbersFrom (.ref it) 3 nx >>= _) _ _ s
  refine wpAny_bind ?_
  unfold Builtin.Itertools.itSetNumbersFrom
  refine wpAny_updateFields hit rfl ?_ ?_
  · have sb := Heap.SameBut.update s.heap it (Obj.mapFields fun fs => fs.extract 0 3 ++ (nx.map fun (n : Nat) => rawInt n).toArray)
    have hit2 : IsC (s.heap.update it (Obj.mapFields fun fs => fs.extract 0 3 ++ (nx.map fun (n : Nat) => rawInt n).toArray)) it p 1 last nx := by
      show (s.heap.update it _).get? it = _
      rw [Heap.get?_update_self _ hit rfl]
      simp [recC, Obj.mapFields]
    have pit : p ≠ it := fun z => by
      rw [z, hit] at ho
      exact absurd (Value.type.inj (congrArg Obj.cls (Option.some.inj ho))) (by decide)
    have hp2 : IsPool (s.heap.update it (Obj.mapFields fun fs => fs.extract 0 3 ++ (nx.map fun (n : Nat) => rawInt n).toArray)) p n := ⟨acc, (sb.2 p pit).trans ho, hs, hi⟩
    refine next_out (s := { s with heap := s.heap.update it (Obj.mapFields fun fs => fs.extract 0 3 ++ (nx.map fun (n : Nat) => rawInt n).toArray) }) hit2 hp2 hb hl fun h' us hu hx hi ht hk => ?_
    have e : (s.heap.update it (Obj.mapFields fun fs => fs.extract 0 3 ++ (nx.map fun (n : Nat) => rawInt n).toArray)).objs.size = s.heap.objs.size := sb.1
    rw [e] at hi ht ⊢
    exact h h' us hu hx hi ht fun b o hb e => hk b o hb ((sb.2 b hb).trans e)
  · have a : ((recC p 1 last idx).extract 0 3 ++ (nx.map fun (n : Nat) => rawInt n).toArray).size ≤ 3 + 1000 := by
      rw [Array.size_append, Array.size_extract, List.size_toArray, List.size_toArray, List.length_map]
      omega
    exact Nat.le_trans a (by rw [sizeLine_eq]; decide)
theorem comb_end {it p : Addr} {n : Nat} {st : Int} {last : Value} {idx : List Nat} {Q : Option Value → Shared → Prop} (hh : A.handled = none) (hit : IsC s.heap it p st last idx) (hp : IsPool s.heap p n) (hs : st = 2 ∨ (st = 1 ∧ nextC n idx = none))
    (hQ : ∀ e h', CpRep.StopE e h' → Heap.ExtBut it s.heap h' → E e { s with heap := h' }) : wpAny (model prog w) A (callSpecial? (.ref it) "__next__") Q E s := by
  have hT : s.TypeIs (.ref it) "itertools.combinations" := ⟨_, hit, rfl⟩
  refine wpAny_callSpecial?_slot (name := Str.ofString "__next__") hT slot_c_next (wpAny_call_entry slot_c_next hT entry_c_next ?_ (args_c_next _))
  show wpAny _ _ (field (.ref it) 0 >>= _) _ _ s
  refine wpAny_bind (field_at hit (x := .ref p) rfl ?_)
  show wpAny _ _ (Builtin.Itertools.itNumbersFrom (.ref it) 3 >>= _) _ _ s
  refine wpAny_bind (numbers_at hit ?_)
  show wpAny _ _ (Builtin.Itertools.itIntField (.ref it) 1 >>= _) _ _ s
  refine wpAny_bind (state_at hit ?_)
  have stop : ∀ {h0 : Heap}, Heap.ExtBut it s.heap h0 → wpAny (model prog w) A.in1 (Builtin.Itertools.itStop : Sem Fin) (fun fin s' => ∃ v, fin = .done (.ret v) ∧ Q (some v) s') E { s with heap := h0 } := fun {h0} eb => by
    unfold Builtin.Itertools.itStop
    show wpAny _ _ (newExc (.type "StopIteration") [] >>= _) _ _ _
    refine wpAny_bind ?_
    simp only [newExc, newTuple]
    refine wpAny_bind (wpAny_newObj_type ?_ (by size_fits))
    refine wpAny_bind (m := firstArgMember _ _) (wpAny_of_eq (a := Value.none) (by first | rfl | (simp only [firstArgMember]; rfl)) ?_)
    refine wpAny_newObj_type ?_ (by size_fits)
    simp only [raiseNew]
    refine wpAny_bind (wpAny_handled ?_)
    first | rw [show A.in1.handled = none from hh] | rw [hh]
    refine wpAny_bind (wpAny_pure (wpAny_throw ?_))
    exact hQ _ _ ⟨_, _, _, rfl, Heap.get?_push_size _ rfl, rfl, rfl, rfl⟩ ((eb.push _).push _)
  rcases hs with rfl | ⟨rfl, hn⟩
  · show wpAny _ _ (PySem.rule "itertools.combinations.ended" >>= _) _ _ s
    exact wpAny_bind (wpAny_rule (stop (Heap.ExtBut.refl it s.heap)))
  · show wpAny _ _ (Builtin.Itertools.itPoolItems (.ref p) >>= _) _ _ s
    obtain ⟨acc, ho, hs, hi⟩ := id hp
    refine wpAny_bind ?_
    unfold Builtin.Itertools.itPoolItems
    refine wpAny_bind (wpAny_seqItems ho rfl ?_)
    refine wpAny_pure ?_
    show wpAny _ _ (match nextC acc.size idx with | some next => _ | none => _) _ _ s
    rw [hs, hn]
    show wpAny _ _ (setField (.ref it) 1 (rawInt 2) >>= _) _ _ s
    refine wpAny_bind (wpAny_setField hit rfl (by simp [recC]) ?_)
    exact stop (Heap.SameBut.update ..).extBut
theorem iter_self {it p : Addr} {st : Int} {last : Value} {idx : List Nat} {Q : Value → Shared → Prop} (hit : IsC s.heap it p st last idx) (h : Q (.ref it) s) : wpAny (model prog w) A (pyIter (.ref it)) Q E s := by
  have hT : s.TypeIs (.ref it) "itertools.combinations" := ⟨_, hit, rfl⟩
  refine wpAny_pyIter_slot hT slot_c_iter (wpAny_call_entry slot_c_iter hT entry_c_iter ?_ (args_c_iter _))
  show wpAny _ _ (ret (.ref it)) _ _ s
  exact wpAny_pure ⟨_, rfl, "itertools.combinations", _, hT, slot_c_next.lookup, h⟩
theorem next_of {it : Addr} {Q : Option Value → Shared → Prop} (h : wpAny (model prog w) A (callSpecial? (.ref it) "__next__") (fun r s' => r.isSome = true ∧ Q r s') (fun e s' => CpRep.StopE e s'.heap ∧ Q none s') s) : wpAny (model prog w) A (pyNext (.ref it)) Q E s := by
  unfold pyNext
  refine wpAny_bind (wpAny_attempt (wpAny_mono h (fun r s' q => ?_) fun e s' q => ?_))
  · cases r with
    | none => cases q.1
    | some v => exact wpAny_pure q.2
  · obtain ⟨⟨a, o, vs, rfl, ho, hc, hd, _⟩, q⟩ := q
    refine wpAny_bind (wpAny_isInstance (T := "StopIteration") (b := true) ⟨o, ho, hc⟩ isSubtype_stop ?_)
    exact wpAny_pure q
end
end Cmb

namespace Cmb
open PySem PySem.Spec PyProof.Rows L2
theorem class_at (rest : List Value) : Builtin.Itertools.itClassAndRest "combinations" ⟨.type "itertools.combinations" :: rest, []⟩ = pure (.type "itertools.combinations", rest) := by
  unfold Builtin.Itertools.itClassAndRest
  show (isSubtype (.type "itertools.combinations") (.type "itertools.combinations") >>= _) = _
  rw [sub_c]
  rfl
theorem bind_at (a b : Value) : Builtin.Itertools.itBindNamed "combinations" ["iterable", "r"] 2 2 [a, b] [] = pure [some a, some b] := by kernel_rfl
theorem ssize_at {r : Nat} {t : Tok} (h : r ≤ 1000) : Builtin.Itertools.itSsizeArg (.int r t) = pure (r : Int) := by
  unfold Builtin.Itertools.itSsizeArg
  show (if (decide ((r : Int) < -(2 ^ 63 : Int)) || decide ((r : Int) ≥ 2 ^ 63)) = true then _ else _) = _
  rw [decide_eq_false (by omega : ¬ ((r : Int) < -(2 ^ 63 : Int))), decide_eq_false (by omega : ¬ ((r : Int) ≥ 2 ^ 63))]
  rfl
theorem plain_c_new : plainId "itertools.combinations.__new__" = true := by decide +kernel
section
variable {prog : Program} {w : World} {A : Around} {E : Value → Shared → Prop} {s : Shared}
end
end Cmb

namespace Cmb
open PySem PySem.Spec PyProof.Rows L2
theorem combs_low (n : Nat) : ∀ r d lo, lo + d = n → ∀ l ∈ combs n r d lo, ∀ j ∈ l, lo ≤ j ∧ j < n
  | 0, d, lo, _, l, h, j, hj => by
    cases d <;> (rw [combs] at h; rw [List.mem_singleton] at h; rw [h] at hj; cases hj)
  | r + 1, 0, lo, _, l, h, j, hj => by
    rw [combs] at h
    cases h
  | r + 1, d + 1, lo, e, l, h, j, hj => by
    rw [combs, List.mem_append, List.mem_map] at h
    rcases h with ⟨t, ht, rfl⟩ | h
    · rcases List.mem_cons.mp hj with rfl | hj
      · omega
      · have := combs_low n r d (lo + 1) (by omega) t ht j hj
        omega
    · have := combs_low n (r + 1) d (lo + 1) (by omega) l h j hj
      omega
theorem choices_low {n r : Nat} {l : List Nat} (h : l ∈ choices n r) : ∀ j ∈ l, j < n := fun j hj => (combs_low n r n 0 (Nat.zero_add n) l h j hj).2
noncomputable def natT (l : List Nat) : List V := l.map fun (j : Nat) => V.int (j : Int)
/-- one choice after the other, each a new tuple -/
noncomputable def YC (n r : Nat) (i : Nat) (H : Hp) (x : V) (H' : Hp) : Prop := ∃ (T : Addr) (l : List Nat), x = .ref T ∧ H T = none ∧ (choices n r)[i]? = some l ∧ H' = upd H T (.tup (natT l))
noncomputable def Itcb (n r : Nat) : It := ⟨fun i _ => i < (choices n r).length, YC n r, fun i _ => (choices n r).length ≤ i⟩
/-- the iterator's state ahead of turn i -/
noncomputable def St (n r : Nat) (it p : Addr) (i : Nat) (h : Heap) : Prop := p ≠ it ∧ IsPool h p n ∧ match i with
  | 0 => ∃ last, IsC h it p (if r > n then 2 else 0) last (List.range r)
  | i + 1 => ∃ last l, (choices n r)[i]? = some l ∧ IsC h it p 1 last l
theorem turn_comb {P : Program} {w : World} {K : PySem.W.Frag} {tg : Expr} (it p : Addr) (n r : Nat) (r1000 : r ≤ 1000) : Turn P w K tg (Itcb n r) [it, p] it (St n r it p) where
  mem := by simp
  obj := fun i h st b hb => by
    obtain ⟨ne, ⟨acc, hp, _⟩, hi⟩ := st
    have e' : b = it ∨ b = p := by simpa using hb
    rcases e' with z | z
    · rw [z]
      cases i with
      | zero => obtain ⟨last, hi⟩ := hi; exact ⟨_, hi, fun v q => nomatch (show Data.fields _ = Data.cell v from q)⟩
      | succ i => obtain ⟨last, l, _, hi⟩ := hi; exact ⟨_, hi, fun v q => nomatch (show Data.fields _ = Data.cell v from q)⟩
    · rw [z]
      exact ⟨_, hp, fun v q => nomatch (show Data.seq _ _ = Data.cell v from q)⟩
  keep := fun i h h' st k => by
    obtain ⟨ne, ⟨acc, hp, hs⟩, hi⟩ := st
    refine ⟨ne, ⟨acc, k p (by simp) _ hp, hs⟩, ?_⟩
    cases i with
    | zero => obtain ⟨last, hi⟩ := hi; exact ⟨last, k it (by simp) _ hi⟩
    | succ i => obtain ⟨last, l, e, hi⟩ := hi; exact ⟨last, l, e, k it (by simp) _ hi⟩
  item := by
    intro X hP hw hK hc i pins s σ H E I hf st hg
    subst hP hw hK
    obtain ⟨ne, pool, hi⟩ := st
    have hil : it < s.heap.objs.size := by
      cases i with
      | zero => obtain ⟨last, hi⟩ := hi; exact Heap.lt_size hi
      | succ i => obtain ⟨last, l, _, hi⟩ := hi; exact Heap.lt_size hi
    have hpl : p < s.heap.objs.size := by
      obtain ⟨acc, hp, _⟩ := pool
      exact Heap.lt_size hp
    have gl : i < (choices n r).length := hg
    obtain ⟨nx, enx⟩ : ∃ nx, (choices n r)[i]? = some nx := ⟨_, List.getElem?_eq_getElem gl⟩
    have low := choices_low (List.mem_of_getElem? enx)
    have len := choices_len (List.mem_of_getElem? enx)
    have fin : ∀ (h' : Heap) (us : List Value), us.length = nx.length → (∀ (j k : Nat) , nx[j]? = some k → ∃ t, us[j]? = some (Value.int (k : Int) t)) → IsC h' it p 1 (.ref s.heap.objs.size) nx → h'.get? s.heap.objs.size = some { cls := .type "tuple", data := .seq us.toArray } →
        (∀ b o, b ≠ it → s.heap.get? b = some o → h'.get? b = some o) →
        ∃ u, (some (Value.ref s.heap.objs.size)) = some u ∧ wpAny (model X.prog X.w) X.A (letOwnedTupleGo tg (.ref it) u) (fun _ s2 => ∃ x H', Inv X pins σ H' s2 ∧ RelV x u ∧ (Itcb n r).yld i H x H' ∧ St n r it p (i + 1) s2.heap ∧ ∀ b ∈ [it, p], H' b = none) E { s with heap := h' } := fun h' us hu hx hi ht hk => by
      have rel : Vals (natT nx) us := vals_of_at (by unfold natT; rw [List.length_map, hu]) fun j x u e1 e2 => by
        unfold natT at e1
        rw [List.getElem?_map] at e1
        cases e3 : nx[j]? with
        | none => rw [e3] at e1; cases e1
        | some k =>
          rw [e3] at e1
          cases e1
          obtain ⟨t, e4⟩ := hx j k e3
          rw [e4] at e2
          cases e2
          exact ⟨t, rfl⟩
      have new : ObjOk X.prog X.w (upd H s.heap.objs.size (.tup (natT nx))) h' s.heap.objs.size (.tup (natT nx)) :=
        ⟨by unfold natT; rw [List.length_map, len]; exact Nat.le_trans r1000 (by decide), us, rel, ⟨_, ht, rfl, _, rfl⟩⟩
      have I1 : Inv X pins σ (upd H s.heap.objs.size (.tup (natT nx))) { s with heap := h', toks := s.toks } :=
        I.turnedNew (ch := [it, p]) (fun b ob hb q => hk b ob (fun z => hb (by simp [z])) q) hf (Nat.le_refl _) new
      refine ⟨_, rfl, go_of (s := { s with heap := h' }) (n := "itertools.combinations") hi rfl rfl (by decide) ⟨.ref s.heap.objs.size, _, I1, rfl, ⟨_, nx, rfl, I.hok.fresh (Nat.le_refl _), enx, rfl⟩, ⟨ne, ?_, _, nx, enx, hi⟩, fun b hb => ?_⟩⟩
      · obtain ⟨acc, hp, hs⟩ := pool
        exact ⟨acc, hk p _ ne hp, hs⟩
      · have hb' : b < s.heap.objs.size := by
          have e' : b = it ∨ b = p := by simpa using hb
          rcases e' with z | z
          · rw [z]; exact hil
          · rw [z]; exact hpl
        rw [upd_ne (Nat.ne_of_lt hb')]
        exact (hf b hb).1
    refine next_of ?_
    cases i with
    | zero =>
      obtain ⟨last, hi⟩ := hi
      have rn : r ≤ n := by
        rcases Nat.lt_or_ge n r with z | z
        · rw [choices_none z] at gl
          cases gl
        · exact z
      have st0 : (if r > n then (2 : Int) else 0) = 0 := if_neg (by omega)
      rw [st0] at hi
      rw [choices_first rn] at enx
      cases enx
      exact comb_first hi pool low (by rw [len]; exact r1000) fun h' us a b c d e => ⟨rfl, fin h' us a b c d e⟩
    | succ i =>
      obtain ⟨last, l, e, hi⟩ := hi
      have hn := choices_next e
      rw [enx] at hn
      exact comb_more hi pool hn low (by rw [len]; exact r1000) fun h' us a b c d e => ⟨rfl, fin h' us a b c d e⟩
  done := by
    intro X hP hw hK hc i pins s σ H E I hf st hg
    subst hP hw hK
    obtain ⟨ne, pool, hi⟩ := st
    obtain ⟨f0, f1, f2, f3, f4, f5⟩ := hf it (by simp)
    have gl : (choices n r).length ≤ i := hg
    refine next_of ?_
    have fin : ∀ e h', CpRep.StopE e h' → Heap.ExtBut it s.heap h' → CpRep.StopE e h' ∧ ((none : Option Value) = none ∧ Inv X pins σ H { s with heap := h' }) := fun e h' se eb => ⟨se, rfl, I.turned (t' := s.toks) (fun b o hb e => eb b o hb e) f0 f1 f3 f4 f5⟩
    cases i with
    | zero =>
      obtain ⟨last, hi⟩ := hi
      have rn : r > n := by
        rcases Nat.lt_or_ge n r with z | z
        · exact z
        · have := choices_first z
          rw [List.length_eq_zero_iff.mp (Nat.le_zero.mp gl)] at this
          cases this
      exact comb_end (I.ok.hd hc) hi pool (.inl (if_pos rn)) fin
    | succ i =>
      obtain ⟨last, l, e, hi⟩ := hi
      have hn := choices_next e
      rw [List.getElem?_eq_none gl] at hn
      exact comb_end (I.ok.hd hc) hi pool (.inr ⟨rfl, hn⟩) fin
  self := fun A i s Q E st h => by
    obtain ⟨ne, pool, hi⟩ := st
    cases i with
    | zero => obtain ⟨last, hi⟩ := hi; exact iter_self hi h
    | succ i => obtain ⟨last, l, e, hi⟩ := hi; exact iter_self hi h
section
variable {X : Cx} {tg : Expr}
theorem walk_comb {n r : Nat} : Walk (Itcb n r) (choices n r).length (fun _ => True) (YC n r) := ⟨fun _ _ h _ => h, fun _ _ => Nat.le_refl _, fun _ _ _ _ _ _ y => y⟩
end
end Cmb

/-! Places within a text: a block's statement, a statement's block, its expression, an expression's part. -/
namespace GL
open PySem PySem.Spec PyProof.Rows L2
noncomputable def wS (l : List Stmt) (i : Nat) : Stmt := l.getD i (.Pass ⟨0, 0, 0, 0⟩)
noncomputable def wN : Expr := .Name "" ⟨0, 0, 0, 0⟩
noncomputable def wB : Stmt → Nat → List Stmt
  | .If _ b _ _, 0 => b
  | .If _ _ b _, 1 => b
  | .For _ _ b _ _, 0 => b
  | .For _ _ _ b _, 1 => b
  | .While _ b _ _, 0 => b
  | .While _ _ b _, 1 => b
  | .Try b _ _ _ _, 0 => b
  | .Try _ _ b _ _, 1 => b
  | .Try _ hs _ _ _, n => match hs[n - 2]? with | some (.ExceptHandler _ _ b _) => b | none => []
  | _, _ => []
noncomputable def wX : Stmt → Nat → Expr
  | .Return (some e) _, 0 => e
  | .Assign _ e _, 0 => e
  | .Assign ts _ _, n => ts.getD (n - 1) wN
  | .AugAssign _ _ e _, 0 => e
  | .AugAssign t _ _ _, _ => t
  | .Expr e _, _ => e
  | .If c _ _ _, _ => c
  | .While c _ _ _, _ => c
  | .For _ i _ _ _, 0 => i
  | .For t _ _ _ _, _ => t
  | .Raise (some e) _ _, _ => e
  | .Delete ts _, n => ts.getD n wN
  | _, _ => wN
noncomputable def wC : Expr → Scope
  | .ListComp _ _ sc _ => sc
  | .DictComp _ _ _ sc _ => sc
  | _ => { kind := .function, names := [], isGenerator := false, isCoroutine := false }
end GL

namespace GL
open PySem PySem.Spec PyProof.Rows L2
section
variable {P : Program} {w : World} {K : PySem.W.Frag} {mg : Str → Option Value} {base : Heap}
/-- the built-in names that the text uses are still the built-in ones -/
structure Bi (mg : Str → Option Value) : Prop where
  int : mg "int" = none
  len : mg "len" = none
  sum : mg "sum" = none
  max : mg "max" = none
  min : mg "min" = none
  range : mg "range" = none
  isinstance : mg "isinstance" = none
  bool : mg "bool" = none
  list : mg "list" = none
  tuple : mg "tuple" = none
  all : mg "all" = none
  enumerate : mg "enumerate" = none
  repr : mg "repr" = none
  zip : mg "zip" = none
  any : mg "any" = none
  set : mg "set" = none
  sorted : mg "sorted" = none
noncomputable def spHash : Sp := fun vs H Q _ => ∃ b c : Int, vs = [.int b, .int c] ∧ 0 ≤ b ∧ b < 2147483647 ∧ 0 ≤ c ∧ c < 1099511627776 ∧ ∀ r : Int, 0 ≤ r → r < 2147483647 → Q (.int r) H
/-- a list of three numbers that is drawn from: n are the draws' steps that are left -/
noncomputable def Gen (H : Hp) (g : Addr) (n : Nat) : Prop := ∃ a b c : Int, H g = some (.lst [.int a, .int b, .int c]) ∧ 0 ≤ b ∧ b < 2147483647 ∧ 0 ≤ c ∧ c + n ≤ 1099511627000
theorem Gen.less {H : Hp} {g : Addr} {n m : Nat} (h : Gen H g n) (l : m ≤ n) : Gen H g m := by
  obtain ⟨a, b, c, h1, h2, h3, h4, h5⟩ := h
  exact ⟨a, b, c, h1, h2, h3, h4, by omega⟩
/-- all that was tracked but g is as it was -/
noncomputable def But (g : Addr) (H H' : Hp) : Prop := ∀ b o, H b = some o → b ≠ g → H' b = some o
theorem But.refl {g : Addr} {H : Hp} : But g H H := fun _ _ e _ => e
theorem But.trans {g : Addr} {H H1 H2 : Hp} (a : But g H H1) (b : But g H1 H2) : But g H H2 := fun c o e n => b c o (a c o e n) n
theorem But.of {g : Addr} {H H' : Hp} (s : Same H H') : But g H H' := fun b o e _ => s b o e
theorem But.new {g p : Addr} {H : Hp} {o : HO} (h : H p = none) : But g H (upd H p o) := .of (same_new h)
theorem But.put {g : Addr} {H : Hp} {o : HO} : But g H (upd H g o) := fun b o' e n => by rw [upd_ne n]; exact e
theorem Gen.ne {H : Hp} {g p : Addr} {n : Nat} (h : Gen H g n) (e : H p = none) : g ≠ p := by
  obtain ⟨a, b, c, h1, _⟩ := h
  exact ne_of_none h1 e
theorem Gen.new {H : Hp} {g p : Addr} {n : Nat} {o : HO} (h : Gen H g n) (e : H p = none) : Gen (upd H p o) g n := by
  have ne := h.ne e
  obtain ⟨a, b, c, h1, r⟩ := h
  exact ⟨a, b, c, by rw [upd_ne ne]; exact h1, r⟩
theorem Gen.other {H : Hp} {g p : Addr} {n : Nat} {o : HO} (h : Gen H g n) (ne : p ≠ g) : Gen (upd H p o) g n := by
  obtain ⟨a, b, c, h1, r⟩ := h
  exact ⟨a, b, c, by rw [upd_ne ne.symm]; exact h1, r⟩
noncomputable def spRandom : Sp := fun vs H Q _ => ∃ (g : Addr) (m : Int) (n : Nat), vs = [.ref g, .int m] ∧ 0 < m ∧ m < 1329227995784915872903807060280344576 ∧ Gen H g (n + 5) ∧
  ∀ (r : Int) (H' : Hp), 0 ≤ r → r < m → Gen H' g n → But g H H' → Q (.int r) H'
theorem bits_le {m : Int} (h0 : 0 < m) (h : m < 1329227995784915872903807060280344576) : (Builtin.Int.intBits m : Int) / 30 ≤ 4 ∧ 0 ≤ (Builtin.Int.intBits m : Int) / 30 := by
  have l : m.natAbs < 2 ^ 120 := by omega
  have b : Builtin.Int.intBits m ≤ 120 := by
    have x := PySem.Flt.log2_lt_of (by decide : 0 < 120) l
    unfold Builtin.Int.intBits
    split <;> omega
  omega
theorem cut_ints (ns : List Int) (lo hi : Option Int) : ∃ l : List Int, cutV (ns.map V.int) lo hi = l.map V.int ∧ l.length ≤ ns.length := by
  refine ⟨(ns.drop (HT.sIx (ns.map V.int).length 0 lo)).take (HT.sIx (ns.map V.int).length (ns.map V.int).length hi - HT.sIx (ns.map V.int).length 0 lo), ?_, ?_⟩
  · unfold cutV
    rw [← List.map_drop, ← List.map_take]
  · rw [List.length_take, List.length_drop]
    omega
noncomputable def spCell (K : PySem.W.Frag) : Sp := fun vs H Q _ => ∃ (a : Addr) (ns : List Int) (i : Nat), vs = [.ref a, .int i] ∧ SqL K H a (ns.map V.int) ∧ ∀ (r : Int) (H' : Hp), Same H H' → Q (.int r) H'
noncomputable def spGen (K : PySem.W.Frag) : Sp := fun vs H Q _ => ∃ (a : Addr) (ns : List Int) (i : Nat), vs = [.ref a, .int i] ∧ i ≤ 100 ∧ SqL K H a (ns.map V.int) ∧ ∀ (g : Addr) (H' : Hp), Same H H' → H g = none → Gen H' g 1000000 → Q (.ref g) H'
theorem pow60 : CPowW ((10 : Int) ^ (60 : Int).toNat) 10 := ⟨by decide, by decide +kernel⟩
theorem pow600 : (0 : Int) < ((10 : Int) ^ (60 : Int).toNat) ^ (10 : Int).toNat := Int.pow_pos (Int.pow_pos (by decide))
noncomputable def whole (d : PyData) : Bool := isInt d && !isBool d
noncomputable def below (k : Int) : PyData → Bool
  | .int i => decide (0 ≤ i) && decide (i < k)
  | _ => false
noncomputable def rowOk (k n : Int) : PyData → Bool
  | .list ds => decide ((ds.length : Int) = n) && ds.all (below k)
  | _ => false
noncomputable def rowsOk (k : Int) : Nat → List PyData → Bool
  | _, [] => true
  | n, d :: ds => rowOk k n d && rowsOk k (n + 1) ds
noncomputable def compOk (k : Int) : PyData → Bool
  | .list ds => (decide (1 ≤ ds.length) && decide (ds.length ≤ 40)) && rowsOk k 0 ds
  | _ => false
noncomputable def spWhole (K : PySem.W.Frag) : Sp := fun vs H Q _ => ∃ x d, vs = [x] ∧ Dt K H x d ∧ Q (.bl (whole d)) H
noncomputable def spBelow (K : PySem.W.Frag) : Sp := fun vs H Q _ => ∃ x d k, vs = [x, .int k] ∧ Dt K H x d ∧ Q (.bl (below k d)) H
theorem whole_cases (d : PyData) : (∃ i, d = .int i ∧ whole d = true) ∨ (whole d = false ∧ ∀ k, below k d = false) := by
  cases d with
  | int i => exact .inl ⟨i, rfl, rfl⟩
  | _ => exact .inr ⟨rfl, fun _ => rfl⟩
/-- the bounds, as the text has written them -/
structure Cs (mg : Str → Option Value) : Prop where
  least : ∃ t, mg "LEAST_KINDS" = some (.int 2 t)
  most : ∃ t, mg "MOST_KINDS" = some (.int 9 t)
  people : ∃ t, mg "MOST_PEOPLE" = some (.int 40 t)
noncomputable def spRow (K : PySem.W.Frag) : Sp := fun vs H Q _ => ∃ x d k n, vs = [.int k, .int n, x] ∧ n ≤ 1000 ∧ Dt K H x d ∧ ∀ H', Same H H' → Q (.bl (rowOk k n d)) H'
theorem take_more {α β : Type} (f : α → β) {l : List α} {i : Nat} {x : α} (h : l[i]? = some x) : (l.take (i + 1)).map f = (l.take i).map f ++ [f x] := by
  rw [List.take_add_one, h, List.map_append]
  rfl
theorem rowsOk_all (k : Int) : ∀ (ds : List PyData) (n : Nat), rowsOk k n ds = (((List.range ds.length).map fun j => rowOk k ((n + j : Nat) : Int) (ds.getD j .none))).all id
  | [], _ => rfl
  | d :: ds, n => by
    have ih := rowsOk_all k ds (n + 1)
    show (rowOk k n d && rowsOk k (n + 1) ds) = _
    rw [ih, List.length_cons, List.range_succ_eq_map, List.map_cons, List.map_map, List.all_cons]
    have e : (List.range ds.length).map (fun j => rowOk k ((n + 1 + j : Nat) : Int) (ds.getD j .none)) = (List.range ds.length).map ((fun j => rowOk k ((n + j : Nat) : Int) ((d :: ds).getD j .none)) ∘ Nat.succ) := by
      refine List.map_congr_left fun j _ => ?_
      show rowOk k ((n + 1 + j : Nat) : Int) (ds.getD j .none) = rowOk k ((n + (j + 1) : Nat) : Int) (ds.getD j .none)
      rw [show n + 1 + j = n + (j + 1) by omega]
    rw [e]
    rfl
theorem all_range_more (f : Nat → Bool) (i : Nat) : (((List.range (i + 1)).map f).map V.bl) = ((List.range i).map f).map V.bl ++ [V.bl (f i)] := by
  rw [List.range_succ, List.map_append, List.map_append]
  rfl
noncomputable def spCompOf (K : PySem.W.Frag) : Sp := fun vs H Q _ => ∃ x d k, vs = [.int k, x] ∧ Dt K H x d ∧ ∀ H', Same H H' → Q (.bl (compOk k d)) H'
/-- at c a list of the lists at rs, which hold the numbers kss -/
structure Tab (H : Hp) (c : Addr) (rs : List Addr) (kss : List (List Int)) : Prop where
  top : H c = some (.lst (rs.map V.ref))
  len : rs.length = kss.length
  row : ∀ (i : Nat) (r : Addr) (ks : List Int), rs[i]? = some r → kss[i]? = some ks → H r = some (.lst (ks.map V.int))
  nd : rs.Nodup
/-- the numbers of a company -/
noncomputable def Fine (k : Int) (kss : List (List Int)) : Prop := ∀ (i : Nat) (ks : List Int), kss[i]? = some ks → ks.length = i ∧ ∀ z ∈ ks, 0 ≤ z ∧ z < k
theorem Tab.same {H H' : Hp} {c : Addr} {rs : List Addr} {kss : List (List Int)} (t : Tab H c rs kss) (s : Same H H') : Tab H' c rs kss := ⟨s _ _ t.top, t.len, fun i r ks a b => s _ _ (t.row i r ks a b), t.nd⟩
theorem Tab.at {H : Hp} {c : Addr} {rs : List Addr} {kss : List (List Int)} (t : Tab H c rs kss) {i : Nat} (hi : i < kss.length) : ∃ r ks, rs[i]? = some r ∧ kss[i]? = some ks ∧ H r = some (.lst (ks.map V.int)) := by
  have h2 : i < rs.length := by rw [t.len]; exact hi
  exact ⟨rs[i], kss[i], List.getElem?_eq_getElem h2, List.getElem?_eq_getElem hi, t.row i _ _ (List.getElem?_eq_getElem h2) (List.getElem?_eq_getElem hi)⟩
theorem cut_to {xs : List V} {i : Nat} (h : i ≤ xs.length) : cutV xs none (some (i : Int)) = xs.take i := by
  unfold cutV
  rw [HT.sIx_none, HT.sIx_nat, Nat.min_eq_left h]
  rfl
theorem Tab.push {H H4 : Hp} {c p : Addr} {rs : List Addr} {kss : List (List Int)} {ks : List Int} (t : Tab H c rs kss) (nc : c ∉ rs) (s : ∀ r ∈ rs, ∀ o, H r = some o → H4 r = some o) (hp : H p = none) (h4 : H4 p = some (.lst (ks.map V.int))) :
    Tab (upd H4 c (.lst (rs.map V.ref ++ [V.ref p]))) c (rs ++ [p]) (kss ++ [ks]) ∧ c ∉ rs ++ [p] := by
  have pc : c ≠ p := ne_of_none t.top hp
  have held : ∀ r ∈ rs, ∃ o, H r = some o := fun r hr => by
    obtain ⟨i, hi⟩ := List.getElem?_of_mem hr
    have h2 : i < kss.length := by rw [← t.len]; exact (List.getElem?_eq_some_iff.mp hi).1
    exact ⟨_, t.row i r _ hi (List.getElem?_eq_getElem h2)⟩
  have np : p ∉ rs := fun hr => by
    obtain ⟨o, e⟩ := held p hr
    rw [hp] at e
    cases e
  refine ⟨⟨?_, ?_, ?_, ?_⟩, ?_⟩
  · rw [upd_same, List.map_append]
    rfl
  · rw [List.length_append, List.length_append, t.len]
    rfl
  · intro i r ks' h1 h2
    by_cases hi : i < rs.length
    · rw [List.getElem?_append_left hi] at h1
      rw [List.getElem?_append_left (by rw [← t.len]; exact hi)] at h2
      have e := t.row i r ks' h1 h2
      have rc : r ≠ c := fun z => nc (by rw [← z]; exact List.mem_of_getElem? h1)
      rw [upd_ne rc]
      exact s r (List.mem_of_getElem? h1) _ e
    · rw [List.getElem?_append_right (by omega)] at h1
      rw [List.getElem?_append_right (by rw [← t.len]; omega)] at h2
      have i0 : i - rs.length = 0 := by
        have := (List.getElem?_eq_some_iff.mp h1).1
        simp at this
        omega
      rw [i0] at h1
      rw [← t.len, i0] at h2
      cases h1
      cases h2
      rw [upd_ne pc.symm]
      exact h4
  · rw [List.nodup_append]
    refine ⟨t.nd, by simp, fun a ha b hb => ?_⟩
    rw [List.mem_singleton] at hb
    subst hb
    exact fun z => np (by rw [← z]; exact ha)
  · rw [List.mem_append, List.mem_singleton]
    rintro (z | z)
    · exact nc z
    · exact pc z
theorem Fine.nil {k : Int} : Fine k [] := fun i ks h => by simp at h
theorem Fine.push {k : Int} {kss : List (List Int)} {ks : List Int} (f : Fine k kss) (l : ks.length = kss.length) (b : ∀ z ∈ ks, 0 ≤ z ∧ z < k) : Fine k (kss ++ [ks]) := by
  intro i ks' h
  by_cases hi : i < kss.length
  · rw [List.getElem?_append_left hi] at h
    exact f i ks' h
  · rw [List.getElem?_append_right (by omega)] at h
    have i0 : i - kss.length = 0 := by
      have := (List.getElem?_eq_some_iff.mp h).1
      simp at this
      omega
    rw [i0] at h
    cases h
    exact ⟨by omega, b⟩
theorem Tab.but {H H' : Hp} {c g : Addr} {rs : List Addr} {kss : List (List Int)} (t : Tab H c rs kss) (b : But g H H') (h1 : c ≠ g) (h2 : g ∉ rs) : Tab H' c rs kss :=
  ⟨b _ _ t.top h1, t.len, fun i r ks x y => b _ _ (t.row i r ks x y) fun z => h2 (by rw [← z]; exact List.mem_of_getElem? x), t.nd⟩
noncomputable def natV (os : List Nat) : List V := os.map fun (j : Nat) => V.int (j : Int)
theorem rg_nat (n : Nat) : rgV 0 (n : Int) = natV (List.range n) := by
  unfold rgV natV
  rw [show ((n : Int) - 0).toNat = n by omega]
  exact List.map_congr_left fun j _ => by rw [Int.zero_add]
theorem notin_new {H : Hp} {g : Addr} {n : Nat} {rs : List Addr} (G : Gen H g n) (nR : ∀ r ∈ rs, H r = none) : g ∉ rs := fun z => by
  obtain ⟨a, b, c, h1, _⟩ := G
  have := nR g z
  rw [h1] at this
  cases this
theorem but_free {H H' : Hp} {g p : Addr} {n' : Nat} (b : But g H H') (G' : Gen H' g n') (hp : H' p = none) : H p = none := by
  have pg : p ≠ g := (G'.ne hp).symm
  cases q : H p with
  | none => rfl
  | some o =>
    rw [b p o q pg] at hp
    cases hp
theorem Gen.same {H H' : Hp} {g : Addr} {n : Nat} (h : Gen H g n) (s : Same H H') : Gen H' g n := by
  obtain ⟨a, b, c, h1, r⟩ := h
  exact ⟨a, b, c, s _ _ h1, r⟩
theorem cut_one (xs : List V) : cutV xs (some 1) none = xs.drop 1 := by
  unfold cutV
  rw [HT.sIx_none, show HT.sIx xs.length 0 (some 1) = min 1 xs.length from HT.sIx_nat xs.length 0 1]
  cases xs with
  | nil => rfl
  | cons x xs =>
    have e : min 1 (x :: xs).length = 1 := by
      rw [List.length_cons]
      omega
    rw [e]
    exact List.take_of_length_le (by rw [List.length_drop]; omega)
theorem gen (H : Hp) {p : Addr} (h : H p = none) (o : HO) : ∃ H', upd H p o = H' ∧ Same H H' ∧ H' p = some o := ⟨_, rfl, same_new h, upd_same⟩
theorem one_le : 1 ≤ sizeLine := by decide
theorem ixN_nat {n j : Nat} (h : j < n) : ixN n (j : Int) = some j := by
  unfold ixN
  rw [if_pos (by omega), if_pos (by omega), Int.toNat_natCast]
noncomputable def rLen (K : PySem.W.Frag) : List V → Hp → VK → Prop := fun xs H Q => ∃ p ys, xs = [.ref p] ∧ (SqL K H p ys ∨ SqT K H p ys) ∧ Q (.int ys.length) H
theorem dts_ints {K : PySem.W.Frag} {H : Hp} : ∀ ks : List Int, Dts K H (ks.map V.int) (ks.map PyData.int)
  | [] => .nil
  | k :: ks => .cons (.int k) (dts_ints ks)
theorem dts_rows {K : PySem.W.Frag} {H : Hp} : ∀ {rs : List Addr} {kss : List (List Int)}, rs.length = kss.length → (∀ (i : Nat) r ks, rs[i]? = some r → kss[i]? = some ks → H r = some (.lst (ks.map V.int))) → Dts K H (rs.map V.ref) (kss.map rowP)
  | [], [], _, _ => .nil
  | [], _ :: _, l, _ => by simp at l
  | _ :: _, [], l, _ => by simp at l
  | r :: rs, ks :: kss, l, h => .cons (.lst (h 0 r ks rfl rfl) (dts_ints ks)) (dts_rows (Nat.succ.inj l) fun i r' ks' a b => h (i + 1) r' ks' a b)
theorem Tab.dt {K : PySem.W.Frag} {H : Hp} {c : Addr} {rs : List Addr} {kss : List (List Int)} (t : Tab H c rs kss) : Dt K H (.ref c) (tabP kss) := .lst t.top (dts_rows t.len t.row)
theorem rows_get {k : Int} {ds : List PyData} (n : Nat) : rowsOk k n ds = true ↔ ∀ (j : Nat) (d : PyData), ds[j]? = some d → rowOk k ((n + j : Nat) : Int) d = true := by
  induction ds generalizing n with
  | nil => exact ⟨fun _ j d h => by simp at h, fun _ => rfl⟩
  | cons a ds ih =>
    show (rowOk k n a && rowsOk k (n + 1) ds) = true ↔ _
    rw [Bool.and_eq_true, ih]
    constructor
    · rintro ⟨h1, h2⟩ j d h
      cases j with
      | zero =>
        cases h
        exact h1
      | succ j =>
        have := h2 j d h
        rwa [show n + 1 + j = n + (j + 1) by omega] at this
    · intro h
      refine ⟨h 0 a rfl, fun j d hd => ?_⟩
      have := h (j + 1) d hd
      rwa [show n + (j + 1) = n + 1 + j by omega] at this
theorem Fine.comp {k : Int} {kss : List (List Int)} (f : Fine k kss) (h1 : 1 ≤ kss.length) (h2 : kss.length ≤ 40) : compOk k (tabP kss) = true := by
  unfold tabP
  show ((decide (1 ≤ (kss.map rowP).length) && decide ((kss.map rowP).length ≤ 40)) && rowsOk k 0 (kss.map rowP)) = true
  rw [List.length_map, decide_eq_true h1, decide_eq_true h2, (rows_get 0).mpr]
  · rfl
  · intro j d hd
    rw [List.getElem?_map] at hd
    cases e : kss[j]? with
    | none =>
      rw [e] at hd
      cases hd
    | some ks =>
      rw [e] at hd
      cases hd
      obtain ⟨a, b⟩ := f j ks e
      show (decide (((ks.map PyData.int).length : Int) = ((0 + j : Nat) : Int)) && (ks.map PyData.int).all (below k)) = true
      rw [List.length_map, decide_eq_true (by omega), List.all_map]
      refine List.all_eq_true.mpr fun z hz => ?_
      obtain ⟨z0, z1⟩ := b z hz
      show (decide (0 ≤ z) && decide (z < k)) = true
      rw [decide_eq_true z0, decide_eq_true z1]
      rfl
noncomputable def nums (l : List Nat) : List Int := l.map fun (j : Nat) => (j : Int)
theorem natV_nums (l : List Nat) : natV l = (nums l).map V.int := by
  unfold natV nums
  rw [List.map_map]
  rfl
noncomputable def rLstL (K : PySem.W.Frag) : List V → Hp → VK → Prop := fun xs H Q => ∃ p ys, xs = [.ref p] ∧ SqL K H p ys ∧ ∀ l, H l = none → Q (.ref l) (upd H l (.lst ys))
theorem call_lstL {X : Cx} : CallR X (.type "list") (rLstL X.K) := fun pins s σ H xs us Q I r ⟨p, ys, e, a, b⟩ => call_list_of pins s σ H xs us Q I r ⟨p, ys, e, .inl a, b⟩
noncomputable def Im (mg : Str → Option Value) : Prop := mg "combinations" = some (.type "itertools.combinations")
noncomputable def rLstT (K : PySem.W.Frag) : List V → Hp → VK → Prop := fun xs H Q => ∃ p ys, xs = [.ref p] ∧ SqT K H p ys ∧ ∀ l, H l = none → Q (.ref l) (upd H l (.lst ys))
theorem call_lstT {X : Cx} : CallR X (.type "list") (rLstT X.K) := fun pins s σ H xs us Q I r ⟨p, ys, e, a, b⟩ => call_list_of pins s σ H xs us Q I r ⟨p, ys, e, .inr a, b⟩
end
end GL

namespace GL
open PySem PySem.Spec PyProof.Rows L2
theorem hid_upd {H : Hp} {f : Addr} {o : HO} : hid (upd H f o) f = hid H f := by
  funext b
  unfold hid
  by_cases h : b = f
  · rw [if_pos h, if_pos h]
  · rw [if_neg h, if_neg h, upd_ne h]
theorem hid_mono {H H' : Hp} {f : Addr} (s : Same H H') : Same (hid H f) (hid H' f) := fun b o e => by
  have n := hid_none e
  rw [hid_ne n] at e ⊢
  exact s b o e
theorem hid_in {H : Hp} {f b : Addr} {o : HO} (e : H b = some o) (n : b ≠ f) : hid H f b = some o := by rw [hid_ne n]; exact e
section
variable {J : It} {n : Nat} {G : Hp → Prop} {Y : Nat → Hp → V → Hp → Prop}
end
end GL

namespace GL
open PySem PySem.Spec PyProof.Rows L2
section
variable {J : It} {n : Nat} {G : Hp → Prop} {Y : Nat → Hp → V → Hp → Prop}
/-- lists at rs, in a list at D, all new -/
structure Objs (H0 H : Hp) (D : Addr) (rs : List Addr) (n : Nat) (o : Nat → HO) : Prop where
  top : H D = some (.lst (rs.map V.ref))
  len : rs.length = n
  row : ∀ (i : Nat) (r : Addr), rs[i]? = some r → H r = some (o i)
  nd : rs.Nodup
  out : D ∉ rs
  new : ∀ r ∈ rs, H0 r = none
/-- a comprehension of new objects -/
theorem lc_objs (w : Walk J n G Y) {g : TG} {te : TE} {vs : List Nat} {σ : L2.St} {H1 : Hp} {D : Addr} {Qd : Hp → Prop} (o : Nat → HO) (hD : H1 D = none) (hn : n ≤ sizeLine)
    (hG : ∀ H', Same H1 H' → G H')
    (hs : ∀ (i : Nat) (x : V) (H2 H3 : Hp) (N : V → Hp → Prop), i < n → Same H1 H2 → Y i H2 x H3 → (∀ H4 r, Same H2 H4 → H2 r = none → H4 r = some (o i) → N (.ref r) H4) →
      g x (wipe σ vs) H3 fun σ2 H4 => wipe σ2 vs = wipe σ vs ∧ te σ2 H4 N)
    (hd : ∀ H' rs, Same H1 H' → Objs H1 H' D rs n o → Qd H') :
    ∃ W : Nat → Nat → Hp → Prop, (∃ m, W 0 m (upd H1 D (.lst []))) ∧ ∀ i m H, W i m H →
      (J.stop i H ∧ Qd H) ∨ (J.go i H ∧ ∃ Nx : Hp → Prop, (∀ H', Nx H' → ∃ m', m' < m ∧ W (i + 1) m' H') ∧ ∀ x H', J.yld i H x H' → g x (wipe σ vs) H' fun σ2 H2 => wipe σ2 vs = wipe σ vs ∧ tYes σ2 H2 fun b H3 =>
        if b = true then te σ2 H3 fun y H4 => ∃ acc, H4 D = some (.lst acc) ∧ acc.length < sizeLine ∧ Nx (upd H4 D (.lst (acc ++ [y]))) else Nx H3) := by
  refine lc_it w (fun i H' => Same H1 H' ∧ ∃ rs, Objs H1 H' D rs i o) ⟨same_new hD, [], upd_same, rfl, fun i r h => by simp at h, List.nodup_nil, by simp, by simp⟩ (fun i H' _ z => hG H' z.1) ?_ fun H' ⟨a, rs, b⟩ => hd H' rs a b
  rintro i x H2 H3 hi ⟨s, rs, e⟩ y
  refine hs i x H2 H3 _ hi s y (fun H4 r s4 nr hr => ?_)
  have rD : D ≠ r := ne_of_none e.top nr
  have nin : r ∉ rs := fun z => by
    obtain ⟨j, hj⟩ := List.getElem?_of_mem z
    have := e.row j r hj
    rw [nr] at this
    cases this
  refine ⟨_, s4 _ _ e.top, ?_, fun b o' e' => ?_, rs ++ [r], ?_, ?_, ?_, ?_, ?_, ?_⟩
  · rw [List.length_map, e.len]
    omega
  · rw [upd_ne (ne_of_none e' hD)]
    exact s4 _ _ (s _ _ e')
  · rw [upd_same, List.map_append]
    rfl
  · rw [List.length_append, e.len]
    rfl
  · intro j a hj
    by_cases c : j < rs.length
    · rw [List.getElem?_append_left c] at hj
      have ne : a ≠ D := fun z => e.out (by rw [← z]; exact List.mem_of_getElem? hj)
      rw [upd_ne ne]
      exact s4 _ _ (e.row j a hj)
    · rw [List.getElem?_append_right (by omega)] at hj
      have j0 : j - rs.length = 0 := by
        have := (List.getElem?_eq_some_iff.mp hj).1
        simp at this
        omega
      rw [j0] at hj
      cases hj
      have ji : j = i := by
        have := e.len
        omega
      subst ji
      rw [upd_ne rD.symm]
      exact hr
  · rw [List.nodup_append]
    refine ⟨e.nd, by simp, fun a ha b hb => ?_⟩
    rw [List.mem_singleton] at hb
    subst hb
    exact fun z => nin (by rw [← z]; exact ha)
  · rw [List.mem_append, List.mem_singleton]
    rintro (z | z)
    · exact e.out z
    · exact rD z
  · intro a ha
    rcases List.mem_append.mp ha with ha | ha
    · exact e.new a ha
    · rw [List.mem_singleton] at ha
      subst ha
      exact s.free nr
theorem Objs.tab {H0 H : Hp} {D : Addr} {rs : List Addr} {n : Nat} {kss : List (List Int)} (r : Objs H0 H D rs n fun i => .lst ((kss.getD i []).map V.int)) (hn : kss.length = n) : Tab H D rs kss :=
  ⟨r.top, r.len.trans hn.symm, fun i a ks h1 h2 => by
    have := r.row i a h1
    rw [List.getD_eq_getElem?_getD, h2] at this
    exact this, r.nd⟩
end
section
variable {X : Cx}
end
end GL

namespace GL
open PySem PySem.Spec PyProof.Rows L2
section
variable {P : Program} {w : World} {K : PySem.W.Frag} {mg : Str → Option Value} {base : Heap}
theorem trues_more (i : Nat) : (List.replicate (i + 1) true).map V.bl = (List.replicate i true).map V.bl ++ [V.bl true] := by
  rw [List.replicate_succ', List.map_append]
  rfl
theorem trues_all (n : Nat) : (List.replicate n true).all id = true := by
  induction n with
  | zero => rfl
  | succ n ih =>
    rw [List.replicate_succ, List.all_cons, ih]
    rfl
structure CoN (H0 H : Hp) (k : Int) (c : Addr) (n : Nat) : Prop where
  ex : ∃ rs kss, Tab H c rs kss ∧ kss.length = n ∧ Fine k kss ∧ c ∉ rs ∧ H0 c = none ∧ ∀ r ∈ rs, H0 r = none
theorem nat_dp {K : PySem.W.Frag} {H : Hp} {o : Addr} {l : List Nat} (h : H o = some (.lst (natV l))) : Dp K H (.ref o) (rowP (nums l)) := dp_row (SqL.of (by rw [← natV_nums]; exact h))
/-- a def of the program, called by the names of its arguments -/
noncomputable def UseK (P : Program) (w : World) (K : PySem.W.Frag) (mg : Str → Option Value) (base : Heap) (x : Str) (ps ks : List Str) (g : List Value → List Value → List Value) (gV : List V → List V → List V) (sp : Sp) (k : Nat) : Prop := ∃ f fd, FnOk P w K mg base CX0 k f fd ps sp ∧ mg x = some (.ref f) ∧ PySem.W.keepIn K (.ref f) = true ∧ KBinds K fd ps ks g gV
end
end GL

/-! Deeds on companies of numbers. -/
namespace GL
open PySem PySem.Spec PyProof.Rows L2
/-- the tie of a and b (a below b) put to v -/
noncomputable def setT (kss : List (List Int)) (b a : Nat) (v : Int) : List (List Int) := kss.set b ((kss.getD b []).set a v)
theorem setT_len (kss : List (List Int)) (b a : Nat) (v : Int) : (setT kss b a v).length = kss.length := List.length_set ..
theorem Fine.row_len {k : Int} {kss : List (List Int)} (f : Fine k kss) {i : Nat} (hi : i < kss.length) : (kss.getD i []).length = i := by
  have := (f i _ (List.getElem?_eq_getElem hi)).1
  rw [List.getD_eq_getElem?_getD, List.getElem?_eq_getElem hi]
  exact this
theorem setT_fine {k : Int} {kss : List (List Int)} (f : Fine k kss) {a b : Nat} (hb : b < kss.length) {v : Int} (v0 : 0 ≤ v) (vk : v < k) : Fine k (setT kss b a v) := by
  intro i ks e
  unfold setT at e
  rw [List.getElem?_set] at e
  by_cases h : b = i
  · subst h
    rw [if_pos rfl, if_pos hb] at e
    cases e
    rw [List.length_set]
    refine ⟨f.row_len hb, fun z hz => ?_⟩
    rcases List.mem_or_eq_of_mem_set hz with h | h
    · refine (f b _ (List.getElem?_eq_getElem hb)).2 z ?_
      rw [List.getD_eq_getElem?_getD, List.getElem?_eq_getElem hb] at h
      exact h
    · subst h
      exact ⟨v0, vk⟩
  · rw [if_neg h] at e
    exact f i ks e
/-! ### fours -/
end GL

namespace GL
open PySem PySem.Spec PyProof.Rows L2
section
variable {J : It} {n : Nat} {G : Hp → Prop} {Y : Nat → Hp → V → Hp → Prop}
end
theorem walk_nat {n : Nat} : Walk (Itr 0 n) n (fun _ => True) (fun i H x H' => H' = H ∧ x = .int (i : Nat)) := ⟨fun _ _ hi _ => hi, fun _ _ => Nat.le_refl _, fun i _ x _ _ _ y => ⟨y.1, by rw [y.2, Int.zero_add]⟩⟩
theorem walk_from {a n : Nat} : Walk (Itr (a : Nat) n) n (fun _ => True) (fun i H x H' => H' = H ∧ x = .int ((a + i : Nat) : Int)) := ⟨fun _ _ hi _ => hi, fun _ _ => Nat.le_refl _, fun i _ x _ _ _ y => ⟨y.1, by rw [y.2]; congr 1⟩⟩
theorem gName_by {i : Nat} {v : V} {σ : L2.St} {H : Hp} {Q : L2.St → Hp → Prop} (h : Q (σ.set i (some v)) H) : gName i v σ H Q := h
end GL

namespace GL
open PySem PySem.Spec PyProof.Rows L2
/-- a number of one row is put -/
theorem Tab.put {H : Hp} {c r : Addr} {rs : List Addr} {kss : List (List Int)} {ks : List Int} {b a : Nat} {v : Int} (t : Tab H c rs kss) (hb : rs[b]? = some r) (hk : kss[b]? = some ks) (cr : c ∉ rs) :
    Tab (upd H r (.lst ((ks.map V.int).set a (.int v)))) c rs (setT kss b a v) := by
  have c1 : c ≠ r := fun z => cr (by rw [z]; exact List.mem_of_getElem? hb)
  refine ⟨by rw [upd_ne c1]; exact t.top, by rw [setT_len]; exact t.len, fun i q ls h1 h2 => ?_, t.nd⟩
  unfold setT at h2
  rw [List.getElem?_set] at h2
  by_cases e : b = i
  · subst e
    rw [if_pos rfl, if_pos (List.getElem?_eq_some_iff.mp hk).1] at h2
    cases h2
    rw [hb] at h1
    cases h1
    rw [upd_same, List.getD_eq_getElem?_getD, hk, List.map_set]
    rfl
  · rw [if_neg e] at h2
    have qr : q ≠ r := fun z => by
      subst z
      have h3 := List.getElem?_eq_some_iff.mp h1
      have h4 := List.getElem?_eq_some_iff.mp hb
      exact e ((List.getElem_inj t.nd).mp (h4.2.trans h3.2.symm))
    rw [upd_ne qr]
    exact t.row i q ls h1 h2
end GL

namespace GL
open PySem PySem.Spec PyProof.Rows L2
/-! ### the parts of a reading, by name -/
theorem tSeq_of {a b : TS} {D : Ends} {σ : L2.St} {H : Hp} (h : a { D with nx := fun σ' H' => b D σ' H' } σ H) : tSeq a b D σ H := h
theorem tNext_of {D : Ends} {σ : L2.St} {H : Hp} (h : D.nx σ H) : tNext D σ H := h
/-! ### texts that fit -/
noncomputable def Fit (B d : Nat) (x : PyData) : Prop := x.shown.length ≤ B ∧ x.showable = true ∧ x.depth ≤ d
theorem Fit.more {B d B' d' : Nat} {x : PyData} (h : Fit B d x) (b : B ≤ B') (e : d ≤ d') : Fit B' d' x := ⟨Nat.le_trans h.1 b, h.2.1, Nat.le_trans h.2.2 e⟩
theorem Fit.list {B d n : Nat} {ds : List PyData} (h : ∀ e ∈ ds, Fit B d e) (l : ds.length ≤ n) : Fit (3 + n * (B + 2)) (d + 1) (.list ds) := by
  have pl := piled_le (B := B) fun x hx => (h x hx).1
  have sh := showableAll_of fun x hx => (h x hx).2.1
  have dp := depthAll_of (n := d) fun x hx => (h x hx).2.2
  have m : ds.length * (B + 2) ≤ n * (B + 2) := Nat.mul_le_mul_right _ l
  refine ⟨?_, by simp only [PyData.showable]; exact sh, by simp only [PyData.depth]; omega⟩
  simp only [PyData.shown]
  have := listText_le (PyData.shownAll ds)
  omega
theorem Fit.fits {B d : Nat} {x : PyData} (h : Fit B d x) (b : B ≤ 16777216) (e : d ≤ 60) : x.showable = true ∧ x.shown.length ≤ sizeLine ∧ x.depth ≤ 60 := ⟨h.2.1, Nat.le_trans h.1 (by rw [sizeLine_eq]; exact b), Nat.le_trans h.2.2 e⟩
/-! ### lots -/
end GL

namespace GL
open PySem PySem.Spec PyProof.Rows L2
end GL

namespace GL
open PySem PySem.Spec PyProof.Rows L2
noncomputable def spLaw (K : PySem.W.Frag) : Sp := fun vs H Q _ => ∃ (a : Addr) (ns : List Int), vs = [.ref a] ∧ SqL K H a (ns.map V.int) ∧ ∀ H', Q (.bl true) H'
end GL

namespace GL
open PySem PySem.Spec PyProof.Rows L2
end GL

/-! Companies with the same words of threes and the same firm fours. -/
namespace GL
open PySem PySem.Spec PyProof.Rows L2
end GL

/-! Data of numbers, lists and tuples alone. -/
namespace GL
open PySem PySem.Spec PyProof.Rows L2
mutual
noncomputable def plainD : PyData → Bool
  | .none => true
  | .bool _ => false
  | .int _ => true
  | .str _ => false
  | .list xs => plainA xs
  | .tuple xs => plainA xs
  | .dict _ => false
noncomputable def plainA : List PyData → Bool
  | [] => true
  | x :: xs => plainD x && plainA xs
end
theorem plainA_of : ∀ {xs : List PyData}, (∀ x ∈ xs, plainD x = true) → plainA xs = true
  | [], _ => by simp only [plainA]
  | x :: xs, h => by
    simp only [plainA]
    rw [h x (List.mem_cons_self ..), plainA_of fun y hy => h y (List.mem_cons_of_mem _ hy)]
    rfl
mutual
theorem plain_lay : ∀ d : PyData, plainD d = true → PyData.canLay0 d = true
  | .none, _ => by simp only [PyData.canLay0]
  | .bool _, h => by simp [plainD] at h
  | .int _, _ => by simp only [PyData.canLay0]
  | .str _, h => by simp [plainD] at h
  | .list xs, h => by
    simp only [plainD] at h
    simp only [PyData.canLay0]
    exact plain_layA xs h
  | .tuple xs, h => by
    simp only [plainD] at h
    simp only [PyData.canLay0]
    exact plain_layA xs h
  | .dict _, h => by simp [plainD] at h
theorem plain_layA : ∀ ds : List PyData, plainA ds = true → PyData.canLayAll0 ds = true
  | [], _ => by simp only [PyData.canLayAll0]
  | d :: ds, h => by
    simp only [plainA, Bool.and_eq_true] at h
    simp only [PyData.canLayAll0]
    rw [plain_lay d h.1, plain_layA ds h.2]
    rfl
end
mutual
theorem plain_eqv : ∀ d e : PyData, plainD d = true → plainD e = true → (PyData.eqv d e = true ↔ d = e)
  | .none, e, _, h => by cases e <;> simp_all [PyData.eqv, plainD]
  | .bool _, _, h, _ => by simp [plainD] at h
  | .int i, e, _, h => by cases e <;> simp_all [PyData.eqv, plainD]
  | .str _, _, h, _ => by simp [plainD] at h
  | .list xs, e, h, k => by
    cases e with
    | list ys =>
      simp only [plainD] at h k
      simp only [PyData.eqv]
      rw [plain_eqvA xs ys h k]
      constructor
      · intro z; rw [z]
      · intro z; injection z
    | none => simp [PyData.eqv]
    | bool _ => simp [plainD] at k
    | int _ => simp [PyData.eqv]
    | str _ => simp [plainD] at k
    | tuple _ => simp [PyData.eqv]
    | dict _ => simp [plainD] at k
  | .tuple xs, e, h, k => by
    cases e with
    | tuple ys =>
      simp only [plainD] at h k
      simp only [PyData.eqv]
      rw [plain_eqvA xs ys h k]
      constructor
      · intro z; rw [z]
      · intro z; injection z
    | none => simp [PyData.eqv]
    | bool _ => simp [plainD] at k
    | int _ => simp [PyData.eqv]
    | str _ => simp [plainD] at k
    | list _ => simp [PyData.eqv]
    | dict _ => simp [plainD] at k
  | .dict _, _, h, _ => by simp [plainD] at h
theorem plain_eqvA : ∀ ds es : List PyData, plainA ds = true → plainA es = true → (PyData.eqvAll ds es = true ↔ ds = es)
  | [], [], _, _ => by simp [PyData.eqvAll]
  | [], _ :: _, _, _ => by simp [PyData.eqvAll]
  | _ :: _, [], _, _ => by simp [PyData.eqvAll]
  | d :: ds, e :: es, h, k => by
    simp only [plainA, Bool.and_eq_true] at h k
    simp only [PyData.eqvAll, Bool.and_eq_true]
    rw [plain_eqv d e h.1 k.1, plain_eqvA ds es h.2 k.2]
    constructor
    · rintro ⟨rfl, rfl⟩; rfl
    · intro z; cases z; exact ⟨rfl, rfl⟩
end
theorem plain_shaped {d : PyData} (h : plainD d = true) (n : d.depth ≤ 64) : SeqAt.shaped d = true := by
  unfold SeqAt.shaped
  rw [plain_lay d h, decide_eq_true n]
  rfl
mutual
theorem Dt.toDp {K : PySem.W.Frag} {H : Hp} : ∀ (d : PyData) (v : V), plainD d = true → Dt K H v d → Dp K H v d
  | .none, _, _, h => by cases h; exact .non
  | .bool _, _, p, _ => by simp [plainD] at p
  | .int i, _, _, h => by cases h; exact .int i
  | .str _, _, p, _ => by simp [plainD] at p
  | .list ds, _, p, h => by
    simp only [plainD] at p
    cases h with
    | lst e a => exact .lst (SqL.of e) (Dts.toDp ds _ p a)
  | .tuple ds, _, p, h => by
    simp only [plainD] at p
    cases h with
    | tup e a => exact .tup (SqT.of e) (Dts.toDp ds _ p a)
  | .dict _, _, p, _ => by simp [plainD] at p
theorem Dts.toDp {K : PySem.W.Frag} {H : Hp} : ∀ (ds : List PyData) (vs : List V), plainA ds = true → Dts K H vs ds → DpAll K H vs ds
  | [], _, _, h => by cases h; exact .nil
  | d :: ds, _, p, h => by
    simp only [plainA, Bool.and_eq_true] at p
    cases h with
    | cons a b => exact .cons (Dt.toDp d _ p.1 a) (Dts.toDp ds _ p.2 b)
end
noncomputable def tupP (ns : List Int) : PyData := .tuple (ns.map PyData.int)
theorem plain_tup (ns : List Int) : plainD (tupP ns) = true := by
  unfold tupP
  simp only [plainD]
  exact plainA_of fun x hx => by
    obtain ⟨n, _, rfl⟩ := List.mem_map.mp hx
    simp only [plainD]
end GL

namespace GL
open PySem PySem.Spec PyProof.Rows L2
end GL

namespace GL
open PySem PySem.Spec PyProof.Rows L2
end GL

namespace GL
open PySem PySem.Spec PyProof.Rows L2
/-! ### two fors in one comprehension -/
theorem lc2_it {J : It} {n : Nat} {G : Hp → Prop} {Y : Nat → Hp → V → Hp → Prop} (w : Walk J n G Y) {g g1 : TG} {tt tt1 : TT} {wi1 : TI} {te : TE} {vs vs1 : List Nat} {σ : L2.St} {H1 : Hp} {D : Addr} {Qd : Hp → Prop} (Pv : Nat → Hp → Prop) (h0 : Pv 0 (upd H1 D (.lst []))) (hG : ∀ i H, i ≤ n → Pv i H → G H)
    (hs : ∀ i x H H', i < n → Pv i H → Y i H x H' → g x (wipe σ vs) H' fun σ2 H2 => wipe σ2 vs = wipe σ vs ∧ tt σ2 H2 fun b H3 =>
      if b = true then wi1 σ2 H3 fun J1 H4 => ∃ W1 : Nat → Nat → Hp → Prop, (∃ m, W1 0 m H4) ∧ ∀ j k H, W1 j k H →
        (J1.stop j H ∧ Pv (i + 1) H) ∨ (J1.go j H ∧ ∃ Nx1 : Hp → Prop, (∀ H', Nx1 H' → ∃ k', k' < k ∧ W1 (j + 1) k' H') ∧ ∀ x H', J1.yld j H x H' → g1 x (wipe σ2 vs1) H' fun σ3 H5 => wipe σ3 vs1 = wipe σ2 vs1 ∧ tt1 σ3 H5 fun b H6 =>
          if b = true then te σ3 H6 fun y H7 => ∃ acc, H7 D = some (.lst acc) ∧ acc.length < sizeLine ∧ Nx1 (upd H7 D (.lst (acc ++ [y]))) else Nx1 H6)
      else Pv (i + 1) H3) (hd : ∀ H, Pv n H → Qd H) :
    ∃ W : Nat → Nat → Hp → Prop, (∃ m, W 0 m (upd H1 D (.lst []))) ∧ ∀ i m H, W i m H →
      (J.stop i H ∧ Qd H) ∨ (J.go i H ∧ ∃ Nx : Hp → Prop, (∀ H', Nx H' → ∃ m', m' < m ∧ W (i + 1) m' H') ∧ ∀ x H', J.yld i H x H' → g x (wipe σ vs) H' fun σ2 H2 => wipe σ2 vs = wipe σ vs ∧ tt σ2 H2 fun b H3 =>
        if b = true then wi1 σ2 H3 fun J1 H4 => ∃ W1 : Nat → Nat → Hp → Prop, (∃ m, W1 0 m H4) ∧ ∀ j k H, W1 j k H →
          (J1.stop j H ∧ Nx H) ∨ (J1.go j H ∧ ∃ Nx1 : Hp → Prop, (∀ H', Nx1 H' → ∃ k', k' < k ∧ W1 (j + 1) k' H') ∧ ∀ x H', J1.yld j H x H' → g1 x (wipe σ2 vs1) H' fun σ3 H5 => wipe σ3 vs1 = wipe σ2 vs1 ∧ tt1 σ3 H5 fun b H6 =>
            if b = true then te σ3 H6 fun y H7 => ∃ acc, H7 D = some (.lst acc) ∧ acc.length < sizeLine ∧ Nx1 (upd H7 D (.lst (acc ++ [y]))) else Nx1 H6)
        else Nx H3) := by
  refine ⟨fun i m H => m = n - i ∧ i ≤ n ∧ Pv i H, ⟨n, by simp, Nat.zero_le _, h0⟩, ?_⟩
  rintro i m H ⟨rfl, hi, p⟩
  have q := hG i H hi p
  by_cases hlt : i < n
  · exact .inr ⟨w.goes i H hlt q, Pv (i + 1), fun H' p' => ⟨n - (i + 1), by omega, rfl, hlt, p'⟩, fun x H' y => hs i x H H' hlt p (w.yields i H x H' hlt q y)⟩
  · have e : i = n := by omega
    subst e
    exact .inl ⟨w.stops H q, hd H p⟩
theorem lc2_in {J : It} {n : Nat} {G : Hp → Prop} {Y : Nat → Hp → V → Hp → Prop} (w : Walk J n G Y) {g1 : TG} {tt1 : TT} {te : TE} {vs1 : List Nat} {σ2 : L2.St} {H4 : Hp} {D : Addr} {Nx : Hp → Prop} (Pv : Nat → Hp → Prop) (h0 : Pv 0 H4) (hG : ∀ i H, i ≤ n → Pv i H → G H)
    (hs : ∀ j x H H', j < n → Pv j H → Y j H x H' → g1 x (wipe σ2 vs1) H' fun σ3 H5 => wipe σ3 vs1 = wipe σ2 vs1 ∧ tt1 σ3 H5 fun b H6 =>
      if b = true then te σ3 H6 fun y H7 => ∃ acc, H7 D = some (.lst acc) ∧ acc.length < sizeLine ∧ Pv (j + 1) (upd H7 D (.lst (acc ++ [y]))) else Pv (j + 1) H6) (hd : ∀ H, Pv n H → Nx H) :
    ∃ W1 : Nat → Nat → Hp → Prop, (∃ m, W1 0 m H4) ∧ ∀ j k H, W1 j k H →
      (J.stop j H ∧ Nx H) ∨ (J.go j H ∧ ∃ Nx1 : Hp → Prop, (∀ H', Nx1 H' → ∃ k', k' < k ∧ W1 (j + 1) k' H') ∧ ∀ x H', J.yld j H x H' → g1 x (wipe σ2 vs1) H' fun σ3 H5 => wipe σ3 vs1 = wipe σ2 vs1 ∧ tt1 σ3 H5 fun b H6 =>
        if b = true then te σ3 H6 fun y H7 => ∃ acc, H7 D = some (.lst acc) ∧ acc.length < sizeLine ∧ Nx1 (upd H7 D (.lst (acc ++ [y]))) else Nx1 H6) := by
  refine ⟨fun i m H => m = n - i ∧ i ≤ n ∧ Pv i H, ⟨n, by simp, Nat.zero_le _, h0⟩, ?_⟩
  rintro i m H ⟨rfl, hi, p⟩
  have q := hG i H hi p
  by_cases hlt : i < n
  · exact .inr ⟨w.goes i H hlt q, Pv (i + 1), fun H' p' => ⟨n - (i + 1), by omega, rfl, hlt, p'⟩, fun x H' y => hs i x H H' hlt p (w.yields i H x H' hlt q y)⟩
  · have e : i = n := by omega
    subst e
    exact .inl ⟨w.stops H q, hd H p⟩
/-! ### what a deed is -/
noncomputable def isTup : PyData → Bool
  | .tuple _ => true | _ => false
theorem kit_tuple {K : PySem.W.Frag} (d : PyData) : PySem.W.kitOne K (.type (tyOf d)) (.type "tuple") = some (isTup d) := by
  cases d with
  | none => exact kit_ty (show kitB "NoneType" "tuple" = some false by decide +kernel)
  | bool _ => exact kit_ty (show kitB "bool" "tuple" = some false by decide +kernel)
  | int _ => exact kit_ty (show kitB "int" "tuple" = some false by decide +kernel)
  | str _ => exact kit_ty (show kitB "str" "tuple" = some false by decide +kernel)
  | list _ => exact kit_ty (show kitB "list" "tuple" = some false by decide +kernel)
  | tuple _ => exact kit_ty (show kitB "tuple" "tuple" = some true by decide +kernel)
  | dict _ => exact kit_ty (show kitB "dict" "tuple" = some false by decide +kernel)
noncomputable def cTail (x : PyData) : PyData → Bool
  | .int j => below j x
  | _ => false
noncomputable def coupleOk (n : Int) (x y : PyData) : Bool := below n y && cTail x y
noncomputable def cplD (n : Int) : PyData → Bool
  | .tuple [x, y] => coupleOk n x y
  | _ => false
noncomputable def headOk (n : Int) : PyData → Bool
  | .tuple [x, y, _] => coupleOk n x y
  | _ => false
theorem below_int {k : Int} {d : PyData} (h : below k d = true) : ∃ i : Int, d = .int i ∧ 0 ≤ i ∧ i < k := by
  cases d with
  | int i =>
    have h' : (decide (0 ≤ i) && decide (i < k)) = true := h
    rw [Bool.and_eq_true] at h'
    exact ⟨i, rfl, of_decide_eq_true h'.1, of_decide_eq_true h'.2⟩
  | _ => cases h
theorem couple_nat {n : Int} {x y : PyData} (h : coupleOk n x y = true) : ∃ a b : Nat, x = .int (a : Nat) ∧ y = .int (b : Nat) ∧ a < b ∧ (b : Int) < n := by
  unfold coupleOk at h
  rw [Bool.and_eq_true] at h
  obtain ⟨j, rfl, j0, j1⟩ := below_int h.1
  obtain ⟨i, rfl, i0, i1⟩ := below_int h.2
  exact ⟨i.toNat, j.toNat, by rw [Int.toNat_of_nonneg i0], by rw [Int.toNat_of_nonneg j0], by omega, by omega⟩
theorem head_nat {n : Int} {d : PyData} (h : headOk n d = true) : ∃ (a b : Nat) (z : PyData), d = .tuple [.int (a : Nat), .int (b : Nat), z] ∧ a < b ∧ (b : Int) < n := by
  match d, h with
  | .tuple [x, y, z], h =>
    obtain ⟨a, b, rfl, rfl, h1, h2⟩ := couple_nat (n := n) h
    exact ⟨a, b, z, rfl, h1, h2⟩
noncomputable def spCoupleD (K : PySem.W.Frag) : Sp := fun vs H Q _ => ∃ (n : Int) (x : V) (d : PyData), vs = [.int n, x] ∧ Dt K H x d ∧ Q (.bl (cplD n d)) H
end GL
namespace GL
open PySem PySem.Spec PyProof.Rows L2
end GL

namespace GL
open PySem PySem.Spec PyProof.Rows L2
section
variable {X : Cx} {a b c d : Expr} {ta tb tc td : TE} {pos : Pos}
/-- a op1 b op2 c op3 d -/
noncomputable def tChain3 (r r' r'' : R2) (ta tb tc td : TE) : TE := fun σ H Q => ta σ H fun x H1 => tb σ H1 fun y H2 => r x y H2 fun z H3 => ∃ k, z = .bl k ∧
  (if k = true then tc σ H3 fun w' H4 => r' y w' H4 fun z' H5 => ∃ k', z' = .bl k' ∧ (if k' = true then td σ H5 fun u' H6 => r'' w' u' H6 Q else Q (.bl false) H5) else Q (.bl false) H3)
theorem pt_chain3 {op op' op'' : CmpOp} {r r' r'' : R2} (ho : OpR X (compareOp op) r) (ho' : OpR X (compareOp op') r') (ho'' : OpR X (compareOp op'') r'') (ha : PE X a ta) (hb : PE X b tb) (hc : PE X c tc) (hd : PE X d td)
    (hm : lastMarks [op, op', op''] [b, c, d] = false := by with_unfolding_all rfl) : PT X (.Compare a [op, op', op''] [b, c, d] pos) (tTest (tChain3 r r' r'' ta tb tc td)) := by
  refine ⟨fun pins s σ H Q I h => ?_⟩
  refine isTrue_chain (thn (ha.run pins s σ H _ I h) fun v s1 ⟨x, H1, I1, r1, q1⟩ => test_link (thn (hb.run pins s1 σ H1 _ I1 q1) fun u s2 ⟨y, H2, I2, r2, q2⟩ =>
    thn (ho pins s2 σ H2 x y v u _ I2 r1 r2 q2) fun e s3 ⟨z, H3, I3, r3, k, e1, q3⟩ => ?_)) hm
  subst e1
  cases r3
  refine wpAny_truthy_bool ?_
  cases k with
  | false =>
    obtain ⟨k', e', q'⟩ := q3
    cases e'
    exact ite_ff ⟨H3, I3, q'⟩
  | true =>
    refine ite_tt (test_link (thn (hc.run pins s3 σ H3 _ I3 q3) fun w' s4 ⟨z', H4, I4, r4, q4⟩ => thn (ho' pins s4 σ H4 y z' u w' _ I4 r2 r4 q4) fun d' s5 ⟨z2, H5, I5, r5, k2, e2, q5⟩ => ?_))
    subst e2
    cases r5
    refine wpAny_truthy_bool ?_
    cases k2 with
    | false =>
      obtain ⟨k', e', q'⟩ := q5
      cases e'
      exact ite_ff ⟨H5, I5, q'⟩
    | true =>
      refine ite_tt (test_last (thn (hd.run pins s5 σ H5 _ I5 q5) fun w3 s6 ⟨z3, H6, I6, r6, q6⟩ => thn (ho'' pins s6 σ H6 z' z3 w' w3 _ I6 r4 r6 q6) fun d3 s7 ⟨z4, H7, I7, r7, k3, e3, q7⟩ => ?_))
      subst e3
      cases r7
      exact wpAny_truthy_bool ⟨H7, I7, q7⟩
end
end GL
namespace GL
open PySem PySem.Spec PyProof.Rows L2
end GL

namespace GL
open PySem PySem.Spec PyProof.Rows L2
/-! ### an exception that is caught, kept under another name, and looked at behind the try -/
/-- at a: an exception of the class cls with its dict at d -/
noncomputable def Exn (cls : Value) (d : Option Addr) (a : Addr) : HO := .ext fun h => ∃ (oe : Obj) (vs : Array Value), h.get? a = some oe ∧ Zc cls d oe ∧ oe.data = .fields vs
theorem exn_ok {P : Program} {w : World} {H : Hp} {h : Heap} {a : Addr} {cls : Value} {d : Option Addr} {oe : Obj} {vs : Array Value} (e : h.get? a = some oe) (z : Zc cls d oe) (f : oe.data = .fields vs) : ObjOk P w H h a (Exn cls d a) :=
  ⟨⟨oe, vs, e, z, f⟩, ⟨oe, e⟩, fun _ _ ⟨o, v, q, r⟩ k => ⟨o, v, k o q, r⟩⟩
section
variable {X : Cx} {pins : List (Addr × Obj)} {σ : L2.St} {H : Hp} {s : Shared}
/-- an object that stands and is nobody's is tracked from here on -/
theorem Inv.track {a : Addr} {o : HO} {oe : Obj} {vs : Array Value} (I : Inv X pins σ H s) (he : s.heap.get? a = some oe) (hd : oe.data = .fields vs) (na : H a = none) (n0 : X.s_0.heap.get? a = none) (nL : a ≠ X.env.locals) (np : ∀ p ∈ X.pn ++ pins, p.1 ≠ a)
    (new : ObjOk X.prog X.w (upd H a o) s.heap a o) : Inv X pins σ (upd H a o) s := by
  have u : ∀ {b : Addr}, b ≠ a → upd H a o b = H b := fun nb => upd_ne nb
  have s0 : ∀ {b : Addr} {v : Obj}, X.s_0.heap.get? b = some v → b ≠ a := fun e z => by rw [z, n0] at e; cases e
  have hs : ∀ {b : Addr} {v : HO}, H b = some v → b ≠ a := fun e z => by rw [z, na] at e; cases e
  refine ⟨I.ok, I.os, I.bare, ⟨I.base.keep, I.base.slot, fun b v e n x => by rw [u (s0 e)]; exact I.base.free b v e n x, I.base.there, fun b xs e => ?_, fun b v xs e => ?_, fun b ps e => ?_⟩, I.loc, I.cell, by rw [u (Ne.symm nL)]; exact I.free, fun x c e => ?_, fun p hp => ?_, I.hok.laidN (fun _ _ z => z) na new, I.len⟩
  · have q := I.base.tups b xs e
    rwa [u (hs q)]
  · have q := I.base.frzs b v xs e
    rwa [u (hs q)]
  · obtain ⟨m, q⟩ := I.base.tbls b ps e
    exact ⟨m, by rwa [u (hs q)]⟩
  · have ca : c ≠ a := fun z => by
      obtain ⟨v, o', q1, q2⟩ := I.cell x c e
      rw [z, he] at q1
      cases q1
      rw [hd] at q2
      cases q2
    rw [u ca]
    exact I.freeC x c e
  · obtain ⟨e, n, r⟩ := I.pin p hp
    exact ⟨e, by rw [u (np p hp)]; exact n, r⟩
end
/-- what the clause wishes of an exception of the body: it is kept, its class and dict told, behind the suite -/
noncomputable def wKeep (K : PySem.W.Frag) (c : Value) (i : Nat) (ts : Addr → Value → Option Addr → TS) (Wout : WX) (D : Ends) : WX := fun cls d σ H =>
  ∃ b, PySem.W.exmOne K cls c = some b ∧ (b = false → Wout cls d σ H) ∧ (b = true → ∀ a, H a = none → ts a cls d
    { nx := fun σ1 H1 => H1 a = none → D.nx (σ1.set i none) (upd H1 a (Exn cls d a)), rt := D.rt, bk := fun σ1 H1 => D.bk (σ1.set i none) H1, ct := fun σ1 H1 => H1 a = none → D.ct (σ1.set i none) (upd H1 a (Exn cls d a)) } (σ.set i (some (.ref a))) H)
theorem not_frame {B h : Heap} {l : List Env} {a : Addr} {o : Obj} {vs : Array Value} (F : h.FunFrames B l) (e : h.get? a = some o) (d : o.data = .fields vs) : a ∉ frs l := fun hm => by
  obtain ⟨_, o2, e2, n⟩ := F.mem hm
  cases e.symm.trans e2
  exact n _ d
section
variable {X : Cx} {x n : Str} {c : Value} {i : Nat} {body suite : List Stmt} {b₀ : Stmt} {np pos pos2 : Pos} {tb : WX → TS} {ts : Addr → Value → Option Addr → TS} {Wout : WX}
/-- try: body / except x as n: suite; what is caught is tracked behind it -/
theorem ps_try_keep (hs : X.stack = X.env :: X.outer) (hf : X.env.frame = some X.env.locals) (hN : X.N.Nodup) (hi : X.N[i]? = some n) (hln : X.env.kindOf n = some .local) (hc : Names X x c) (hex : X.ex = []) (tk : Takes X Wout)
    (hb : ∀ (W : WX) (pn : List (Addr × Obj)) (xe : Value → Shared → Prop), Takes (X.tr pn xe) W → PassesOwn (model X.prog X.w) X.A X.env xe → PSs (X.tr pn xe) body (tb W))
    (hsu : ∀ (a : Addr) (oe : Obj) (cls : Value) (d : Option Addr) (pn : List (Addr × Obj)), Zc cls d oe → (∃ vs, oe.data = .fields vs) → PSs (X.suite a ((a, oe) :: pn)) (b₀ :: suite) (ts a cls d)) :
    PS X (.Try body [.ExceptHandler (some (.Name x np)) (some n) (b₀ :: suite) pos2] [] [] pos) (fun D σ H => tb (wKeep X.K c i ts Wout D) D σ H) := by
  refine ⟨fun pins s σ H D I h => wpAny_Try_except ?_⟩
  have ok := I.ok
  have frames : X.A.frames = some (X.env :: X.outer) := ok.frames.trans (congrArg some hs)
  refine wpAny_mono ((hb (wKeep X.K c i ts Wout D) (X.pn ++ pins) (fun e t1 => wpAny (model X.prog X.w) X.A (noteFrame e X.env) (fun _ t2 => wpAny (model X.prog X.w) X.A (setFlight e none) (fun _ t3 =>
      wpAny (model X.prog X.w) X.A (handleBy e X.env [.ExceptHandler (some (.Name x np)) (some n) (b₀ :: suite) pos2]) (SP X pins D) X.xe t3) X.xe t2) X.xe t1)
      (fun e s2 air => ?_) PassesOwn.looking).run [] s σ H D (I.toTry _) h) (fun fl s2 done => ?_) fun _ _ z => z
  · obtain ⟨a, B, sI, q0, σ1, H1, cls, d, rfl, J0, ground, upS, sky0, na, eos, ebare, b, eb, no, yes⟩ := air
    have J : Inv X pins σ1 H1 sI := J0.ofTry ok
    refine Sky.land Zc.steady frames hf (hs ▸ sky0 : Sky B (X.env :: X.outer) a (Zc cls d) X.env.locals s2.heap) fun g fly gUp => ?_
    obtain ⟨oe, vs, ea, za, da⟩ := fly.there
    have nfr := not_frame fly.2.2.1 ea da
    have nB : B.get? a = none := fly.2.1
    have nI : sI.heap.get? a = none := by
      cases z : sI.heap.get? a with
      | none => rfl
      | some o => exact absurd ((ground a o z (by rw [hs]; exact nfr)).symm.trans nB) (by simp)
    have n0 : X.s_0.heap.get? a = none := by
      cases z : X.s_0.heap.get? a with
      | none => rfl
      | some o =>
        obtain ⟨o2, z2⟩ := J.base.there a o z (by rw [hex]; simp)
        rw [nI] at z2
        cases z2
    have nP : ∀ p ∈ X.pn ++ pins, p.1 ≠ a := fun p hp z => by
      have := (J.pin p hp).1
      rw [z, nI] at this
      cases this
    have nL : a ≠ X.env.locals := fun z => nfr (List.mem_filterMap.mpr ⟨X.env, List.mem_cons_self, by rw [hf, z]⟩)
    have nF : a ∉ X.fs := fun hm => nfr (let ⟨e, he, q⟩ := List.mem_filterMap.mp hm; List.mem_filterMap.mpr ⟨e, List.mem_cons_of_mem _ he, q⟩)
    have Jg : Inv X pins σ1 H1 { s2 with heap := g } := J.landed ground fly.1 (upS.trans gUp) eos ebare
    have S := Jg.suite ea da na nL nF
    refine wpAny_handleBy_cons (codeAny_handlers_test ?_) (by intro q; cases q)
    have look := PySem.W.exm_one (M := model X.prog X.w) Jg.kIn (show PySem.W.Looks (model X.prog X.w) g (typeOf (.ref a)) cls from fun _ _ _ _ k q => wpAny_typeOf_ref (k _ _ ea) (by rw [za.1]; exact q)) eb
    have named : ∀ {Q : Value → Shared → Prop} {E : Value → Shared → Prop}, Q c { s2 with heap := g } → wpAny (model X.prog X.w) (X.A.mark (some (.ref a))) (eval (.Name x np) X.env) Q E { s2 with heap := g } := fun q => by
      obtain ⟨h1, h2, h3 | ⟨h3, h4, h5⟩⟩ := hc
      · exact ld_glob (X := X.suite a ((a, oe) :: (X.pn ++ pins))) S h1 h3 q h2
      · exact ld_blt (X := X.suite a ((a, oe) :: (X.pn ++ pins))) S h1 h3 h4 q h5 h2
    refine named (look.here ?_)
    cases b with
    | false =>
      refine (show wpAny _ X.A (handleBy (.ref a) X.env []) _ _ _ from wpAny_handleBy_nil ?_)
      obtain ⟨_, _, _, o2, v2, T, oT, t2, e2, _, d2, f1, _⟩ := id fly
      unfold PySem.passOn
      refine wpAny_bind (wpAny_field e2 d2 f1 ?_)
      rw [if_neg (show ¬ ((Value.ref T == Value.none) = true) by simp)]
      have out : wpAny (model X.prog X.w) X.A (setFlight (.ref a) X.env.frame) (fun _ t4 => wpAny (model X.prog X.w) X.A (throw (.ref a) : Sem Flow) (SP X pins D) X.xe t4) X.xe { s2 with heap := g } := by
        rw [hf]
        exact HandSPX.setFlight_upZ fly fun g2 held up2 => wpAny_throw (tk _ _ ⟨a, B, sI, pins, σ1, H1, cls, d, rfl, J, ground, (upS.trans gUp).trans up2, .inr (.inr (by rw [hs]; exact held)), na, eos, ebare, no rfl⟩)
      first | exact wpAny_bind (wpAny_pure (wpAny_bind out)) | exact wpAny_bind out
    | true =>
      refine codeAny_handlers_suite_as (HandSPX.lands_againZ fly fun g2 fly2 up2 => ?_)
      obtain ⟨o2, v2, ea2, za2, da2⟩ := fly2.there
      have S2 := (J.landed (s' := { s2 with heap := g2 }) ground fly2.1 ((upS.trans gUp).trans up2) eos ebare).suite ea2 da2 na nL nF
      refine store_ok (X := X.suite a ((a, o2) :: (X.pn ++ pins))) (v := .ref a) S2 hN hi (.inl hln) rfl (fun s3 S3 => ?_) (.inr hln)
      refine wpAny_mono ((hsu a o2 cls d (X.pn ++ pins) za2 ⟨_, da2⟩).run [] s3 _ H1 _ S3 (yes rfl a na)) (fun fl s4 z => ?_) fun _ _ z => False.elim z
      have lose : ∀ {σ4 : L2.St} {H4 : Hp} {Q : Shared → Prop}, Inv (X.suite a ((a, o2) :: (X.pn ++ pins))) [] σ4 H4 s4 → (∀ s5, Inv X pins (σ4.set i none) H4 s5 → Q s5) →
          wpAny (model X.prog X.w) X.A (do bindName X.env n .none; unbindBehindTheSuite X.env n pos2) (fun _ s5 => Q s5) X.xe s4 := fun S4 hq => gone_ok (S4.unsuite ok) hN hi hln hq
      have keep : ∀ {σ4 : L2.St} {H4 : Hp} {Q : Shared → Prop}, Inv (X.suite a ((a, o2) :: (X.pn ++ pins))) [] σ4 H4 s4 → (H4 a = none → ∀ s5, Inv X pins (σ4.set i none) (upd H4 a (Exn cls d a)) s5 → Q s5) →
          wpAny (model X.prog X.w) X.A (do bindName X.env n .none; unbindBehindTheSuite X.env n pos2) (fun _ s5 => Q s5) X.xe s4 := fun {σ4 H4 Q} S4 hq => by
        obtain ⟨p1, p2, _⟩ := S4.pin (a, o2) (List.mem_append_left _ List.mem_cons_self)
        exact gone_ok (Inv.track (o := Exn cls d a) (S4.unsuite ok) p1 da2 p2 n0 nL nP (exn_ok p1 za2 da2)) hN hi hln (hq p2)
      cases fl with
      | next => obtain ⟨_, _, S4, q4⟩ := z; exact keep S4 fun n4 _ J5 => ⟨_, _, J5, q4 n4⟩
      | brk => obtain ⟨_, _, S4, q4⟩ := z; exact lose S4 fun _ J5 => ⟨_, _, J5, q4⟩
      | cont => obtain ⟨_, _, S4, q4⟩ := z; exact keep S4 fun n4 _ J5 => ⟨_, _, J5, q4 n4⟩
      | ret v => obtain ⟨_, _, _, S4, r4, q4⟩ := z; exact lose S4 fun _ J5 => ⟨_, _, _, J5, r4, q4⟩
  · cases fl with
    | next => obtain ⟨σ1, H1, J, q⟩ := done; exact wpAny_execs_nil ⟨σ1, H1, J.ofTry ok, q⟩
    | brk => obtain ⟨σ1, H1, J, q⟩ := done; exact ⟨σ1, H1, J.ofTry ok, q⟩
    | cont => obtain ⟨σ1, H1, J, q⟩ := done; exact ⟨σ1, H1, J.ofTry ok, q⟩
    | ret u => obtain ⟨v, σ1, H1, J, r, q⟩ := done; exact ⟨v, σ1, H1, J.ofTry ok, r, q⟩
end
end GL

namespace GL
open PySem PySem.Spec PyProof.Rows L2
/-! ### the errors of a package: each made with its value, by an __init__ that keeps it in the field -/
/-- what the written part tells of the class x at C, and of its __init__ at fI -/
structure Err (K : PySem.W.Frag) (mg : Str → Option Value) (x : Str) (C fI : Addr) : Prop where
  g : mg x = some (.ref C)
  o : OexC K C
  iC : PySem.W.findIn K (.ref C) "__init__" = some (some (.ref fI))
  tI : PySem.W.typeIn K (.ref fI) = some (.type "function")
  nv : PySem.W.findIn K (.ref C) "value" = some none
  ga : PySem.W.findIn K (.ref C) "__getattribute__" = some (some (.builtin "BaseException.__getattribute__"))
  gg : PySem.W.findIn K (.ref C) "__getattr__" = some none
  hd : PySem.W.hasDictIn K C = true
  ha : PySem.W.findIn K (.ref C) "__class__" = some (some (.builtin "object.__class__"))
  hn : PySem.W.specialIn K (.builtin "object.__class__") "__get__" = some (some (.builtin "getset_descriptor.__get__"))
  ht : PySem.W.takesIn K (.builtin "object.__class__") = some true
  hm : PySem.W.mroIn K C (.type "object") = some true
theorem Err.cl {K : PySem.W.Frag} {mg : Str → Option Value} {x : Str} {C fI : Addr} (T : Err K mg x C fI) : (PySem.W.clsIn K C).isSome = true := by
  obtain ⟨cd, hc, _⟩ := PySem.W.any_some T.hd
  rw [hc]
  rfl
section
variable {X : Cx} {pins : List (Addr × Obj)} {σ : L2.St} {H : Hp} {s : Shared}
theorem exn_at {a C : Addr} {d : Option Addr} (I : Inv X pins σ H s) (h : H a = some (Exn (.ref C) d a)) : ∃ (oe : Obj) (vs : Array Value), s.heap.get? a = some oe ∧ Zc (.ref C) d oe ∧ oe.data = .fields vs := (I.hok a _ h).1
/-- isinstance(e, c), e a kept exception -/
noncomputable def rIsX (K : PySem.W.Frag) (mg : Str → Option Value) : List V → Hp → VK → Prop := fun xs H Q => ∃ (a C fI : Addr) (x : Str) (d : Option Addr) (c : V) (cv : Value) (b : Bool), xs = [.ref a, c] ∧ H a = some (Exn (.ref C) d a) ∧ (∃ dd fs, d = some dd ∧ H dd = some (.xd fs)) ∧ Err K mg x C fI ∧ (∀ u, RelV c u → u = cv) ∧ PySem.W.kitOne K (.ref C) cv = some b ∧ Q (.bl b) H
theorem call_isX : CallR X (.builtin "isinstance") (rIsX X.K X.mg) := by
  intro pins s σ H xs us Q I r h
  obtain ⟨a, C, fI, x, d, c, cv, b, rfl, ea, ⟨dd, fs, ed, hdd⟩, T, hc, e, q⟩ := h
  obtain ⟨u1, u2, rfl, rx, rt⟩ := vals2 r
  cases rx
  have ec := hc _ rt
  subst ec ed
  obtain ⟨oe, vs, he, hz, hv⟩ := exn_at I ea
  have hx : ObjOk X.prog X.w H s.heap dd (.xd fs) := I.hok dd _ hdd
  obtain ⟨mA, hns, hr⟩ := hx
  obtain ⟨od, ho, hl⟩ := lookIn_ns hns
  have J : PySem.W.InstAt s.heap a oe C (some od) := ⟨he, hz.1, by unfold PySem.W.notCls; rw [hv] <;> rfl, by rw [hz.2]; exact ho⟩
  exact PySem.W.kia_one (PySem.W.kitx_exc T.cl T.ga T.gg T.o.exC T.ha T.hn T.ht T.hm) I.kIn J e (fun z => nomatch z) fun tk => ⟨.bl b, H, I.kept (t' := tk) fun _ _ z => z, rfl, q⟩
/-- e.value, e a kept exception -/
noncomputable def tValX (K : PySem.W.Frag) (mg : Str → Option Value) (te : TE) : TE := fun σ H Q => te σ H fun x H1 => ∃ (a C fI dd : Addr) (n : Str) (v : V), x = .ref a ∧ Err K mg n C fI ∧ H1 a = some (Exn (.ref C) (some dd) a) ∧ H1 dd = some (.xd [("value", v)]) ∧ Q v H1
theorem pe_valX {e : Expr} {te : TE} {pos : Pos} (he : PE X e te) (hb : attributeBase e "value" X.env (eval e X.env) = eval e X.env := by rfl) : PE X (.Attribute e "value" pos) (tValX X.K X.mg te) := by
  refine ⟨fun pins s σ H Q I h => attr_of hb (thn (he.run pins s σ H _ I h) fun u s1 ⟨y, H1, I1, rx, a, C, fI, dd, n, v, ey, T, ea, ed, q⟩ => ?_)⟩
  subst ey
  obtain rfl : u = Value.ref a := rx
  obtain ⟨oe, vs, ha, hz, hv⟩ := exn_at I1 ea
  obtain ⟨mA, hns, hr⟩ := (show ObjOk X.prog X.w H1 s1.heap dd (.xd [("value", v)]) from I1.hok dd _ ed)
  obtain ⟨od, ho, hl⟩ := lookIn_ns hns
  have lk : List.lookup ("value" : Str) [(("value" : Str), v)] = some v := by simp [List.lookup]
  obtain ⟨w, hw, rw'⟩ := RelO.some_of (v := v) (o := mA "value") (by rw [← lk]; exact hr "value")
  have J : PySem.W.InstAt s1.heap a oe C (some od) := ⟨ha, hz.1, by unfold PySem.W.notCls; rw [hv] <;> rfl, by rw [hz.2]; exact ho⟩
  exact HandSPX.exc_get I1.kIn J T.ga T.gg T.o.exC (PySem.W.findObj_own T.hd T.nv rfl (by rw [hl, hw])) (handed_of rw') ⟨v, H1, I1.tok _, rw', q⟩
end
/-! ### made and raised -/
/-- __init__(self, value): the value stands in the field -/
noncomputable def spInit (K : PySem.W.Frag) : Sp := fun vs H Q _ => ∃ (a C : Addr) (v : V), vs = [.ref a, v] ∧ OexC K C ∧ PySem.W.findIn K (.ref C) "value" = some none ∧ H a = some (exo a C none) ∧ ∀ dx, H dx = none → dx ≠ a → Q .non (upd (upd H dx (exd dx [("value", v)])) a (exo a C (some dx)))
/-- the reading of x(v), once v is told: the exception's dict is new and has the value -/
theorem err_by {K : PySem.W.Frag} {mg : Str → Option Value} {x : Str} {C fI : Addr} (T : Err K mg x C fI) {v : V} {H1 : Hp} {Q : XK} (h : ∀ d, H1 d = none → Q (.ref C) (some d) (upd H1 d (.xd [("value", v)]))) :
    [v].length ≤ 1000 ∧ ∀ a, H1 a = none → spInit K (.ref a :: ([v] ++ [])) (upd H1 a (exo a C none)) (fun u H2 => u = .non ∧ ∃ (d : Addr) (fs : List (Str × V)), H2 a = some (exo a C (some d)) ∧ H2 d = some (exd d fs) ∧ H1 d = none ∧ Q (.ref C) (some d) (upd (del H2 a) d (.xd fs))) (fun _ _ _ => False) := by
  refine ⟨by simp, fun a ha => ⟨a, C, v, rfl, T.o, T.nv, upd_same, fun dx n ne => ⟨rfl, dx, _, upd_same, by rw [upd_ne ne, upd_same], ?_, ?_⟩⟩⟩
  · rwa [upd_ne ne] at n
  · have e : upd (del (upd (upd (upd H1 a (exo a C none)) dx (exd dx [("value", v)])) a (exo a C (some dx))) a) dx (.xd [("value", v)]) = upd H1 dx (.xd [("value", v)]) := by
      funext b
      by_cases b1 : b = dx
      · rw [b1, upd_same, upd_same]
      · rw [upd_ne b1, upd_ne b1]
        by_cases b2 : b = a
        · rw [b2, del_same, ha]
        · rw [del_ne b2, upd_ne b2, upd_ne b1, upd_ne b2]
    rw [e]
    rw [upd_ne ne] at n
    exact h dx n
/-! ### the text of each __init__ -/
noncomputable def iniA (p1 p2 p3 : Pos) : Arguments := { posonlyargs := [], args := [{ arg := "self", annotation := none, pos := p1 }, { arg := "value", annotation := none, pos := p2 }], vararg := none, kwonlyargs := [], kw_defaults := [], kwarg := none, defaults := [.Constant .none 0 p3] }
noncomputable def iniB (q1 q2 q3 q4 : Pos) : List Stmt := [.Assign [.Attribute (.Name "self" q1) "value" q2] (.Name "value" q3) q4]
noncomputable def iniS : Scope := { kind := .function, names := [(PySem.Str.ofString "self", .local), (PySem.Str.ofString "value", .local)], isGenerator := false, isCoroutine := false, more := [] }
theorem scIni : FnScope ["self", "value"] ["self", "value"] iniS := ⟨rfl, rfl, rfl, by decide +kernel, rfl, by decide +kernel, by decide +kernel⟩
section
variable {P : Program} {w : World} {K : PySem.W.Frag} {mg : Str → Option Value} {base : Heap}
/-- the __init__ at fI, ready to be called with a value -/
noncomputable def Ini (P : Program) (w : World) (K : PySem.W.Frag) (mg : Str → Option Value) (base : Heap) (fI : Addr) : Prop := ∃ fd, FnOk P w K mg base CX0 1 fI fd ["self", "value"] (spInit K) ∧ Binds K fd ["self", "value"] []
theorem ini_ok {qual : Str} {p1 p2 p3 q1 q2 q3 q4 : Pos} {fI : Addr} {fd : FuncData} (F : FunD K "__init__" qual (iniA p1 p2 p3) (iniB q1 q2 q3 q4) iniS [.non] [] fI fd) : Ini P w K mg base fI := by
  refine ⟨fd, F.ok scIni (fun vs H Q E h => ?_) (fun cdv A outer s H vs Q E hr h => ?_), ?_⟩
  · obtain ⟨a, C, v, rfl, _⟩ := h
    rfl
  · obtain ⟨a, C, v, rfl, o, nv, ea, q⟩ := h
    refine ⟨_, pss_one (ps_ost (pv 0) (pv 1)), ?_⟩
    exact ⟨_, rfl, _, rfl, a, C, rfl, o, nv, .inl ⟨ea, fun dx n ne => q dx n ne⟩⟩
  · obtain ⟨ds, hv, b⟩ := F.binds1 (ps := ["self", "value"]) 2 1 (by simp) rfl fun T kV doc pm an cdv ct us its l1 l2 => by
      match us, its, l1, l2 with
      | [_, _], [_], _, _ => exact ⟨_, rfl, rfl⟩
    cases hv
    exact b
end
section
variable {X : Cx}
theorem pmk_err {x : Str} {C fI : Addr} {e : Expr} {ta : TA} {p pos : Pos} (T : Err X.K X.mg x C fI) (U : Ini X.prog X.w X.K X.mg X.base fI) (hr : Room 2 X.A) (hg : Gl X x) (ha : PA X [e] ta) (hdb : (x == ("__debug__" : Str)) = false := by decide)
    (he : starEach [e] X.env = (false, eval e X.env) :: starEach [] X.env := by rfl) : PMk X (.Call (.Name x p) [e] [] pos) (tMkO C (spInit X.K) [] ta) := by
  obtain ⟨fd, F, b⟩ := U
  exact pmk_oex T.o T.iC T.tI F hr b .nil pass0 hg T.g ha hdb he
end
end GL

namespace GL
open PySem PySem.Spec PyProof.Rows L2
/-! ### defs that may raise, ready to be called -/
structure UseX (P : Program) (w : World) (K : PySem.W.Frag) (mg : Str → Option Value) (base : Heap) (x : Str) (ps : List Str) (sp : Sp) (k : Nat) : Prop where
  ex : ∃ f fd, FnOk P w K mg base (L2.CX P w) k f fd ps sp ∧ mg x = some (.ref f) ∧ PySem.W.keepIn K (.ref f) = true ∧ Binds K fd ps []
section
variable {X : Cx} {ps : List Str} {sp : Sp} {x : Str} {e : Expr} {es : List Expr} {t : TA} {p pos : Pos} {k : Nat} {E : XK} {W : WX}
/-- a call of it where what it raises leaves the caller, too -/
theorem pe_useX (U : UseX X.prog X.w X.K X.mg X.base x ps sp k) (hr : Room k X.A) (hx : Takes X fun cls d _ H => E cls d H) (hg : Gl X x) (ha : PA X (e :: es) t)
    (hdb : (x == ("__debug__" : Str)) = false := by decide) (he : starEach (e :: es) X.env = (false, eval e X.env) :: starEach es X.env := by rfl) (hpl : (backTo pos (starEach es X.env)).any (·.1) = false := by rfl) :
    PE X (.Call (.Name x p) (e :: es) [] pos) (tCall sp [] E t) := by
  obtain ⟨f, fd, F, hm, hk, hb⟩ := U.ex
  exact pe_call F hr hg hm hk hb .nil (passes_call hx fun _ _ _ _ z => z) ha hdb he hpl
/-- a call of it within a try -/
theorem pe_useS (U : UseX X.prog X.w X.K X.mg X.base x ps sp k) (hr : Room k X.A) (tk : Takes X W) (hg : Gl X x) (ha : PA X (e :: es) t)
    (hdb : (x == ("__debug__" : Str)) = false := by decide) (he : starEach (e :: es) X.env = (false, eval e X.env) :: starEach es X.env := by rfl) (hpl : (backTo pos (starEach es X.env)).any (·.1) = false := by rfl) :
    PE X (.Call (.Name x p) (e :: es) [] pos) (tCallS sp (fun σ => WE W σ) t) := by
  obtain ⟨f, fd, F, hm, hk, hb⟩ := U.ex
  exact pe_callS F hr hg hm hk hb (fun σ => passAt tk σ) ha hdb he hpl
end
end GL

namespace GL
open PySem PySem.Spec PyProof.Rows L2
/-! ### checks that refuse: what is told of every value -/
noncomputable def kindsD : PyData → Bool
  | .int k => decide (2 ≤ k) && decide (k ≤ 9)
  | _ => false
theorem kinds_of {d : PyData} (h : kindsD d = true) : ∃ k, d = .int k ∧ 2 ≤ k ∧ k ≤ 9 := by
  cases d with
  | int k =>
    obtain ⟨a, b⟩ := Bool.and_eq_true_iff.mp h
    exact ⟨k, rfl, of_decide_eq_true a, of_decide_eq_true b⟩
  | _ => cases h
noncomputable def ascD : List PyData → Bool
  | .int a :: .int b :: r => decide (a < b) && ascD (.int b :: r)
  | _ => true
/-- a lot of n people -/
noncomputable def lotD (n : Int) : PyData → Bool
  | .list ds => (decide (1 ≤ (ds.length : Int)) && decide ((ds.length : Int) ≤ n)) && (ds.all (below n) && ascD ds)
  | _ => false
noncomputable def intOf : PyData → Int
  | .int i => i
  | _ => 0
/-- all n people, each once -/
noncomputable def orderD (n : Nat) : PyData → Bool
  | .list ds => ds.all (below n) && (ds.map intOf).isPerm (nums (List.range n))
  | _ => false
/-- an error of the class n leaves the def, with v in its field -/
noncomputable def Rf (er : Str → Addr) (n : Str) (v : V) (H : Hp) (E : XK) : Prop := ∀ (H' : Hp) (e : Addr), Same H H' → H e = none → H' e = some (.xd [("value", v)]) → E (.ref (er n)) (some e) H'
theorem Rf.raise {er : Str → Addr} {n : Str} {v : V} {H H1 : Hp} {E : XK} (h : Rf er n v H E) (s : Same H H1) (d : Addr) (hd : H1 d = none) : E (.ref (er n)) (some d) (upd H1 d (.xd [("value", v)])) :=
  h _ d (fun b o e => by rw [upd_ne (ne_of_none (s b o e) hd)]; exact s b o e) (s.free hd) upd_same
theorem Rf.later {er : Str → Addr} {n : Str} {v : V} {H H1 : Hp} {E : XK} (h : Rf er n v H E) (s : Same H H1) : Rf er n v H1 E := fun H' e s' f x => h H' e (s.trans s') (s.free f) x
/-- the class x, with its facts -/
noncomputable def ErrU (P : Program) (w : World) (K : PySem.W.Frag) (mg : Str → Option Value) (base : Heap) (er : Str → Addr) (x : Str) : Prop := ∃ fI, Err K mg x (er x) fI ∧ Ini P w K mg base fI
noncomputable def spKindsA (K : PySem.W.Frag) : Sp := fun vs H Q _ => ∃ x d, vs = [x] ∧ Dt K H x d ∧ Q (.bl (kindsD d)) H
noncomputable def spKnd (K : PySem.W.Frag) (er : Str → Addr) : Sp := fun vs H Q E => ∃ x d, vs = [x] ∧ Dt K H x d ∧ (kindsD d = true → Q .non H) ∧ (kindsD d = false → Rf er "InvalidNumber" x H E)
/-- kinds, then a company of them -/
noncomputable def spCom (K : PySem.W.Frag) (er : Str → Addr) : Sp := fun vs H Q E => ∃ x y dk dc, vs = [x, y] ∧ Dt K H x dk ∧ Dt K H y dc ∧ (kindsD dk = false → Rf er "InvalidNumber" x H E) ∧
  ∀ k, dk = .int k → kindsD dk = true → (compOk k dc = false → Rf er "InvalidCompany" y H E) ∧ (compOk k dc = true → ∀ H', Same H H' → Q .non H')
noncomputable def spLotA (K : PySem.W.Frag) : Sp := fun vs H Q _ => ∃ (n : Nat) (x : V) (d : PyData), vs = [.int n, x] ∧ n ≤ 100 ∧ Dt K H x d ∧ ∀ H', Same H H' → Q (.bl (lotD n d)) H'
noncomputable def spOrderA (K : PySem.W.Frag) : Sp := fun vs H Q _ => ∃ (n : Nat) (x : V) (d : PyData), vs = [.int n, x] ∧ n ≤ 100 ∧ Dt K H x d ∧ (∀ ds, d = .list ds → ds.length ≤ 1000) ∧ ∀ H', Same H H' → Q (.bl (orderD n d)) H'
end GL

namespace GL
open PySem PySem.Spec PyProof.Rows L2
/-! ### calls that are refused -/
end GL

namespace GL
open PySem PySem.Spec PyProof.Rows L2
/-! ### the classes of errors, all together -/
/-- the classes ns, each under the one that is caught -/
structure Errs (ns : List Str) (K : PySem.W.Frag) (mg : Str → Option Value) (er : Str → Addr) : Prop where
  tie : mg "TieError" = some (.ref (er "TieError"))
  own : ∀ x ∈ ns, ∃ fI, Err K mg x (er x) fI
  exm : ∀ x ∈ ns, PySem.W.exmOne K (.ref (er x)) (.ref (er "TieError")) = some true
  vN : mg "ValueError" = none
  val : ∀ x ∈ ns, PySem.W.kitOne K (.ref (er x)) (.type "ValueError") = some true
  kit : ∀ x ∈ ns, ∀ y ∈ ns, PySem.W.kitOne K (.ref (er x)) (.ref (er y)) = some (decide (x = y))
  exy : ∀ x ∈ ns, ∀ y ∈ ns, PySem.W.exmOne K (.ref (er x)) (.ref (er y)) = some (decide (x = y))
theorem Errs.mg {ns : List Str} {K : PySem.W.Frag} {mg : Str → Option Value} {er : Str → Addr} (E : Errs ns K mg er) {x : Str} (h : x ∈ ns) : mg x = some (.ref (er x)) := by
  obtain ⟨fI, e⟩ := E.own x h
  exact e.g
/-! ### what is refused stays refused as things are made -/
section
variable {K : PySem.W.Frag} {er : Str → Addr}
end
/-! ### data whose repr is known to fit -/
noncomputable def ShowOk (d : PyData) : Prop := d.showable = true ∧ d.shown.length ≤ sizeLine ∧ d.depth ≤ 60
theorem Fit.show {B k : Nat} {d : PyData} (h : Fit B k d) (b : B ≤ 16777216) (l : k ≤ 60) : ShowOk d := h.fits b l
/-! ### literals -/
/-- what is new in H' -/
noncomputable def newH (H H' : Hp) : Hp := fun b => if (H b).isNone then H' b else none
theorem newH_le {H H' : Hp} : Same (newH H H') H' := fun b o e => by
  unfold newH at e
  cases h : H b with
  | none =>
    rw [h] at e
    exact e
  | some x =>
    rw [h] at e
    cases e
theorem newH_of {H H' : Hp} {b : Addr} (h : H b = none) : newH H H' b = H' b := by
  unfold newH
  rw [h]
  rfl
theorem newH_old {H H' : Hp} {b : Addr} {o : HO} (h : H b = some o) : newH H H' b = none := by
  unfold newH
  rw [h]
  rfl
theorem newH_fwd {H H1 H2 : Hp} (s : Same H1 H2) : Same (newH H H1) (newH H H2) := fun b o e => by
  cases h : H b with
  | none =>
    rw [newH_of h] at e ⊢
    exact s b o e
  | some x =>
    rw [newH_old h] at e
    cases e
theorem newH_in {H H1 H2 : Hp} (s : Same H H1) : Same (newH H1 H2) (newH H H2) := fun b o e => by
  cases h : H b with
  | none =>
    rw [newH_of h]
    exact newH_le b o e
  | some x =>
    rw [newH_old (s b x h)] at e
    cases e
/-- the reading of an expression that gives new data; f says which, as the slots are -/
noncomputable def tD (K : PySem.W.Frag) (ok : L2.St → Prop) (f : L2.St → PyData) : TE := fun σ H Q => ok σ ∧ ∀ v H', Same H H' → Dt K (newH H H') v (f σ) → Q v H'
noncomputable def tDs (K : PySem.W.Frag) (ok : L2.St → Prop) (f : L2.St → List PyData) : TA := fun σ H Q => ok σ ∧ ∀ vs H', Same H H' → Dts K (newH H H') vs (f σ) → Q vs H'
noncomputable def Ok0 : L2.St → Prop := fun _ => True
noncomputable def Ok2 (a b : L2.St → Prop) : L2.St → Prop := fun σ => a σ ∧ b σ
noncomputable def intAt (i : Nat) (σ : L2.St) : PyData := match σ[i]? with | some (some (.int n)) => .int n | _ => .none
noncomputable def OkI (i : Nat) : L2.St → Prop := fun σ => ∃ n, σ[i]? = some (some (.int n))
section
variable {X : Cx} {ok ok2 : L2.St → Prop} {f : L2.St → PyData} {fs : L2.St → List PyData} {e : Expr} {es : List Expr} {te : TE}
theorem pd_of (h : PE X e te) (w : ∀ σ H Q, tD X.K ok f σ H Q → te σ H Q) : PE X e (tD X.K ok f) := ⟨fun pins s σ H Q I q => h.run pins s σ H Q I (w _ _ _ q)⟩
theorem pd_c {v : V} {d : PyData} (h : PE X e (tC v)) (w : ∀ H, Dt X.K H v d) : PE X e (tD X.K Ok0 fun _ => d) := pd_of h fun σ H Q q => q.2 v H (Same.refl _) (w _)
theorem pd_int {i : Int} (h : PE X e (tC (.int i))) : PE X e (tD X.K Ok0 fun _ => .int i) := pd_c h fun _ => .int i
theorem pd_bl {b : Bool} (h : PE X e (tC (.bl b))) : PE X e (tD X.K Ok0 fun _ => .bool b) := pd_c h fun _ => .bl b
theorem pd_str {x : Str} (h : PE X e (tC (.str x))) : PE X e (tD X.K Ok0 fun _ => .str x) := pd_c h fun _ => .str x
theorem pd_non (h : PE X e (tC .non)) : PE X e (tD X.K Ok0 fun _ => .none) := pd_c h fun _ => .non
theorem pd_pow {i j : Int} (h : PE X e (tOp (rI CPow fun i j => .int (i ^ j.toNat)) (tC (.int i)) (tC (.int j)))) (c : CPow i j) : PE X e (tD X.K Ok0 fun _ => .int (i ^ j.toNat)) := pd_of h fun σ H Q q => ⟨_, _, rfl, rfl, c, q.2 _ H (Same.refl _) (.int _)⟩
theorem pds_nil : PA X [] (tDs X.K Ok0 fun _ => []) := ⟨fun pos pins s σ H Q I q => pa_nil.run pos pins s σ H Q I (q.2 [] H (Same.refl _) .nil)⟩
theorem pds_cons (a : PE X e (tD X.K ok f)) (b : PA X es (tDs X.K ok2 fs)) (hs : starEach (e :: es) X.env = (false, eval e X.env) :: starEach es X.env := by rfl) : PA X (e :: es) (tDs X.K (Ok2 ok ok2) fun σ => f σ :: fs σ) :=
  ⟨fun pos pins s σ H Q I q => (pa_cons a b hs).run pos pins s σ H Q I ⟨q.1.1, fun v H1 s1 d => ⟨q.1.2, fun vs H2 s2 ds => q.2 (v :: vs) H2 (s1.trans s2) (.cons (d.same (newH_fwd s2)) (Dts.same (newH_in s1) _ _ ds))⟩⟩⟩
theorem pd_list {pos : Pos} (h : PA X es (tDs X.K ok fs)) (l : ∀ σ, (fs σ).length ≤ sizeLine) : PE X (.List es pos) (tD X.K ok fun σ => .list (fs σ)) :=
  pd_of (pe_lst h) fun σ H Q q => ⟨q.1, fun vs H1 s1 ds => ⟨by rw [ds.length]; exact l σ, fun p hp => by
    obtain ⟨H2, e2, s2, f2⟩ := gen H1 hp (.lst vs)
    rw [e2]
    exact q.2 _ _ (s1.trans s2) (.lst (by rw [newH_of (s1.free hp)]; exact f2) (Dts.same (newH_fwd s2) _ _ ds))⟩⟩
theorem pd_tup {x1} {pos : Pos} (h : PA X es (tDs X.K ok fs)) (l : ∀ σ, (fs σ).length ≤ sizeLine) : PE X (.Tuple es x1 pos) (tD X.K ok fun σ => .tuple (fs σ)) :=
  pd_of (pe_tup h) fun σ H Q q => ⟨q.1, fun vs H1 s1 ds => ⟨by rw [ds.length]; exact l σ, fun p hp => by
    obtain ⟨H2, e2, s2, f2⟩ := gen H1 hp (.tup vs)
    rw [e2]
    exact q.2 _ _ (s1.trans s2) (.tup (by rw [newH_of (s1.free hp)]; exact f2) (Dts.same (newH_fwd s2) _ _ ds))⟩⟩
theorem pd_dct (h : PE X e tDNewK) : PE X e (tD X.K Ok0 fun _ => .dict []) := pd_of h fun σ H Q q p hp => by
  obtain ⟨H2, e2, s2, f2⟩ := gen H hp (.dK [])
  rw [e2]
  exact q.2 _ _ s2 (.dct (by rw [newH_of hp]; exact f2))
theorem pd_var {i : Nat} (h : PE X e (tVar i)) : PE X e (tD X.K (OkI i) (intAt i)) := pd_of h fun σ H Q q => by
  obtain ⟨⟨n, en⟩, q⟩ := q
  refine ⟨_, en, q _ H (Same.refl _) ?_⟩
  unfold intAt
  rw [en]
  exact .int n
end
end GL

namespace GL
open PySem PySem.Spec PyProof.Rows L2
/-! ### the functions of companies and deeds by their number -/
end GL

namespace GL
open PySem PySem.Spec PyProof.Rows L2
section
variable {K : PySem.W.Frag} {er : Str → Addr}
end
/-- n rows of the kind 0 -/
noncomputable def rows0 (n : Nat) : PyData := .list ((List.range n).map fun i => .list (List.replicate i (.int 0)))
theorem dts_rep {K : PySem.W.Frag} {H : Hp} : ∀ i : Nat, Dts K H (List.replicate i (.int 0)) (List.replicate i (.int 0))
  | 0 => .nil
  | i + 1 => .cons (.int 0) (dts_rep i)
theorem rep_self {α : Type} : ∀ (j : Nat) (x : α), (List.replicate j [x]).flatten = List.replicate j x
  | 0, _ => rfl
  | j + 1, x => by
    rw [List.replicate_succ, List.replicate_succ, List.flatten_cons, rep_self j x]
    rfl
theorem dts_get {K : PySem.W.Frag} {H : Hp} : ∀ {vs : List V} {ds : List PyData}, vs.length = ds.length → (∀ (i : Nat) (v : V) (d : PyData), vs[i]? = some v → ds[i]? = some d → Dt K H v d) → Dts K H vs ds
  | [], [], _, _ => .nil
  | v :: vs, d :: ds, l, h => .cons (h 0 v d rfl rfl) (dts_get (by simpa using l) fun i v d a b => h (i + 1) v d a b)
theorem dt_list {K : PySem.W.Frag} {H : Hp} {v : V} {ds : List PyData} (h : Dt K H v (.list ds)) : ∃ (a : Addr) (xs : List V), v = .ref a ∧ H a = some (.lst xs) ∧ Dts K H xs ds := by
  cases h with
  | lst h1 h2 => exact ⟨_, _, rfl, h1, h2⟩
theorem Dts.app {K : PySem.W.Frag} {H : Hp} : ∀ {xs ys : List V} {ds es : List PyData}, Dts K H xs ds → Dts K H ys es → Dts K H (xs ++ ys) (ds ++ es)
  | _, _, _, _, .nil, h => h
  | _, _, _, _, .cons a b, h => .cons a (Dts.app b h)
/-! ### Nice, decided -/
noncomputable def leafB : PyData → Bool
  | .none => true
  | .bool _ => true
  | .int i => decide (i.natAbs < 2 ^ 100)
  | .str x => decide ((reprText x).length ≤ 110)
  | .dict kvs => kvs.isEmpty
  | _ => false
noncomputable def niceB : Nat → PyData → Bool
  | 0, d => leafB d
  | n + 1, .list ds => decide (ds.length ≤ 50) && ds.all (niceB n)
  | n + 1, .tuple ds => decide (ds.length ≤ 50) && ds.all (niceB n)
  | _ + 1, d => leafB d
theorem leaf_of {d : PyData} (h : leafB d = true) : Leaf d := by
  cases d with
  | none => trivial
  | bool _ => trivial
  | int i => exact of_decide_eq_true (p := i.natAbs < 2 ^ 100) h
  | str x => exact of_decide_eq_true (p := (reprText x).length ≤ 110) h
  | dict kvs => exact List.isEmpty_iff.mp h
  | list _ => cases h
  | tuple _ => cases h
theorem nice_of : ∀ {n : Nat} {d : PyData}, niceB n d = true → Nice n d
  | 0, d, h => leaf_of h
  | n + 1, .list ds, h => by
    obtain ⟨a, b⟩ := Bool.and_eq_true_iff.mp h
    exact Nice.list (of_decide_eq_true a) fun e he => nice_of (List.all_eq_true.mp b e he)
  | n + 1, .tuple ds, h => by
    obtain ⟨a, b⟩ := Bool.and_eq_true_iff.mp h
    exact Nice.tuple (of_decide_eq_true a) fun e he => nice_of (List.all_eq_true.mp b e he)
  | n + 1, .none, h => Nice.leaf trivial
  | n + 1, .bool _, h => Nice.leaf trivial
  | n + 1, .int i, h => Nice.leaf (leaf_of h)
  | n + 1, .str x, h => Nice.leaf (leaf_of h)
  | n + 1, .dict kvs, h => Nice.leaf (leaf_of h)
section
variable {K : PySem.W.Frag} {er : Str → Addr} {H : Hp}
end
end GL
namespace GL
open PySem PySem.Spec PyProof.Rows L2
theorem nice_rows {k : Int} {kss : List (List Int)} (f : Fine k kss) (k9 : k ≤ 9) (n : kss.length ≤ 40) : ∀ d ∈ kss.map rowP, Nice 1 d := by
  intro d hd
  obtain ⟨ks, hk, rfl⟩ := List.mem_map.mp hd
  obtain ⟨i, hi⟩ := List.getElem?_of_mem hk
  obtain ⟨l, b⟩ := f i ks hi
  have il := (List.getElem?_eq_some_iff.mp hi).1
  refine Nice.list (by rw [List.length_map]; omega) fun e he => ?_
  obtain ⟨z, hz, rfl⟩ := List.mem_map.mp he
  obtain ⟨z0, z1⟩ := b z hz
  refine Nice.leaf ?_
  show z.natAbs < 2 ^ 100
  omega
theorem nice_tab2 {k : Int} {kss : List (List Int)} (f : Fine k kss) (k9 : k ≤ 9) (n : kss.length ≤ 40) : Nice 2 (tabP kss) := Nice.list (by rw [List.length_map]; omega) (nice_rows f k9 n)
theorem nice_int {k : Int} (a : 0 ≤ k) (b : k ≤ 1000) : Nice 2 (.int k) := Nice.leaf (by show k.natAbs < 2 ^ 100; omega)
theorem nice_non : Nice 2 .none := Nice.leaf trivial
theorem kinds_d {k : Int} (a : 2 ≤ k) (b : k ≤ 9) : kindsD (.int k) = true := by
  show (decide (2 ≤ k) && decide (k ≤ 9)) = true
  rw [decide_eq_true a, decide_eq_true b]
  rfl
end GL

namespace GL
open PySem PySem.Spec PyProof.Rows L2
noncomputable def rTupL (K : PySem.W.Frag) : List V → Hp → VK → Prop := fun xs H Q => ∃ p ys, xs = [.ref p] ∧ SqL K H p ys ∧ ∀ l, H l = none → Q (.ref l) (upd H l (.tup ys))
theorem call_tupL {X : Cx} : CallR X (.type "tuple") (rTupL X.K) := fun pins s σ H xs us Q I r ⟨p, ys, e, a, b⟩ => call_tuple_of pins s σ H xs us Q I r ⟨p, ys, e, .inl ⟨a, b⟩⟩
theorem dts_nat {K : PySem.W.Frag} {H : Hp} : ∀ l : List Nat, Dts K H (natV l) ((nums l).map PyData.int)
  | [] => .nil
  | a :: l => .cons (.int _) (dts_nat l)
section
variable {K : PySem.W.Frag} {er : Str → Addr} {H : Hp} {k : Int} {c : Addr} {rs : List Addr} {kss : List (List Int)} {z : V} {dz : PyData}
end
end GL

namespace GL
open PySem PySem.Spec PyProof.Rows L2
end GL

namespace GL
open PySem PySem.Spec PyProof.Rows L2
end GL

namespace GL
/-! ### bits of naturals as sets of people -/
/-! ### houses by a table of ties -/
section
variable (t : Nat → Nat → Int) (n : Nat)
variable {t n} {l : Nat → Prop}
/-! ### growing -/
/-! ### the measure -/
end
end GL

namespace GL
open PySem PySem.Spec PyProof.Rows L2
/-! ### xs[i] op= e, and numbers as sets of people -/
theorem iand_nn (a b : Nat) : Builtin.bitAnd (a : Int) (b : Int) = ((a &&& b : Nat) : Int) := by
  rw [bitAnd_pp (Int.natCast_nonneg _) (Int.natCast_nonneg _)]
  rfl
/-! the same as rules, for numbers that are not negative -/
noncomputable def rN (f : Nat → Nat → Nat) : R2 := fun x y H Q => ∃ a b : Nat, x = .int (a : Int) ∧ y = .int (b : Int) ∧ Q (.int ((f a b : Nat) : Int)) H
section
variable {X : Cx}
theorem opN_and : OpR X (binaryOp .BitAnd) (rN fun a b => a &&& b) := fun pins s σ H x y v u Q I r1 r2 ⟨a, b, e1, e2, q⟩ => op_and pins s σ H x y v u Q I r1 r2 ⟨a, b, e1, e2, by dsimp only; rw [iand_nn]; exact q⟩
end
end GL

/-! Leagues: who beat whom by bits, who comes next, turns; dicts of numbers, dict comprehensions. -/
namespace GL
open PySem PySem.Spec PyProof.Rows L2
/-! ### numbers by their bits -/
/-- whose ties have been gone through: all of the persons ahead of m, and those of m to the persons ahead of r -/
noncomputable def Seen (m r i j : Nat) : Prop := i ≠ j ∧ (max i j < m ∨ (max i j = m ∧ min i j < r))
instance (m r i j : Nat) : Decidable (Seen m r i j) := by unfold Seen; exact inferInstance
/-! ### leagues -/
/-! ### couples in order -/
/-! ### a turn -/
/-! ### dicts of numbers -/
section
variable {J : It} {n : Nat} {G : Hp → Prop} {Y : Nat → Hp → V → Hp → Prop}
end
end GL

namespace GL
open PySem PySem.Spec PyProof.Rows L2
section
variable {X : Cx}
end
end GL

/-! couples sorted -/
namespace GL
open PySem PySem.Spec PyProof.Rows L2
end GL

namespace GL
open PySem PySem.Spec PyProof.Rows L2
section
variable {X : Cx} {e : Expr}
theorem pd_neg {i : Int} (h : PE X e (tUn (rU fun i => .int (-i)) (tC (.int i)))) : PE X e (tD X.K Ok0 fun _ => .int (-i)) := pd_of h fun σ H Q q => ⟨_, rfl, q.2 _ H (Same.refl _) (.int _)⟩
end
mutual
/-- no dict within -/
noncomputable def flatP : PyData → Bool
  | .none => true
  | .bool _ => true
  | .int _ => true
  | .str _ => true
  | .list ds => flatPA ds
  | .tuple ds => flatPA ds
  | _ => false
noncomputable def flatPA : List PyData → Bool
  | [] => true
  | d :: ds => flatP d && flatPA ds
end
mutual
theorem dt_dp {K : PySem.W.Frag} {H : Hp} : ∀ (d : PyData) (v : V), flatP d = true → Dt K H v d → Dp K H v d
  | .none, _, _, h => by cases h; exact .non
  | .bool b, _, _, h => by cases h; exact .bl b
  | .int i, _, _, h => by cases h; exact .int i
  | .str x, _, _, h => by cases h; exact .str x
  | .list ds, _, p, h => by
    simp only [flatP] at p
    cases h with
    | lst e a => exact .lst (SqL.of e) (dts_dp ds _ p a)
  | .tuple ds, _, p, h => by
    simp only [flatP] at p
    cases h with
    | tup e a => exact .tup (SqT.of e) (dts_dp ds _ p a)
  | .dict _, _, p, _ => by simp [flatP] at p
theorem dts_dp {K : PySem.W.Frag} {H : Hp} : ∀ (ds : List PyData) (vs : List V), flatPA ds = true → Dts K H vs ds → DpAll K H vs ds
  | [], _, _, h => by cases h; exact .nil
  | d :: ds, _, p, h => by
    simp only [flatPA, Bool.and_eq_true] at p
    cases h with
    | cons a b => exact .cons (dt_dp d _ p.1 a) (dts_dp ds _ p.2 b)
end
end GL

/-! Calls of the functions of ties, refused: by which error, with what. -/
namespace GL
open PySem PySem.Spec PyProof.Rows
open L2 hiding spCell
noncomputable def cntD : PyData → Bool
  | .int i => decide (0 ≤ i)
  | _ => false
noncomputable def spCountA (K : PySem.W.Frag) : Sp := fun vs H Q _ => ∃ x d, vs = [x] ∧ Dt K H x d ∧ Q (.bl (cntD d)) H
noncomputable def spCnt (K : PySem.W.Frag) (er : Str → Addr) : Sp := fun vs H Q E => ∃ x d, vs = [x] ∧ Dt K H x d ∧ (cntD d = true → Q .non H) ∧ (cntD d = false → Rf er "InvalidNumber" x H E)
noncomputable def spBel (K : PySem.W.Frag) (er : Str → Addr) : Sp := fun vs H Q E => ∃ x d k, vs = [x, .int k] ∧ Dt K H x d ∧ (below k d = true → Q .non H) ∧ (below k d = false → Rf er "InvalidNumber" x H E)
noncomputable def lenD : PyData → Nat
  | .list ds => ds.length
  | _ => 0
noncomputable def RefBy (er : Str → Addr) (o : Option (Str × V)) (H : Hp) (E : XK) : Prop := ∃ n v, o = some (n, v) ∧ Rf er n v H E
section
variable {er : Str → Addr} {w : Nat} {x y z u : V} {dk dc d3 d4 : PyData} {H : Hp} {E : XK} {k : Int}
theorem RefBy.is {n : Str} {v : V} {o : Option (Str × V)} (h : RefBy er o H E) (e : o = some (n, v)) : Rf er n v H E := by
  obtain ⟨n', v', e', r⟩ := h
  rw [e] at e'
  cases e'
  exact r
theorem RefBy.not {o : Option (Str × V)} (h : RefBy er o H E) (e : o = none) : False := by
  obtain ⟨n', v', e', r⟩ := h
  rw [e] at e'
  cases e'
end
theorem comp_len {K : PySem.W.Frag} {H : Hp} {y : V} {k : Int} {dc : PyData} (dy : Dt K H y dc) (hc : compOk k dc = true) : ∃ (c : Addr) (xs : List V), y = .ref c ∧ H c = some (.lst xs) ∧ xs.length = lenD dc := by
  cases dc with
  | list ds =>
    cases dy with
    | lst a b => exact ⟨_, _, rfl, a, b.length⟩
  | _ => cases hc
theorem cpl_ints {n : Int} {d : PyData} (h : cplD n d = true) : ∃ i j, d = .tuple [.int i, .int j] := by
  match d, h with
  | .tuple [x, y], h =>
    have h' : (below n y && cTail x y) = true := h
    rw [Bool.and_eq_true] at h'
    cases y with
    | int j =>
      cases x with
      | int i => exact ⟨i, j, rfl⟩
      | _ => cases h'.2
    | _ => cases h'.1
theorem cpl_shaped {n : Int} {d : PyData} (h : cplD n d = true) : SeqAt.shaped d = true ∧ flatP d = true := by
  obtain ⟨i, j, rfl⟩ := cpl_ints h
  refine ⟨?_, rfl⟩
  unfold SeqAt.shaped
  simp [PyData.canLay0, PyData.canLayAll0, PyData.depth, PyData.depthAll]
end GL

/-! A tuple of a couple and a kind. -/
namespace GL
open PySem PySem.Spec PyProof.Rows
open L2
noncomputable def kindOk (k : Int) : PyData → Bool
  | .tuple [_, _, z] => below k z
  | _ => false
noncomputable def cplKB (n k : Int) (d : PyData) : Bool := headOk n d && kindOk k d
noncomputable def spCplK (K : PySem.W.Frag) : Sp := fun vs H Q _ => ∃ (k n : Int) (x : V) (d : PyData), vs = [.int k, .int n, x] ∧ Dt K H x d ∧ ∀ H', Same H H' → Q (.bl (cplKB n k d)) H'
theorem cplK_nat {n k : Int} {d : PyData} (h : cplKB n k d = true) : ∃ (a b : Nat) (v : Int), d = .tuple [.int (a : Nat), .int (b : Nat), .int v] ∧ a < b ∧ (b : Int) < n ∧ 0 ≤ v ∧ v < k := by
  unfold cplKB at h
  rw [Bool.and_eq_true] at h
  obtain ⟨a, b, z, rfl, h1, h2⟩ := head_nat h.1
  obtain ⟨v, rfl, v0, v1⟩ := below_int (show below k z = true from h.2)
  exact ⟨a, b, v, rfl, h1, h2, v0, v1⟩
end GL

/-! Rules: sorted of any alike data, len(set(xs)), x in a tuple, math.comb, combinations of a list. -/
namespace GL
open PySem PySem.Spec PyProof.Rows L2
/-! ### sorted -/
noncomputable def rSortD (K : PySem.W.Frag) : List V → Hp → VK → Prop := fun vs H Q => ∃ (a : Addr) (bs : List (V × PyData)), vs = [.ref a] ∧ SqL K H a (bs.map (·.1)) ∧ (∀ b ∈ bs, Dp K H b.1 b.2) ∧ PySem.W.AllAlike (bs.map (·.2)) ∧ PySem.W.Sortable (bs.map (·.2)) ∧ (∀ b ∈ bs, b.2.depth ≤ 40) ∧
  ∀ p, H p = none → Q (.ref p) (upd H p (.lst ((bs.mergeSort (PySem.W.dataLe false (·.2))).map (·.1))))
theorem eachV {bs : List (V × PyData)} : ∀ {its : List Value}, Vals (bs.map (·.1)) its → PySem.W.EachIs (fun v (b : V × PyData) => RelV b.1 v) its bs := by
  induction bs with
  | nil =>
    intro its h
    cases h
    exact .nil
  | cons t ts ih =>
    intro its h
    cases h with
    | cons r h => exact .cons r (ih h)
theorem valsE {bs : List (V × PyData)} : ∀ {its : List Value}, PySem.W.EachIs (fun v (b : V × PyData) => RelV b.1 v) its bs → Vals (bs.map (·.1)) its := by
  induction bs with
  | nil =>
    intro its h
    cases h
    exact .nil
  | cons t ts ih =>
    intro its h
    cases h with
    | cons r h => exact .cons r (ih h)
theorem each_with {R : Value → V × PyData → Prop} {bs : List (V × PyData)} : ∀ {its : List Value}, PySem.W.EachIs (fun v (b : V × PyData) => RelV b.1 v) its bs → (∀ t ∈ bs, ∀ u, RelV t.1 u → R u t) → PySem.W.EachIs R its bs := by
  induction bs with
  | nil =>
    intro its h _
    cases h
    exact .nil
  | cons t ts ih =>
    intro its h q
    cases h with
    | cons r h => exact .cons (q t (List.mem_cons_self ..) _ r) (ih h fun t' ht => q t' (List.mem_cons_of_mem _ ht))
section
variable {X : Cx}
theorem cr_sortedD (hu : X.A.units + 64 < cLine) : CallR X (.builtin "sorted") (rSortD X.K) := by
  intro pins s σ H vs us Q I r h
  obtain ⟨a, bs, rfl, hs, hd, al, so, de, q⟩ := h
  obtain ⟨its, rv, hl, hz⟩ := I.list hs
  obtain ⟨u, rfl, ru⟩ := vals1 r
  obtain rfl : u = Value.ref a := ru
  have e := eachV rv
  refine PySem.W.sorted_data (enc := fun b : V × PyData => b.2) (R := fun v b => RelV b.1 v) hl.isList e (each_with e fun t ht u ru => Dp.reads I _ _ _ (hd t ht) ru) al so (by rw [← List.length_map (as := bs) (f := fun b => b.1)]; exact hz) (fun b hb => ?_) fun out ho eo => ?_
  · have := de b hb
    omega
  · obtain ⟨c, hc⟩ := sortedAll_at s.heap its out.toArray
    refine ⟨.ref (s.heap.objs.size + 1), upd H (s.heap.objs.size + 1) _, I.laid (t' := s.toks) (o := .lst ((bs.mergeSort (PySem.W.dataLe false (·.2))).map (·.1))) (fun b o q => sortedAll_old q) (Nat.le_succ _) ⟨?_, out, c, valsE eo, hc⟩, rfl, q _ (I.hok.fresh (Nat.le_succ _))⟩
    rw [List.length_map, (List.mergeSort_perm bs _).length_eq, ← List.length_map (as := bs) (f := fun b => b.1)]
    exact hz
end
/-! ### len(set(xs)) -/
noncomputable def tLenSetN (K : PySem.W.Frag) (ta : TE) : TE := fun σ H Q => ta σ H fun x H1 => ∃ (l : Addr) (ns : List Int), x = .ref l ∧ SqL K H1 l (ns.map V.int) ∧ ns.length ≤ 4000 ∧ Q (.int ((ns.eraseDups.length : Nat) : Int)) H1
theorem pe_lenSetN {X : Cx} {a : Expr} {ta : TE} {p p2 q pos : Pos} (hg : Gl X "len") (hm : X.mg "len" = none) (hg2 : Gl X "set") (hm2 : X.mg "set" = none) (ha : PE X a ta) (hc : X.calm = true := by rfl)
    (na : starEach [a] X.env = (false, eval a X.env) :: starEach [] X.env := by rfl) : PE X (.Call (.Name "len" p) [.Call (.Name "set" p2) [a] [] q] [] pos) (tLenSetN X.K ta) := by
  refine ⟨fun pins s σ H Q I h => ?_⟩
  refine Call_ (ld_blt I hg hm boot_len ?_)
  refine PyProof.Rows.callWith_builtin1 (PyProof.Rows.args_cons ?_ rfl) rfl rfl
  refine Call_ (ld_blt I hg2 hm2 (show bootBuiltins "set" = some (.type "set") by decide +kernel) ?_)
  refine PyProof.Rows.callWith_type1 (PyProof.Rows.args_cons (thn (ha.run pins s σ H _ I h) fun v s1 ⟨x, H1, I1, r1, q1⟩ => PyProof.Rows.args_nil ?_) na) na rfl
  obtain ⟨l, ns, rfl, hq, hl, q1⟩ := q1
  cases r1
  obtain ⟨its, r, pl, hz⟩ := I1.list hq
  have hlen : its.toArray.size = ns.length := by rw [List.size_toArray, ← r.length, List.length_map]
  refine call_set_list (I1.ok.hd hc) pl.isList (by simpa using RZ.intsAre_vals r) (by rw [hlen]; unfold scanBound; omega) fun h' tk hS hk => ?_
  refine PyProof.Rows.args_nil ?_
  have b := firstMet_length_le (fun i => ns.getD i 0) ns.length
  rw [hlen] at hS
  obtain ⟨o, es, ep, t, ho, hex, hd, _, _, _, hf, hn⟩ := hS
  have I2 : Inv X pins σ H1 { s1 with heap := h', toks := tk } := I1.kept fun b o e => hk b o (Heap.lt_size e) e
  have e : (firstMet (fun i => ns.getD i 0) ns.length).length = ns.eraseDups.length := by rw [PySem.W.oss_met, PySem.W.oss_dups]
  rw [← e] at q1
  exact call_len_set ho hex hd hf (by rw [hn] <;> omega) ⟨.int (firstMet (fun i => ns.getD i 0) ns.length).length, H1, I2.tok _, ⟨_, by rw [hn]⟩, q1⟩
theorem dups_le : ∀ (n : Nat) (ns : List Int), ns.length ≤ n → ns.eraseDups.length ≤ ns.length
  | 0, ns, h => by
    have : ns = [] := List.length_eq_zero_iff.mp (by omega)
    subst this
    exact Nat.le_refl _
  | n + 1, [], h => Nat.le_refl _
  | n + 1, a :: r, h => by
    rw [List.eraseDups_cons, List.length_cons, List.length_cons]
    have l := List.length_filter_le (fun b => !b == a) r
    have := dups_le n (r.filter fun b => !b == a) (by rw [List.length_cons] at h; omega)
    omega
theorem dups_nodup : ∀ (n : Nat) (ns : List Int), ns.length ≤ n → (ns.eraseDups.length < ns.length ↔ ¬ ns.Nodup)
  | 0, ns, h => by
    have : ns = [] := List.length_eq_zero_iff.mp (by omega)
    subst this
    simp
  | n + 1, [], h => by simp
  | n + 1, a :: r, h => by
    rw [List.length_cons] at h
    rw [List.eraseDups_cons, List.length_cons, List.length_cons, List.nodup_cons]
    have l := List.length_filter_le (fun b => !b == a) r
    have d := dups_le n (r.filter fun b => !b == a) (by omega)
    by_cases c : a ∈ r
    · have : (r.filter fun b => !b == a).length < r.length := List.length_filter_lt_length_iff_exists.mpr ⟨a, c, by simp⟩
      exact ⟨fun _ z => z.1 c, fun _ => by omega⟩
    · have e : (r.filter fun b => !b == a) = r := List.filter_eq_self.mpr fun x hx => by
        have : x ≠ a := fun z => c (z ▸ hx)
        simp [this]
      rw [e]
      have ih := dups_nodup n r (by omega)
      constructor
      · intro z y
        exact ih.mp (by omega) y.2
      · intro z
        have : ¬ r.Nodup := fun y => z ⟨c, y⟩
        have := ih.mpr this
        omega
/-! ### x in a tuple -/
noncomputable def rNotInT (K : PySem.W.Frag) : R2 := fun x y H Q => ∃ d ds, Dp K H x d ∧ Dp K H y (.tuple ds) ∧ SeqAt.shaped d = true ∧ SeqAt.shaped (.list ds) = true ∧ Q (.bl (!ds.any fun z => PyData.eqv z d)) H
section
variable {X : Cx}
theorem op_notInT (hu : X.A.units + 65 < cLine) : OpR X (compareOp .NotIn) (rNotInT X.K) := by
  intro pins s σ H x y v u Q I rx ry h
  obtain ⟨d, ds, hd, he, sd, se, q⟩ := h
  obtain ⟨as, r1⟩ := Dp.reads I d x v hd rx
  obtain ⟨bs, r2⟩ := Dp.reads I (.tuple ds) y u he ry
  exact SeqAt.notIn_tuple_reads r2 r1 (SeqAt.canLay_of_shaped se) (SeqAt.canLay_of_shaped sd) (room_in_shaped sd hu) ⟨.bl _, H, I, rfl, q⟩
end
/-! ### math.comb of fewer things than are asked -/
theorem entry_comb : entryFor table "math.comb" = some Builtin.«math.comb» := entryFor_of_tree (by kernel_rfl)
theorem kind_comb : builtinKind "math.comb" = none := by kernel_rfl
theorem plain_comb : plainId "math.comb" = true := by decide +kernel
theorem args_comb (a b : Value) : argsOk "math.comb" ⟨[a, b], []⟩ := by unfold argsOk; kernel_rfl
theorem run_comb (a : Int) (t : Tok) (b : Int) (u : Tok) (h0 : ¬ a < 0) (h1 : ¬ b < 0) (h2 : b > a) : Gives (Builtin.«math.comb» ⟨[.int a t, .int b u], []⟩) (.int 0) :=
  .of_wp fun M A E s Q h => by obtain ⟨hp, g, d, tk, os⟩ := s; wp_walk; exact ⟨_, rfl, h⟩
noncomputable def rComb0 : List V → Hp → VK → Prop := fun vs H Q => ∃ a b : Int, vs = [.int a, .int b] ∧ 0 ≤ a ∧ a < b ∧ Q (.int 0) H
theorem cr_comb0 {X : Cx} : CallR X (.builtin "math.comb") rComb0 := by
  intro pins s σ H vs us Q I r h
  obtain ⟨a, b, rfl, a0, ab, q⟩ := h
  obtain ⟨t, u, rfl⟩ := Vals.int2 r
  have g := run_comb a t b u (by omega) (by omega) (by omega)
  exact call_function_meets kind_comb plain_comb entry_comb (args_comb _ _) g.meets ⟨.int 0, H, I.tok _, ⟨_, rfl⟩, q⟩
end GL

/-! combinations of a list of the numbers from 0 -/
namespace Cmb
open PySem PySem.Spec PyProof.Rows L2
section
variable {prog : Program} {w : World} {A : Around} {E : Value → Shared → Prop} {s : Shared}
theorem code_c_newL {l : Addr} {vs : List Value} {n r : Nat} {tr : Tok} {Q₁ : Value → Shared → Prop} (hl : s.heap.IsList l vs.toArray) (hn : vs.length = n) (hv : ∀ (j : Nat) (v : Value), vs[j]? = some v → ∃ t, v = Value.int ((j : Nat) : Int) t) (n1000 : n ≤ 1000) (r1000 : r ≤ 1000)
    (h : ∀ (h1 h' : Heap) (tk : Nat), (∀ b o, s.heap.get? b = some o → h1.get? b = some o) → (∀ b o, h1.get? b = some o → h'.get? b = some o) → IsPool h' h1.objs.size n → IsC h' (h1.objs.size + 1) h1.objs.size (if r > n then 2 else 0) .none (List.range r) → Q₁ (.ref (h1.objs.size + 1)) { s with heap := h', toks := tk }) :
    codeAny (model prog w) A (.call (.builtin "itertools.combinations.__new__") ⟨[.type "itertools.combinations", .ref l, .int r tr], []⟩) (wants Q₁ E) s := by
  refine codeAny_of_tree ?_
  show wpAny _ A.in1 (do checkBuiltinCall "itertools.combinations.__new__" ⟨[.type "itertools.combinations", .ref l, .int r tr], []⟩; again (.builtin "itertools.combinations.__new__" ⟨[.type "itertools.combinations", .ref l, .int r tr], []⟩)) _ _ s
  refine wpAny_bind (wpAny_of_eq (newCall_c_2 _ _) (wpAny_pure ⟨plainId_quiet plain_c_new _, codeAny_builtin entry_c_new ?_⟩))
  rw [Around.under_plainId plain_c_new _]
  have hd := noDict_c
  unfold Builtin.«itertools.combinations.__new__»
  refine wpAny_bind ?_
  show wpAny _ _ (Builtin.Itertools.itClassAndRest "combinations" ⟨.type "itertools.combinations" :: [.ref l, .int r tr], []⟩ >>= _) _ _ s
  refine wpAny_bind (wpAny_of_eq (class_at _) ?_)
  show wpAny _ _ (Builtin.Itertools.itBindNamed "combinations" ["iterable", "r"] 2 2 [.ref l, .int r tr] [] >>= _) _ _ s
  refine wpAny_bind (wpAny_of_eq (bind_at _ _) ?_)
  show wpAny _ _ (Builtin.Itertools.itSsizeArg (.int r tr) >>= _) _ _ s
  refine wpAny_bind (wpAny_of_eq (ssize_at r1000) ?_)
  show wpAny _ _ (collect (.ref l) >>= _) _ _ s
  refine wpAny_bind (collect_list hl ?_ (by rw [hn, sizeLine_eq]; omega))
  obtain ⟨h', eh⟩ : ∃ h', h' = (s.heap.push (seqObj "list" #[] 0)).update s.heap.objs.size (Obj.mapSeq (· ++ vs.toArray)) := ⟨_, rfl⟩
  have hk : ∀ b o, s.heap.get? b = some o → h'.get? b = some o := fun b o e => by
    rw [eh]
    have nb : b ≠ s.heap.objs.size := fun z => by
      have lt := Heap.lt_size e
      rw [z] at lt
      exact Nat.lt_irrefl _ lt
    exact (Heap.get?_update_other _ _ nb.symm).trans (Heap.get?_push_of_some _ e)
  rw [← eh]
  show wpAny _ _ (if ((r : Int) < 0) then _ else _) _ _ _
  rw [if_neg (by omega)]
  show wpAny _ _ (if Builtin.Itertools.itTooMany (r : Int) = true then _ else _) _ _ _
  have tm : Builtin.Itertools.itTooMany (r : Int) = false := decide_eq_false (by omega)
  rw [if_neg (by rw [tm]; decide)]
  show wpAny _ _ (newTuple vs >>= _) _ _ _
  refine wpAny_bind (wpAny_newTuple ?_ (by rw [hn]; exact Nat.le_trans n1000 (by decide)))
  refine wpAny_pure ?_
  show wpAny _ _ (Builtin.Itertools.itNewRecord (.type "itertools.combinations") ([.ref h'.objs.size, rawInt (if (r : Int).toNat > vs.length then 2 else 0), .none] ++ (List.range (r : Int).toNat).map fun (i : Nat) => rawInt i) >>= _) _ _ _
  refine wpAny_bind ?_
  unfold Builtin.Itertools.itNewRecord
  rw [hn, Int.toNat_natCast, if_pos (by rw [hd]; rfl)]
  have sz1 : (h'.push { cls := .type "tuple", data := .seq vs.toArray }).objs.size = h'.objs.size + 1 := by simp [Heap.push]
  refine wpAny_newObj_type ?_ ?_
  · refine wpAny_pure ?_
    rw [sz1]
    refine h h' _ _ hk (fun b o e => Heap.get?_push_of_some _ (Heap.get?_push_of_some _ e)) ⟨vs.toArray, ?_, ?_⟩ ?_
    · exact Heap.get?_push_of_some _ (Heap.get?_push_size _ rfl)
    · exact ⟨by rw [List.size_toArray]; exact hn, fun j v e => hv j v (by simpa using e)⟩
    · show ((h'.push _).push _).get? (h'.objs.size + 1) = _
      rw [← sz1]
      exact Heap.get?_push_size _ (by rfl)
  · show ((([Value.ref h'.objs.size, rawInt (if r > n then 2 else 0), Value.none] ++ (List.range r).map fun (i : Nat) => rawInt i).toArray).size ≤ sizeLine + 2)
    rw [List.size_toArray, List.length_append, List.length_map, List.length_range, sizeLine_eq]
    show 3 + r ≤ _
    omega
end
section
variable {X : Cx} {tg : Expr}
/-- combinations(xs, r) walked, xs a list of the numbers from 0 -/
noncomputable def iCombL (K : PySem.W.Frag) (ta : TA) : TI := fun σ H R => ta σ H fun vs H1 => ∃ (a : Addr) (n r : Nat), vs = [.ref a, .int r] ∧ SqL K H1 a ((List.range n).map fun (j : Nat) => V.int (j : Int)) ∧ n ≤ 1000 ∧ r ≤ 1000 ∧ R (Itcb n r) H1
theorem pi_combL {e e2 : Expr} {ta : TA} {p pos : Pos} {x : Str} (hg : Gl X x) (hm : X.mg x = some (.type "itertools.combinations")) (ha : PA X [e, e2] ta) (hcalm : X.calm = true := by rfl) (hdb : (x == ("__debug__" : Str)) = false := by decide)
    (hs : starEach [e, e2] X.env = [(false, eval e X.env), (false, eval e2 X.env)] := by rfl) (hs2 : starEach [e2] X.env = [(false, eval e2 X.env)] := by rfl) : PI X tg (.Call (.Name x p) [e, e2] [] pos) (iCombL X.K ta) := by
  refine ⟨fun pins s σ H R I h => ?_⟩
  refine Call_ (ld_glob I hg hm (PyProof.Rows.callWith_type1 (thn (ha.run pos pins s σ H _ I h) fun us s1 ⟨vs, H1, I1, r1, q1⟩ => ?_) (by rw [hs, hs2]) (by rw [hs2]; rfl)) hdb)
  obtain ⟨a, n, r, ex, hr, n1, r1', q⟩ := q1
  subst ex
  cases r1 with
  | cons ra rr =>
    cases rr with
    | cons rb rr =>
      cases rr
      cases ra
      obtain ⟨t, rfl⟩ := rb
      obtain ⟨its, rv, hl, hz⟩ := I1.list hr
      have hn : its.length = n := by rw [← rv.length, List.length_map, List.length_range]
      have hv : ∀ (j : Nat) (v : Value), its[j]? = some v → ∃ t, v = Value.int ((j : Nat) : Int) t := fun j v e => by
        have jl : j < n := by
          have := (List.getElem?_eq_some_iff.mp e).1
          omega
        obtain ⟨u, e1, ru⟩ := rv.get (i := j) (x := V.int (j : Int)) (by rw [List.getElem?_map, List.getElem?_range jl]; rfl)
        rw [e] at e1
        cases e1
        exact ru
      refine callType_codes (Q₁ := fun obj s₁ => s₁.TypeIs obj "itertools.combinations" ∧ wpAny (model X.prog X.w) X.A (pyIter obj) (PIE X pins σ tg R) X.xe s₁) called_c (typeCall_c_2 _ _) F.entry_object_init
        (code_c_newL (A := X.A.in1) hl.isList hn hv n1 r1' fun h1 h' tk k1 k2 pool hc => ⟨⟨_, hc, rfl⟩, ?_⟩) fun obj s₁ h₁ => ?_
      · have I2 : Inv X pins σ H1 { s1 with heap := h1, toks := tk } := I1.kept k1
        have I3 : Inv X pins σ H1 { s1 with heap := h', toks := tk } := I2.kept (t' := tk) k2
        refine iter_self hc ?_
        refine ⟨h1.objs.size + 1, [h1.objs.size + 1, h1.objs.size], _, _, H1, rfl, I3, turn_comb (h1.objs.size + 1) h1.objs.size n r r1', ⟨(Nat.succ_ne_self _).symm, pool, _, hc⟩, fun b hb => ?_, q⟩
        have e' : b = h1.objs.size + 1 ∨ b = h1.objs.size := by simpa using hb
        have hle : h1.objs.size ≤ b := by
          rcases e' with z | z
          · rw [z]; exact Nat.le_add_right _ _
          · rw [z]; exact Nat.le_refl _
        have f0 := I2.fpOk (H' := H1) hle (I2.hok.fresh hle)
        exact f0
      · exact ⟨h₁.1, F.args_object_init_3 obj _ _, object_init_meets called_c.init.lookup called_c.made (by decide +kernel) X.prog X.w X.A.in1 _ s₁ ⟨h₁.1, rfl, h₁.2⟩⟩
end
end Cmb

/-! Calls of the functions of programs, refused: by which error, with what. -/
namespace GL
open PySem PySem.Spec PyProof.Rows
open L2 hiding spCell
theorem ascD_get : ∀ (ns : List Int), ascD (ns.map PyData.int) = ((List.range (ns.length - 1)).all fun i => decide (ns.getD i 0 < ns.getD (i + 1) 0))
  | [] => rfl
  | [a] => rfl
  | a :: b :: r => by
    have ih := ascD_get (b :: r)
    show (decide (a < b) && ascD ((b :: r).map PyData.int)) = _
    rw [ih]
    simp only [List.length_cons, Nat.add_sub_cancel]
    rw [List.range_succ_eq_map, List.all_cons, List.all_map]
    rfl
theorem ints_of {k : Int} {ds : List PyData} (h : ds.all (below k) = true) : ∃ ns : List Int, ds = ns.map PyData.int ∧ ∀ z ∈ ns, 0 ≤ z ∧ z < k := by
  refine ⟨ds.map intOf, ?_, fun z hz => ?_⟩
  · rw [List.map_map]
    conv => lhs; rw [← List.map_id ds]
    exact List.map_congr_left fun d hd => by
      obtain ⟨j, rfl, _⟩ := below_int (List.all_eq_true.mp h d hd)
      rfl
  · obtain ⟨d, hd, rfl⟩ := List.mem_map.mp hz
    obtain ⟨j, rfl, j0, j1⟩ := below_int (List.all_eq_true.mp h d hd)
    exact ⟨j0, j1⟩
theorem vals_of {K : PySem.W.Frag} {H : Hp} : ∀ {vs : List V} {ns : List Int}, Dts K H vs (ns.map PyData.int) → vs = ns.map V.int
  | [], [], _ => rfl
  | _ :: _, n :: ns, .cons h t => by
    cases h
    rw [vals_of t]
    rfl
/-! ### checks, one after the other -/
noncomputable def firstBad : List (Bool × Str × V) → Option (Str × V)
  | [] => none
  | (true, _, _) :: r => firstBad r
  | (false, n, v) :: _ => some (n, v)
section
variable {er : Str → Addr} {H H1 : Hp} {E : XK} {n : Str} {v : V} {b : Bool} {r : List (Bool × Str × V)}
theorem RefBy.bad (h : RefBy er (firstBad ((b, n, v) :: r)) H E) (e : b = false) : Rf er n v H E := by
  subst e
  exact h.is rfl
theorem RefBy.good (h : RefBy er (firstBad ((b, n, v) :: r)) H E) (e : b = true) : RefBy er (firstBad r) H E := by
  subst e
  exact h
theorem RefBy.none (h : RefBy er (firstBad []) H E) : False := h.not rfl
end
/-- lists that are not long -/
noncomputable def Brief (d : PyData) : Prop := ∀ ds, d = .list ds → ds.length ≤ 1000
theorem Nice.brief {d : PyData} (h : Nice 3 d) : Brief d := fun ds e => by
  subst e
  rcases h with h | ⟨es, e | e, l, _⟩
  · exact h.elim
  · cases e
    omega
  · cases e
/-! ### programs -/
noncomputable def progD : PyData → Bool
  | .list ds => ds.all (cplD 40)
  | _ => false
noncomputable def highD : PyData → Int
  | .tuple [_, .int j] => j
  | _ => 0
/-- no turn reaches n people -/
noncomputable def underD (n : Int) : PyData → Bool
  | .list ds => !ds.any fun t => decide (n ≤ highD t)
  | _ => false
noncomputable def runD (n : Int) (d : PyData) : Bool := progD d && underD n d
noncomputable def turnsD : List PyData := [.tuple [.int 0, .int 1], .tuple [.int 0, .int 2], .tuple [.int 1, .int 2]]
noncomputable def shortD : PyData → Bool
  | .list ds => ds.all (cplD 40) && !ds.any fun t => !turnsD.any fun z => PyData.eqv z t
  | _ => false
noncomputable def compK (dk dc : PyData) : Bool := match dk with
  | .int k => compOk k dc
  | _ => false
noncomputable def lotOf : PyData → List PyData
  | .list ds => ds
  | _ => []
/-! ### states -/
noncomputable def lowD : PyData → Int
  | .tuple (.int i :: _) => i
  | _ => 0
noncomputable def midD : PyData → Int
  | .tuple [_, .int j, _] => j
  | _ => 0
noncomputable def shiftD : PyData → Int
  | .tuple [_, _, .int s] => s
  | _ => 0
noncomputable def folkD (ds : List PyData) : List Int := (ds.map fun t => [lowD t, midD t]).flatten
noncomputable def leT (x y : PyData) : Bool := decide (lowD x < lowD y ∨ (lowD x = lowD y ∧ (midD x < midD y ∨ (midD x = midD y ∧ shiftD x ≤ shiftD y))))
noncomputable def isN (p : Int) : PyData → Bool
  | .int j => decide (j = p)
  | _ => false
noncomputable def stateD (k : Int) (lot : List PyData) : PyData → Bool
  | .list ds => ds.all (cplKB 40 k) && ((decide (folkD ds).Nodup && (folkD ds).all fun p => lot.any (isN p)) && ((ds.all fun t => decide (0 < shiftD t)) && decide (ds.Pairwise fun x y => leT x y = true)))
  | _ => false
noncomputable def stateK (dk dl d : PyData) : Bool := match dk with
  | .int k => stateD k (lotOf dl) d
  | _ => false
/-! ### what each door checks -/
noncomputable def famBad : Int → PyData → Prop := fun k d => (isList d = false ∨ (lotOf d).length ≠ 4) ∨
  (∃ d3, d = .list [rowP (nums (List.range k.toNat)), rowP (nums (List.range k.toNat)), rowP (nums (List.range k.toNat)), d3] ∧ Brief d3 ∧ orderD (3 * k.toNat - 2) d3 = false) ∨
  d = .list [rowP (nums (List.range k.toNat)), rowP (nums (List.range k.toNat)), rowP (nums (List.range k.toNat)), rowP (nums (1 :: 0 :: (List.range (3 * k.toNat - 2)).drop 2))]
section
variable (xs : List V) (ds : List PyData)
noncomputable abbrev xN (i : Nat) : V := xs.getD i .non
noncomputable abbrev dN (i : Nat) : PyData := ds.getD i .none
noncomputable def ckKinds : Bool × Str × V := (kindsD (dN ds 0), "InvalidNumber", xN xs 0)
noncomputable def ckRun : List (Bool × Str × V) := [ckKinds xs ds, (compK (dN ds 0) (dN ds 1), "InvalidCompany", xN xs 1), (runD (lenD (dN ds 1)) (dN ds 2), "InvalidProgram", xN xs 2)]
noncomputable def ckOften : List (Bool × Str × V) := [ckKinds xs ds, (compK (dN ds 0) (dN ds 1), "InvalidCompany", xN xs 1), (runD (lenD (dN ds 1)) (dN ds 2), "InvalidProgram", xN xs 2), (cntD (dN ds 3), "InvalidNumber", xN xs 3)]
noncomputable def ckAfter : List (Bool × Str × V) := [ckKinds xs ds, (lotD 40 (dN ds 1), "InvalidLot", xN xs 1), (stateK (dN ds 0) (dN ds 1) (dN ds 2), "InvalidWishes", xN xs 2), (progD (dN ds 3), "InvalidProgram", xN xs 3)]
noncomputable def ckTwo : List (Bool × Str × V) := [ckKinds xs ds, (progD (dN ds 1), "InvalidProgram", xN xs 1), (progD (dN ds 2), "InvalidProgram", xN xs 2)]
noncomputable def ckLot : List (Bool × Str × V) := [ckKinds xs ds, (lotD 40 (dN ds 1), "InvalidLot", xN xs 1)]
noncomputable def ckShuffle : List (Bool × Str × V) := [ckKinds xs ds, (lotD 40 (dN ds 1), "InvalidLot", xN xs 1), (progD (dN ds 2), "InvalidProgram", xN xs 2)]
noncomputable def ckProg : List (Bool × Str × V) := [ckKinds xs ds, (progD (dN ds 1), "InvalidProgram", xN xs 1)]
noncomputable def ckCount : List (Bool × Str × V) := [ckKinds xs ds, (cntD (dN ds 1), "InvalidNumber", xN xs 1)]
noncomputable def ckBelow (n : Int) : List (Bool × Str × V) := [ckKinds xs ds, (below n (dN ds 1), "InvalidNumber", xN xs 1)]
noncomputable def ckShort : List (Bool × Str × V) := [(shortD (dN ds 0), "InvalidProgram", xN xs 0)]
/-- whom the door w raises, with what -/
noncomputable def refD (w : Nat) : Option (Str × V) := match w with
  | 0 => firstBad (ckRun xs ds)
  | 1 => firstBad (ckRun xs ds)
  | 2 => firstBad (ckAfter xs ds)
  | 3 => firstBad (ckOften xs ds)
  | 4 => firstBad (ckTwo xs ds)
  | 5 => firstBad (ckTwo xs ds)
  | 6 => firstBad (ckTwo xs ds)
  | 7 => firstBad (ckLot xs ds)
  | 8 => firstBad (ckShuffle xs ds)
  | 9 => firstBad (ckProg xs ds)
  | 10 => firstBad (ckProg xs ds)
  | 11 => firstBad (ckCount xs ds)
  | 12 => firstBad (ckBelow xs ds 6)
  | 13 => firstBad (ckBelow xs ds 5)
  | _ => firstBad (ckShort xs ds)
end
noncomputable def arity (w : Nat) : Nat := match w with
  | 0 => 3 | 1 => 3 | 2 => 4 | 3 => 4 | 4 => 3 | 5 => 3 | 6 => 3 | 7 => 2 | 8 => 3 | 9 => 2 | 10 => 2 | 11 => 2 | 12 => 2 | 13 => 3 | 14 => 1 | _ => 2
noncomputable def spRef (w : Nat) (K : PySem.W.Frag) (er : Str → Addr) : Sp := fun vs H Q E => ∃ ds, vs.length = arity w ∧ Dts K H vs ds ∧ (∀ d ∈ ds, Brief d) ∧ RefBy er (refD vs ds w) H E
/-- made_program -/
noncomputable def spMadeP (K : PySem.W.Frag) (er : Str → Addr) : Sp := fun vs H Q E => ∃ x y dk d, vs = [x, y] ∧ Dt K H x dk ∧ Dt K H y d ∧ ((kindsD dk = false ∧ Rf er "InvalidNumber" x H E) ∨ ∃ k, dk = .int k ∧ 2 ≤ k ∧ k ≤ 4 ∧ famBad k d ∧ Rf er "InvalidWishes" y H E)
noncomputable def spHowMany (K : PySem.W.Frag) (er : Str → Addr) : Sp := fun vs H Q E => spRef 11 K er vs H Q E ∨ (vs = [.int 9, .int 0] ∧ ∀ H', Same H H' → Q (.int 1) H')
noncomputable def spHowProgs (K : PySem.W.Frag) (er : Str → Addr) : Sp := fun vs H Q E => spRef 12 K er vs H Q E ∨ (vs = [.int 2, .int 0] ∧ ∀ H', Same H H' → Q (.int 1) H')
noncomputable def spToldX (K : PySem.W.Frag) (er : Str → Addr) : Sp := fun vs H Q E => spRef 13 K er vs H Q E ∨ (vs = [.int 2, .int 2, .non] ∧ ∀ H', Same H H' → Q (.bl false) H')
noncomputable abbrev spD0 (K : PySem.W.Frag) (er : Str → Addr) : Sp := spRef 0 K er
noncomputable abbrev spD1 (K : PySem.W.Frag) (er : Str → Addr) : Sp := spRef 1 K er
noncomputable abbrev spD2 (K : PySem.W.Frag) (er : Str → Addr) : Sp := spRef 2 K er
noncomputable abbrev spD3 (K : PySem.W.Frag) (er : Str → Addr) : Sp := spRef 3 K er
noncomputable abbrev spD4 (K : PySem.W.Frag) (er : Str → Addr) : Sp := spRef 4 K er
noncomputable abbrev spD5 (K : PySem.W.Frag) (er : Str → Addr) : Sp := spRef 5 K er
noncomputable abbrev spD6 (K : PySem.W.Frag) (er : Str → Addr) : Sp := spRef 6 K er
noncomputable abbrev spD7 (K : PySem.W.Frag) (er : Str → Addr) : Sp := spRef 7 K er
noncomputable abbrev spD8 (K : PySem.W.Frag) (er : Str → Addr) : Sp := spRef 8 K er
noncomputable abbrev spD9 (K : PySem.W.Frag) (er : Str → Addr) : Sp := spRef 9 K er
noncomputable abbrev spD10 (K : PySem.W.Frag) (er : Str → Addr) : Sp := spRef 10 K er
noncomputable abbrev spD14 (K : PySem.W.Frag) (er : Str → Addr) : Sp := spRef 14 K er
/-! ### the checks -/
noncomputable def spIsProg (K : PySem.W.Frag) : Sp := fun vs H Q _ => ∃ x d, vs = [x] ∧ Dt K H x d ∧ Brief d ∧ ∀ H', Same H H' → Q (.bl (progD d)) H'
noncomputable def spCkProg (K : PySem.W.Frag) (er : Str → Addr) : Sp := fun vs H Q E => ∃ x d, vs = [x] ∧ Dt K H x d ∧ Brief d ∧ (progD d = true → ∀ H', Same H H' → Q .non H') ∧ (progD d = false → Rf er "InvalidProgram" x H E)
noncomputable def spCkRun (K : PySem.W.Frag) (er : Str → Addr) : Sp := fun vs H Q E => ∃ x y z dk dc d, vs = [x, y, z] ∧ Dt K H x dk ∧ Dt K H y dc ∧ Dt K H z d ∧ Brief d ∧ (kindsD dk = false → Rf er "InvalidNumber" x H E) ∧
  (kindsD dk = true → compK dk dc = false → Rf er "InvalidCompany" y H E) ∧ (kindsD dk = true → compK dk dc = true → runD (lenD dc) d = false → Rf er "InvalidProgram" z H E) ∧ (kindsD dk = true → compK dk dc = true → runD (lenD dc) d = true → ∀ H', Same H H' → Q .non H')
noncomputable def spCkLotS (K : PySem.W.Frag) (er : Str → Addr) : Sp := fun vs H Q E => ∃ x y dk dl, vs = [x, y] ∧ Dt K H x dk ∧ Dt K H y dl ∧ (kindsD dk = false → Rf er "InvalidNumber" x H E) ∧ (kindsD dk = true → lotD 40 dl = false → Rf er "InvalidLot" y H E) ∧ (kindsD dk = true → lotD 40 dl = true → ∀ H', Same H H' → Q .non H')
noncomputable abbrev spCkProgs (K : PySem.W.Frag) (er : Str → Addr) : Sp := fun vs H Q E => ∃ x y z dk d1 d2, vs = [x, y, z] ∧ Dt K H x dk ∧ Dt K H y d1 ∧ Dt K H z d2 ∧ Brief d1 ∧ Brief d2 ∧ (kindsD dk = false → Rf er "InvalidNumber" x H E) ∧ (kindsD dk = true → progD d1 = false → Rf er "InvalidProgram" y H E) ∧
  (kindsD dk = true → progD d1 = true → progD d2 = false → Rf er "InvalidProgram" z H E) ∧ (kindsD dk = true → progD d1 = true → progD d2 = true → ∀ H', Same H H' → Q .non H')
/-! ### lists by their length -/
theorem hd1 {α : Type} {l : List α} (h : 1 ≤ l.length) : ∃ a r, l = a :: r := by
  cases l with
  | nil => exact absurd h (Nat.not_succ_le_zero 0)
  | cons a r => exact ⟨a, r, rfl⟩
theorem hd2 {α : Type} {l : List α} (h : 2 ≤ l.length) : ∃ a b r, l = a :: b :: r := by
  obtain ⟨a, r, rfl⟩ := hd1 (Nat.le_trans (Nat.succ_le_succ (Nat.zero_le 1)) h)
  obtain ⟨b, q, rfl⟩ := hd1 (Nat.le_of_succ_le_succ h)
  exact ⟨a, b, q, rfl⟩
theorem hd3 {α : Type} {l : List α} (h : 3 ≤ l.length) : ∃ a b c r, l = a :: b :: c :: r := by
  obtain ⟨a, r, rfl⟩ := hd1 (Nat.le_trans (Nat.succ_le_succ (Nat.zero_le 2)) h)
  obtain ⟨b, c, q, rfl⟩ := hd2 (Nat.le_of_succ_le_succ h)
  exact ⟨a, b, c, q, rfl⟩
theorem hd4 {α : Type} {l : List α} (h : 4 ≤ l.length) : ∃ a b c d r, l = a :: b :: c :: d :: r := by
  obtain ⟨a, r, rfl⟩ := hd1 (Nat.le_trans (Nat.succ_le_succ (Nat.zero_le 3)) h)
  obtain ⟨b, c, d, q, rfl⟩ := hd3 (Nat.le_of_succ_le_succ h)
  exact ⟨a, b, c, d, q, rfl⟩
theorem len1 {α : Type} {l : List α} (h : l.length = 1) : ∃ a, l = [a] := by
  obtain ⟨a, r, rfl⟩ := hd1 (Nat.le_of_eq h.symm)
  rw [List.length_eq_zero_iff.mp (Nat.succ.inj h)]
  exact ⟨a, rfl⟩
theorem len2 {α : Type} {l : List α} (h : l.length = 2) : ∃ a b, l = [a, b] := by
  obtain ⟨a, r, rfl⟩ := hd1 (Nat.le_trans (Nat.succ_le_succ (Nat.zero_le 1)) (Nat.le_of_eq h.symm))
  obtain ⟨b, rfl⟩ := len1 (Nat.succ.inj h)
  exact ⟨a, b, rfl⟩
theorem len3 {α : Type} {l : List α} (h : l.length = 3) : ∃ a b c, l = [a, b, c] := by
  obtain ⟨a, r, rfl⟩ := hd1 (Nat.le_trans (Nat.succ_le_succ (Nat.zero_le 2)) (Nat.le_of_eq h.symm))
  obtain ⟨b, c, rfl⟩ := len2 (Nat.succ.inj h)
  exact ⟨a, b, c, rfl⟩
theorem len4 {α : Type} {l : List α} (h : l.length = 4) : ∃ a b c d, l = [a, b, c, d] := by
  obtain ⟨a, r, rfl⟩ := hd1 (Nat.le_trans (Nat.succ_le_succ (Nat.zero_le 3)) (Nat.le_of_eq h.symm))
  obtain ⟨b, c, d, rfl⟩ := len3 (Nat.succ.inj h)
  exact ⟨a, b, c, d, rfl⟩
theorem len5 {α : Type} {l : List α} (h : l.length = 5) : ∃ a b c d e, l = [a, b, c, d, e] := by
  obtain ⟨a, r, rfl⟩ := hd1 (Nat.le_trans (Nat.succ_le_succ (Nat.zero_le 4)) (Nat.le_of_eq h.symm))
  obtain ⟨b, c, d, e, rfl⟩ := len4 (Nat.succ.inj h)
  exact ⟨a, b, c, d, e, rfl⟩
section
variable {K : PySem.W.Frag} {H : Hp}
theorem args1 {vs : List V} {ds : List PyData} (l : vs.length = 1) (h : Dts K H vs ds) : ∃ x d, vs = [x] ∧ ds = [d] ∧ Dt K H x d := by
  obtain ⟨_, rfl⟩ := len1 l
  cases h with
  | cons a r =>
    cases r
    exact ⟨_, _, rfl, rfl, a⟩
theorem args2 {vs : List V} {ds : List PyData} (l : vs.length = 2) (h : Dts K H vs ds) : ∃ x y d e, vs = [x, y] ∧ ds = [d, e] ∧ Dt K H x d ∧ Dt K H y e := by
  obtain ⟨_, _, rfl⟩ := len2 l
  cases h with
  | cons a r =>
    cases r with
    | cons b r =>
      cases r
      exact ⟨_, _, _, _, rfl, rfl, a, b⟩
theorem args3 {vs : List V} {ds : List PyData} (l : vs.length = 3) (h : Dts K H vs ds) : ∃ x y z d e f, vs = [x, y, z] ∧ ds = [d, e, f] ∧ Dt K H x d ∧ Dt K H y e ∧ Dt K H z f := by
  obtain ⟨_, _, _, rfl⟩ := len3 l
  cases h with
  | cons a r =>
    cases r with
    | cons b r =>
      cases r with
      | cons c r =>
        cases r
        exact ⟨_, _, _, _, _, _, rfl, rfl, a, b, c⟩
theorem args4 {vs : List V} {ds : List PyData} (l : vs.length = 4) (h : Dts K H vs ds) : ∃ x y z u d e f g, vs = [x, y, z, u] ∧ ds = [d, e, f, g] ∧ Dt K H x d ∧ Dt K H y e ∧ Dt K H z f ∧ Dt K H u g := by
  obtain ⟨_, _, _, _, rfl⟩ := len4 l
  cases h with
  | cons a r =>
    cases r with
    | cons b r =>
      cases r with
      | cons c r =>
        cases r with
        | cons d r =>
          cases r
          exact ⟨_, _, _, _, _, _, _, _, rfl, rfl, a, b, c, d⟩
end
noncomputable def spIsState (K : PySem.W.Frag) : Sp := fun vs H Q _ => ∃ (k : Int) (x y : V) (dl d : PyData), vs = [.int k, x, y] ∧ Dt K H x dl ∧ lotD 40 dl = true ∧ Dt K H y d ∧ Brief d ∧ ∀ H', Same H H' → Q (.bl (stateD k (lotOf dl) d)) H'
/-- the states of n people, n at most 3 -/
noncomputable def waysS (k : Int) : Nat → Int
  | 0 => 1
  | 1 => 1
  | 2 => k
  | _ => 3 * k - 2
noncomputable def spWays : Sp := fun vs H Q _ => ∃ (k : Int) (n : Nat), vs = [.int k, .int n] ∧ 0 ≤ k ∧ k ≤ 9 ∧ n ≤ 3 ∧ ∀ H', Same H H' → Q (.int (waysS k n)) H'
noncomputable def spPowO : Sp := fun vs H Q _ => ∃ k : Int, vs = [.int k, .int 0] ∧ Q (.int 1) H
noncomputable def spFamily (K : PySem.W.Frag) : Sp := fun vs H Q _ => ∃ (k : Int) (m : Nat) (y : V) (d : PyData), vs = [.int k, .int m, y] ∧ Dt K H y d ∧ ((m = 2 ∧ d = .none) ∨ (m = 3 ∧ 2 ≤ k ∧ k ≤ 4 ∧ famBad k d)) ∧ ∀ H', Same H H' → Q (.bl false) H'
end GL

namespace GL
open PySem PySem.Spec PyProof.Rows
open L2 hiding spCell
/-- what the module of programs names -/
structure Pg (K : PySem.W.Frag) (mg : Str → Option Value) : Prop where
  told : ∃ t, mg "MOST_TOLD" = some (.int 4 t)
  counted : ∃ t, mg "MOST_COUNTED" = some (.int 5 t)
  comb : mg "comb" = some (.builtin "math.comb")
  turns : ∃ T, mg "TURNS" = some (.ref T) ∧ ∀ H, Dp K H (.ref T) (.tuple turnsD)
theorem turns_of {K : PySem.W.Frag} {T T1 T2 T3 : Addr} {d d1 d2 d3 : Option Addr} {n n1 n2 n3 : Nat} {s s1 s2 s3 : Array (Option Value)} {a1 a2 a3 b1 b2 b3 : Tok}
    (h : K.lookup T = some ⟨.type "tuple", d, .seq #[.ref T1, .ref T2, .ref T3] n, s⟩) (h1 : K.lookup T1 = some ⟨.type "tuple", d1, .seq #[.int 0 a1, .int 1 b1] n1, s1⟩) (h2 : K.lookup T2 = some ⟨.type "tuple", d2, .seq #[.int 0 a2, .int 2 b2] n2, s2⟩) (h3 : K.lookup T3 = some ⟨.type "tuple", d3, .seq #[.int 1 a3, .int 2 b3] n3, s3⟩) (H : Hp) : Dp K H (.ref T) (.tuple turnsD) := by
  have two : ∀ {T : Addr} {d : Option Addr} {n : Nat} {s : Array (Option Value)} {a b : Tok} {i j : Int}, K.lookup T = some ⟨.type "tuple", d, .seq #[.int i a, .int j b] n, s⟩ → Dp K H (.ref T) (.tuple [.int i, .int j]) := fun {T d n s a b i j} h =>
    .tup (xs := [.int i, .int j]) (.inr ⟨_, _, _, h, rfl, rfl, (by show 2 ≤ sizeLine; decide), .cons ⟨_, rfl⟩ (.cons ⟨_, rfl⟩ .nil)⟩) (.cons (.int _) (.cons (.int _) .nil))
  exact .tup (xs := [.ref T1, .ref T2, .ref T3]) (.inr ⟨_, _, _, h, rfl, rfl, (by show 3 ≤ sizeLine; decide), .cons rfl (.cons rfl (.cons rfl .nil))⟩) (.cons (two h1) (.cons (two h2) (.cons (two h3) .nil)))
end GL

/-! A lambda without parameters, handed to a def as its first argument and called there within a try. -/
namespace GL
open PySem PySem.Spec PyProof.Rows
open L2
open LamX (Tabs TabB TabS ExtN CodeO LamS lamEnv lamCx lam_start2 lam_make2 run_ofS)
section
variable {X : Cx} {pins : List (Addr × Obj)} {σ : L2.St} {H : Hp} {s : Shared}
end
section
variable {X : Cx}
end
end GL

/-! A def that makes lambdas; a law of such defs. -/
namespace GL
open PySem PySem.Spec PyProof.Rows
open L2
open LamX (Tabs TabB TabS ExtN)
section
variable {P : Program} {w : World} {K : PySem.W.Frag} {mg : Str → Option Value} {base : Heap}
end
end GL

namespace K56
open PySem PySem.Spec PyProof.Rows
open L2 hiding spCell
open GL
noncomputable def topS (i : Nat) : Stmt := PySem.Challenge.pw_twinties_k56_programs_refused.main.body.getD i (.Pass ⟨0, 0, 0, 0⟩)
section
variable {P : Program} {w : World} {K : PySem.W.Frag} {mg : Str → Option Value} {base : Heap}
noncomputable abbrev sHash : Stmt := topS 105
noncomputable abbrev sRandom : Stmt := topS 107
noncomputable abbrev sCell : Stmt := topS 104
noncomputable abbrev sGen : Stmt := topS 106
theorem scHash : FnScope ["_law_seed", "_law_index", "_law_mixed"] ["_law_seed", "_law_index"] (defScope sHash) := ⟨rfl, rfl, rfl, by decide +kernel, rfl, by decide +kernel, by decide +kernel⟩
theorem ok_hash {f : Addr} {fd : FuncData} (F : Fun K "_law_hash" "_law_hash" sHash f fd) (T : Bi mg) : FnOk P w K mg base CX0 1 f fd ["_law_seed", "_law_index"] spHash := by
  refine F.ok scHash (fun vs H Q E h => ?_) (fun cdv A outer s H vs Q E hr h => ?_)
  · obtain ⟨b, c, rfl, _⟩ := h
    rfl
  · obtain ⟨b, c, rfl, hb0, hb1, hc0, hc1, q⟩ := h
    refine ⟨_, pss_cons (ps_set (i := 2) scHash.nd rfl (Or.inl rfl) (pe_op op_mod (pe_callTy call_int1 (by rfl) T.int PyProof.Rows.boot_int (pa_cons
        (pe_op op_add (pe_op op_add (pe_op op_add (pe_op op_mul (pv 0) pe_int) (pe_op op_mul (pe_op op_mul pe_int (pv 1)) (pv 1))) (pe_op op_mul pe_int (pv 1))) pe_int) pa_nil)) pe_int))
      (pss_cons (ps_set (i := 2) scHash.nd rfl (Or.inl rfl) (pe_op op_mod (pe_callTy call_int1 (by rfl) T.int PyProof.Rows.boot_int (pa_cons
        (pe_op op_add (pe_op op_add (pe_op op_mul (pv 2) (pv 2)) (pe_op op_mul pe_int (pv 1))) pe_int) pa_nil)) pe_int))
      (pss_one (ps_ret (pe_op op_mod (pe_callTy call_int1 (by rfl) T.int PyProof.Rows.boot_int (pa_cons (pe_op op_mul (pv 2) pe_int) pa_nil)) pe_int)))), ?_⟩
    refine ⟨_, rfl, _, _, rfl, rfl, .inl ⟨by omega, by omega⟩, _, rfl, _, _, rfl, rfl, .inl ⟨by omega, by omega⟩, _, rfl, _, _, rfl, rfl, .inr ⟨by omega, by omega⟩, _, _, rfl, rfl, _, rfl, _, _, rfl, rfl, .inl ⟨by omega, by omega⟩, _, _, rfl, rfl, _, _, rfl, rfl,
      .inl ⟨_, rfl, _, _, rfl, rfl, (by show (0 : Int) < 2147483629; decide), ?_⟩⟩
    generalize hm : (b * 1140671 + 27644437 * c * c + 131 * c + 19) % 2147483629 = m
    have m0 : 0 ≤ m := by rw [← hm]; exact Int.emod_nonneg _ (by decide)
    have m1 : m < 2147483629 := by rw [← hm]; exact Int.emod_lt_of_pos _ (by decide)
    refine ⟨_, rfl, _, rfl, _, _, rfl, rfl, .inl ⟨by omega, by omega⟩, _, rfl, _, _, rfl, rfl, .inl ⟨by omega, by omega⟩, _, _, rfl, rfl, _, _, rfl, rfl,
      .inl ⟨_, rfl, _, _, rfl, rfl, (by show (0 : Int) < 2147483587; decide), ?_⟩⟩
    generalize hn : (m * m + 62089 * c + 32416187) % 2147483587 = n
    have n0 : 0 ≤ n := by rw [← hn]; exact Int.emod_nonneg _ (by decide)
    have n1 : n < 2147483587 := by rw [← hn]; exact Int.emod_lt_of_pos _ (by decide)
    refine ⟨_, rfl, _, _, rfl, rfl, .inl ⟨by omega, by omega⟩, .inl ⟨_, rfl, _, _, rfl, rfl, (by show (0 : Int) < 2147483647; decide), ?_⟩⟩
    exact q _ (Int.emod_nonneg _ (by decide)) (Int.emod_lt_of_pos _ (by decide))
theorem scRandom : FnScope ["_law_generator_here", "_law_limit", "_law_drawn", "_law_turn"] ["_law_generator_here", "_law_limit"] (defScope sRandom) := ⟨rfl, rfl, rfl, by decide +kernel, rfl, by decide +kernel, by decide +kernel⟩
theorem ok_random {f : Addr} {fd : FuncData} (F : Fun K "_law_random" "_law_random" sRandom f fd) (T : Bi mg) (UH : Use P w K mg base "_law_hash" ["_law_seed", "_law_index"] spHash 1) : FnOk P w K mg base CX0 2 f fd ["_law_generator_here", "_law_limit"] spRandom := by
  refine F.ok scRandom (fun vs H Q E h => ?_) (fun cdv A outer s H vs Q E hr h => ?_)
  · obtain ⟨g, m, n, rfl, _⟩ := h
    rfl
  · obtain ⟨g, m, n, rfl, m0, m1, G, q⟩ := h
    refine ⟨_, pss_cons (ps_if (pt_cmpR op_gt (pe_ix ix_list (pv 0) pe_int (fun _ _ => rfl)) pe_int (nomark _))
        (pss_cons (ps_set (i := 2) scRandom.nd rfl (Or.inl rfl) (pe_op op_mod (pe_callTy call_int1 (by rfl) T.int PyProof.Rows.boot_int (pa_cons (pe_ix ix_list (pv 0) pe_int (fun _ _ => rfl)) pa_nil)) (pv 1)))
        (pss_cons (ps_asg (pe_op op_fdivW (pe_ix ix_list (pv 0) pe_int (fun _ _ => rfl)) (pv 1)) (pg_sub (pv 0) pe_int set_list))
        (pss_one (ps_ret (pv 2))))) pss_nil)
      (pss_cons (ps_set (i := 2) scRandom.nd rfl (Or.inl rfl) pe_int)
      (pss_cons (ps_for PassesOwn.never rfl (pi_range1 (by rfl) T.range (pa_cons (pe_op op_add pe_int (pe_op op_fdiv (pe_bits (pv 1)) pe_int)) pa_nil)) (pg_name (i := 3) scRandom.nd rfl (Or.inl rfl))
        (pss_cons (ps_asg (pe_op op_add (pe_ix ix_list (pv 0) pe_int (fun _ _ => rfl)) pe_int) (pg_sub (pv 0) pe_int set_list))
        (pss_one (ps_set (i := 2) scRandom.nd rfl (Or.inl rfl) (pe_op op_add (pe_op op_mul (pv 2) pe_int)
          (pe_use UH hr (by rfl) (pa_cons (pe_ix ix_list (pv 0) pe_int (fun _ _ => rfl)) (pa_cons (pe_ix ix_list (pv 0) pe_int (fun _ _ => rfl)) pa_nil))))))))
      (pss_one (ps_ret (pe_op op_mod (pe_callTy call_int1 (by rfl) T.int PyProof.Rows.boot_int (pa_cons (pv 2) pa_nil)) (pv 1)))))), ?_⟩
    obtain ⟨a, b, c, hg, b0, b1, c0, c1⟩ := G
    refine ⟨_, rfl, g, _, _, _, rfl, rfl, SqL.of hg, at_of (j := 0) rfl rfl, _, _, rfl, rfl, _, rfl, ?_⟩
    by_cases ha : 0 < a
    · refine ite2 (fun _ => ?_) (fun z => absurd (decide_eq_true ha) z)
      refine ⟨_, rfl, g, _, _, _, rfl, rfl, SqL.of hg, at_of (j := 0) rfl rfl, .inl ⟨_, rfl, _, rfl, _, _, rfl, rfl, m0, ?_⟩⟩
      refine ⟨_, rfl, g, _, _, _, rfl, rfl, SqL.of hg, at_of (j := 0) rfl rfl, _, rfl, _, _, rfl, rfl, wide_div (b := 120) m0 (by omega) (by decide) (by decide), _, rfl, g, _, _, 0, rfl, rfl, hg, rfl, ?_⟩
      refine ⟨_, rfl, q _ _ (Int.emod_nonneg _ (by omega)) (Int.emod_lt_of_pos _ m0) ⟨_, b, c, upd_same, b0, b1, c0, by omega⟩ But.put⟩
    · refine ite2 (fun z => absurd (of_decide_eq_true z) ha) (fun _ => ?_)
      obtain ⟨u1, u0⟩ := bits_le m0 m1
      generalize hu : (Builtin.Int.intBits m : Int) / 30 = u at u0 u1
      refine ⟨_, rfl, _, rfl, _, _, rfl, rfl, ⟨by decide, by decide⟩, _, _, rfl, rfl, 1 + u, by rw [hu], by omega, by omega,
        for_range (lo := 0) (n := (1 + u).toNat) (fun i σ H' => ∃ (d : Int) (t : Option V) (c' : Int), σ = [some (.ref g), some (.int m), some (.int d), t] ∧ But g H H' ∧ H' g = some (.lst [.int a, .int b, .int c']) ∧ c ≤ c' ∧ c' ≤ c + i)
        ⟨0, none, c, rfl, But.refl, hg, by omega, by omega⟩ ?_ ?_⟩
      · rintro i σ H' hi ⟨d, t, c', rfl, bt, hg', c2, c3⟩
        refine ⟨_, rfl, g, _, _, _, rfl, rfl, SqL.of hg', at_of (j := 2) rfl rfl, _, _, rfl, rfl, _, rfl, g, _, _, 2, rfl, rfl, hg', rfl, ?_⟩
        refine ⟨_, rfl, _, _, rfl, rfl, .inr ⟨by decide, by decide⟩, _, rfl, g, _, _, _, rfl, rfl, SqL.of upd_same, at_of (j := 1) rfl rfl, _, rfl, g, _, _, _, rfl, rfl, SqL.of upd_same, at_of (j := 2) rfl rfl,
          b, c' + 1, rfl, b0, b1, by omega, by omega, fun r r0 r1 => ⟨_, _, rfl, rfl, ?_⟩⟩
        exact ⟨_, _, c' + 1, rfl, bt.trans But.put, upd_same, by omega, by omega⟩
      · rintro σ H' ⟨d, t, c', rfl, bt, hg', c2, c3⟩
        refine ⟨_, rfl, .inl ⟨_, rfl, _, rfl, _, _, rfl, rfl, m0, ?_⟩⟩
        exact q _ _ (Int.emod_nonneg _ (by omega)) (Int.emod_lt_of_pos _ m0) ⟨a, b, c', hg', b0, b1, by omega, by omega⟩ bt
theorem scCell : FnScope ["_law_script", "_law_index"] ["_law_script", "_law_index"] (defScope sCell) := ⟨rfl, rfl, rfl, by decide +kernel, rfl, by decide +kernel, by decide +kernel⟩
theorem ok_cell {f : Addr} {fd : FuncData} (F : Fun K "_law_cell" "_law_cell" sCell f fd) (T : Bi mg) : FnOk P w K mg base CX0 1 f fd ["_law_script", "_law_index"] (spCell K) := by
  refine F.ok scCell (fun vs H Q E h => ?_) (fun cdv A outer s H vs Q E hr h => ?_)
  · obtain ⟨a, ns, i, rfl, _⟩ := h
    rfl
  · obtain ⟨a, ns, i, rfl, hS, q⟩ := h
    refine ⟨_, pss_cons (ps_if (pt_cmpR op_lt (pv 1) (pe_callB call_len_seq (by rfl) T.len PySem.boot_len (pa_cons (pv 0) pa_nil)) (nomark _)) (pss_one (ps_ret (pe_ix ix_list (pv 0) (pv 1) (fun _ _ => rfl)))) pss_nil)
      (pss_one (ps_ret (pe_op op_mod (pe_callB (cr_sum rfl) (by rfl) T.sum (by decide +kernel) (pa_cons (pe_slice sl_list (pv 0) po_none (po_some pe_int)) pa_nil)) pe_int))), ?_⟩
    refine ⟨_, rfl, _, rfl, a, _, rfl, .inl hS, _, _, rfl, rfl, _, rfl, ite2 (fun c => ?_) (fun c => ?_)⟩
    · have hl := of_decide_eq_true c
      rw [List.length_map] at hl
      have hi : i < ns.length := by omega
      exact ⟨_, rfl, _, rfl, a, _, _, _, rfl, rfl, hS, at_of (j := i) rfl (by rw [List.getElem?_map, List.getElem?_eq_getElem hi]; rfl), q _ _ (Same.refl _)⟩
    · refine ⟨_, rfl, 1, rfl, a, _, rfl, hS, fun c nc => ?_⟩
      obtain ⟨l, el, _⟩ := cut_ints ns none (some 1)
      refine ⟨c, l, rfl, by rw [← el]; exact SqL.of upd_same, _, _, rfl, rfl, (by show (0 : Int) < 1000003; decide), q _ _ (same_new nc)⟩
theorem scGen : FnScope ["_law_script", "_law_index", "_law_seed"] ["_law_script", "_law_index"] (defScope sGen) := ⟨rfl, rfl, rfl, by decide +kernel, rfl, by decide +kernel, by decide +kernel⟩
theorem ok_gen {f : Addr} {fd : FuncData} (F : Fun K "_law_generator" "_law_generator" sGen f fd) (T : Bi mg) (U : Use P w K mg base "_law_cell" ["_law_script", "_law_index"] (spCell K) 1) : FnOk P w K mg base CX0 2 f fd ["_law_script", "_law_index"] (spGen K) := by
  refine F.ok scGen (fun vs H Q E h => ?_) (fun cdv A outer s H vs Q E hr h => ?_)
  · obtain ⟨a, ns, i, rfl, _⟩ := h
    rfl
  · obtain ⟨a, ns, i, rfl, hi, hS, q⟩ := h
    refine ⟨_, pss_cons (ps_set (i := 2) scGen.nd rfl (Or.inl rfl) (pe_use U hr (by rfl) (pa_cons (pv 0) (pa_cons (pv 1) pa_nil))))
      (pss_one (ps_ret (pe_lst (pa_cons (pe_op op_mod (pe_callTy call_int1 (by rfl) T.int PyProof.Rows.boot_int (pa_cons (pe_callB (call_max2 rfl) (by rfl) T.max (by decide +kernel) (pa_cons (pe_op op_sub (pv 2) (pe_op op_pow pe_int pe_int)) (pa_cons pe_int pa_nil))) pa_nil)) (pe_op op_powW (pe_op op_pow pe_int pe_int) pe_int))
        (pa_cons (pe_op op_mod (pe_callTy call_int1 (by rfl) T.int PyProof.Rows.boot_int (pa_cons (pv 2) pa_nil)) pe_int) (pa_cons (pe_op op_mul pe_int (pv 1)) pa_nil)))))), ?_⟩
    refine ⟨_, rfl, _, rfl, a, ns, i, rfl, hS, fun r H1 s1 => ?_⟩
    refine ⟨_, rfl, _, _, rfl, rfl, ⟨by decide, by decide, by decide⟩, _, _, rfl, rfl, _, _, rfl, .inl ⟨_, rfl, _, _, rfl, rfl, ⟨by decide, by decide, by decide⟩, _, _, rfl, rfl, pow60, _, _, rfl, rfl, pow600, ?_⟩⟩
    refine ⟨_, rfl, .inl ⟨_, rfl, _, _, rfl, rfl, (by show (0 : Int) < 2147483647; decide), _, rfl, _, _, rfl, rfl, .inl ⟨by decide, by decide⟩, (by show 3 ≤ sizeLine; decide), fun g hg => ?_⟩⟩
    exact q g _ (s1.trans (same_new hg)) (s1.free hg) ⟨_, _, _, upd_same, Int.emod_nonneg _ (by decide), Int.emod_lt_of_pos _ (by decide), by omega, by omega⟩

end
end K56

namespace K56
open PySem PySem.Spec PyProof.Rows
open L2 hiding spCell rLen
open GL
section
variable {P : Program} {w : World} {K : PySem.W.Frag} {mg : Str → Option Value} {base : Heap}
noncomputable abbrev sWhole : Stmt := topS 14
noncomputable abbrev sBelow : Stmt := topS 16
noncomputable abbrev sRow : Stmt := topS 18
noncomputable abbrev sCompOf : Stmt := topS 19
theorem scWhole : FnScope ["value"] ["value"] (defScope sWhole) := ⟨rfl, rfl, rfl, by decide +kernel, rfl, by decide +kernel, by decide +kernel⟩
theorem ok_whole {f : Addr} {fd : FuncData} (F : Fun K "is_whole" "is_whole" sWhole f fd) (T : Bi mg) : FnOk P w K mg base CX0 1 f fd ["value"] (spWhole K) := by
  refine F.ok scWhole (fun vs H Q E h => ?_) (fun cdv A outer s H vs Q E hr h => ?_)
  · obtain ⟨x, d, rfl, _⟩ := h
    rfl
  · obtain ⟨x, d, rfl, hd, q⟩ := h
    refine ⟨_, pss_one (ps_ret (pe_and (pe_callB call_isi (by rfl) T.isinstance (by decide +kernel) (pa_cons (pv 0) (pa_cons (pe_bltn (v := .ty "int") (by rfl) T.int PyProof.Rows.boot_int rfl) pa_nil)))
      (pe_one (pe_not (pe_callB call_isi (by rfl) T.isinstance (by decide +kernel) (pa_cons (pv 0) (pa_cons (pe_bltn (v := .ty "bool") (by rfl) T.bool (by decide +kernel) rfl) pa_nil))))))), ?_⟩
    refine ⟨_, rfl, _, _, _, _, _, rfl, .ty "int", hd.ty, kit_int d, _, rfl, ?_⟩
    cases e : isInt d with
    | false =>
      refine iteF ?_
      have z : whole d = false := by unfold whole; rw [e]; rfl
      rw [← z]
      exact q
    | true =>
      refine iteT ⟨_, rfl, _, _, _, _, _, rfl, .ty "bool", hd.ty, kit_bool d, _, rfl, ?_⟩
      have z : whole d = !isBool d := by unfold whole; rw [e]; rfl
      rw [← z]
      exact q
theorem scBelow : FnScope ["value", "bound"] ["value", "bound"] (defScope sBelow) := ⟨rfl, rfl, rfl, by decide +kernel, rfl, by decide +kernel, by decide +kernel⟩
theorem ok_below {f : Addr} {fd : FuncData} (F : Fun K "is_below" "is_below" sBelow f fd) (U : Use P w K mg base "is_whole" ["value"] (spWhole K) 1) : FnOk P w K mg base CX0 2 f fd ["value", "bound"] (spBelow K) := by
  refine F.ok scBelow (fun vs H Q E h => ?_) (fun cdv A outer s H vs Q E hr h => ?_)
  · obtain ⟨x, d, k, rfl, _⟩ := h
    rfl
  · obtain ⟨x, d, k, rfl, hd, q⟩ := h
    refine ⟨_, pss_one (ps_ret (pe_and (pe_use U hr (by rfl) (pa_cons (pv 0) pa_nil)) (pe_one (pe_chain op_le op_lt pe_int (pv 0) (pv 1))))), ?_⟩
    refine ⟨_, rfl, _, d, rfl, hd, _, rfl, ?_⟩
    rcases whole_cases d with ⟨i, rfl, e⟩ | ⟨e, z⟩
    · rw [e]
      cases hd
      refine iteT ⟨_, rfl, _, _, rfl, rfl, _, rfl, ?_⟩
      cases c : decide ((0 : Int) ≤ i) with
      | true =>
        refine iteT ⟨_, rfl, _, _, rfl, rfl, ?_⟩
        have z : below k (.int i) = decide (i < k) := by
          show (decide (0 ≤ i) && decide (i < k)) = decide (i < k)
          rw [c, Bool.true_and]
        rw [z] at q
        exact q
      | false =>
        refine iteF ?_
        have z : below k (.int i) = false := by
          show (decide (0 ≤ i) && decide (i < k)) = false
          rw [c, Bool.false_and]
        rw [z] at q
        exact q
    · rw [e]
      refine iteF ?_
      rw [← z k]
      exact q
theorem scRow : FnScope ["kinds", "many", "value", "kind"] ["kinds", "many", "value"] (defScope sRow) := ⟨rfl, rfl, rfl, by decide +kernel, rfl, by decide +kernel, by decide +kernel⟩
theorem ok_row {f : Addr} {fd : FuncData} (F : Fun K "is_row" "is_row" sRow f fd) (T : Bi mg) (U : Use P w K mg base "is_below" ["value", "bound"] (spBelow K) 2) : FnOk P w K mg base CX0 3 f fd ["kinds", "many", "value"] (spRow K) := by
  refine F.ok scRow (fun vs H Q E h => ?_) (fun cdv A outer s H vs Q E hr h => ?_)
  · obtain ⟨x, d, k, n, rfl, _⟩ := h
    rfl
  · obtain ⟨x, d, k, n, rfl, hn, hd, q⟩ := h
    refine ⟨_, pss_one (ps_ret (pe_and (pe_callB call_isi (by rfl) T.isinstance (by decide +kernel) (pa_cons (pv 2) (pa_cons (pe_bltn (v := .ty "list") (by rfl) T.list PyProof.Rows.boot_list rfl) pa_nil)))
      (pe_and (pe_cmpR op_eq (pe_callB call_len_seq (by rfl) T.len PySem.boot_len (pa_cons (pv 2) pa_nil)) (pv 1) (nomark _))
      (pe_one (pe_callB (cr_all rfl) (by rfl) T.all (by decide +kernel) (pa_cons (pe_lc (own := [("kind", 3)]) (g := gName 3) (tt := tYes) rfl scRow.nd (pi_list (pv 2)) (blkOk_by (N := ["kinds", "many", "value", "kind"]) (sc := defScope sRow) (by decide +kernel))
        (fun _ _ _ _ _ => pg_name (i := 3) scRow.nd rfl (Or.inl rfl)) (fun _ _ _ _ _ => pts_nil) (fun _ _ _ _ _ => pe_use U hr (by rfl) (pa_cons (pv 3) (pa_cons (pv 0) pa_nil)))) pa_nil)))))), ?_⟩
    refine ⟨_, rfl, _, _, _, _, _, rfl, .ty "list", hd.ty, kit_list d, _, rfl, ?_⟩
    by_cases e : ∃ ds, d = .list ds
    · obtain ⟨ds, rfl⟩ := e
      cases hd with
      | @lst a xs _ ha hs =>
        have hl := hs.length
        refine iteT ⟨_, rfl, a, xs, rfl, .inl (SqL.of ha), _, rfl, rfl, _, rfl, ?_⟩
        rw [hl]
        by_cases c : (ds.length : Int) = n
        · rw [decide_eq_true (congrArg V.int c)]
          refine iteT ⟨_, rfl, a, rfl, ⟨_, SqL.of ha⟩, fun D hD => ?_⟩
          refine lc_list (K := K) (a := a) (xs := xs) (fun i H' => Same H H' ∧ H' D = some (.lst (((ds.take i).map (below k)).map V.bl))) ⟨same_new hD, upd_same⟩ (fun i H' _ z => (z.1).seq (SqL.of ha)) ?_ ?_
          · rintro i y H' hi ⟨s1, hD'⟩
            obtain ⟨dy, e1, d1⟩ := hs.get hi
            refine ⟨rfl, yes_of ?_⟩
            refine ⟨_, rfl, _, rfl, y, dy, k, rfl, Dt.same s1 dy _ d1, _, hD', ?_, ?_, ?_⟩
            · rw [List.length_map, List.length_map, List.length_take]
              exact small1000 (by omega)
            · exact fun b o z => by rw [upd_ne (ne_of_none z hD)]; exact s1 b o z
            · rw [upd_same, take_more (below k) e1, List.map_append]
              rfl
          · rintro H' ⟨s1, hD'⟩
            rw [hl, List.take_length] at hD'
            refine ⟨D, ds.map (below k), rfl, SqL.of hD', ?_⟩
            have z : rowOk k n (.list ds) = (ds.map (below k)).all id := by
              show (decide ((ds.length : Int) = n) && ds.all (below k)) = _
              rw [decide_eq_true c, Bool.true_and, List.all_map]
              rfl
            rw [← z]
            exact q _ s1
        · rw [decide_eq_false (fun z => c (V.int.inj z))]
          refine iteF ?_
          have z : rowOk k n (.list ds) = false := by
            show (decide ((ds.length : Int) = n) && ds.all (below k)) = false
            rw [decide_eq_false c]
            rfl
          rw [← z]
          exact q _ (Same.refl _)
    · have z : isList d = false ∧ rowOk k n d = false := by
        cases d with
        | list ds => exact (e ⟨ds, rfl⟩).elim
        | _ => exact ⟨rfl, rfl⟩
      rw [z.1]
      refine iteF ?_
      rw [← z.2]
      exact q _ (Same.refl _)
theorem scCompOf : FnScope ["kinds", "value", "person", "row"] ["kinds", "value"] (defScope sCompOf) := ⟨rfl, rfl, rfl, by decide +kernel, rfl, by decide +kernel, by decide +kernel⟩
theorem ok_compOf {f : Addr} {fd : FuncData} (F : Fun K "is_company_of" "is_company_of" sCompOf f fd) (T : Bi mg) (C : Cs mg) (U : Use P w K mg base "is_row" ["kinds", "many", "value"] (spRow K) 3) : FnOk P w K mg base CX0 4 f fd ["kinds", "value"] (spCompOf K) := by
  refine F.ok scCompOf (fun vs H Q E h => ?_) (fun cdv A outer s H vs Q E hr h => ?_)
  · obtain ⟨x, d, k, rfl, _⟩ := h
    rfl
  · obtain ⟨x, d, k, rfl, hd, q⟩ := h
    obtain ⟨t3, c3⟩ := C.people
    refine ⟨_, pss_cons (ps_if (PW.pt (pw_or (pt_not (pt_val (pe_callB call_isi (by rfl) T.isinstance (by decide +kernel) (pa_cons (pv 1) (pa_cons (pe_bltn (v := .ty "list") (by rfl) T.list PyProof.Rows.boot_list rfl) pa_nil)))))
        (pw_or1 (pt_not (pt_chain op_le op_le pe_int (pe_callB call_len_seq (by rfl) T.len PySem.boot_len (pa_cons (pv 1) pa_nil)) (pe_glob (v := .int 40) rfl c3 ⟨_, rfl⟩)))))) (pss_one (ps_ret pe_bl)) pss_nil)
      (pss_one (ps_ret (pe_callB (cr_all rfl) (by rfl) T.all (by decide +kernel) (pa_cons (pe_lc (own := [("person", 2), ("row", 3)]) (g := gTup K 2 (gCons (gName 2) (gCons (gName 3) gNil))) (tt := tYes) rfl scCompOf.nd (pi_enum (by rfl) T.enumerate (pa_cons (pv 1) pa_nil))
        (blkOk_by (N := ["kinds", "value", "person", "row"]) (sc := defScope sCompOf) (by decide +kernel)) (fun _ _ _ _ _ => pg_tup rfl (pgs_cons (pg_name (i := 2) scCompOf.nd rfl (Or.inl rfl)) (pgs_cons (pg_name (i := 3) scCompOf.nd rfl (Or.inl rfl)) pgs_nil)))
        (fun _ _ _ _ _ => pts_nil) (fun _ _ _ _ _ => pe_use U hr (by rfl) (pa_cons (pv 0) (pa_cons (pv 2) (pa_cons (pv 3) pa_nil))))) pa_nil)))), ?_⟩
    refine ⟨_, rfl, _, _, _, _, _, rfl, .ty "list", hd.ty, kit_list d, _, rfl, ?_⟩
    by_cases e : ∃ ds, d = .list ds
    · obtain ⟨ds, rfl⟩ := e
      cases hd with
      | @lst a xs _ ha hs =>
        have hl := hs.length
        refine iteF ⟨_, rfl, a, xs, rfl, .inl (SqL.of ha), _, _, rfl, rfl, _, rfl, ?_⟩
        rw [hl]
        by_cases c1 : (1 : Int) ≤ (ds.length : Int)
        · rw [decide_eq_true c1]
          refine iteT ⟨_, _, rfl, rfl, _, rfl, ?_⟩
          by_cases c2 : (ds.length : Int) ≤ 40
          · rw [decide_eq_true c2]
            refine iteF ⟨_, rfl, a, xs, rfl, SqL.of ha, fun D hD => ?_⟩
            refine lc_it (walk_enum (K := K) (a := a) (xs := xs)) (fun i H' => Same H H' ∧ H' D = some (.lst (((List.range i).map fun j => rowOk k ((0 + j : Nat) : Int) (ds.getD j .none)).map V.bl))) ⟨same_new hD, upd_same⟩ (fun i H' _ z => (z.1).seq (SqL.of ha)) ?_ ?_
            · rintro i y H' H'' hi ⟨s1, hD'⟩ ⟨T, x1, x2, rfl, nT, rfl, e1, e2⟩
              have e1' : x1 = .int (i : Nat) := (Option.some.inj e1).symm
              subst e1'
              obtain ⟨dy, f1, f2⟩ := hs.get e2
              have s2 := s1.trans (same_new (o := .tup [.int (i : Nat), x2]) nT)
              have ne : D ≠ T := ne_of_none hD' nT
              refine ⟨T, [.int (i : Nat), x2], rfl, SqT.of upd_same, rfl, _, _, rfl, _, _, rfl, rfl, rfl, yes_of ?_⟩
              refine ⟨_, rfl, _, rfl, _, rfl, x2, dy, k, i, rfl, by omega, Dt.same s2 dy _ f2, fun H3 s3 => ⟨_, s3 D _ (by rw [upd_ne ne]; exact hD'), ?_, ?_, ?_⟩⟩
              · rw [List.length_map, List.length_map, List.length_range]
                exact small1000 (by omega)
              · exact fun b o z => by rw [upd_ne (ne_of_none z hD)]; exact s3 b o (s2 b o z)
              · rw [upd_same, all_range_more]
                have ez : (0 + i : Nat) = i := Nat.zero_add i
                have eg : ds.getD i .none = dy := by rw [List.getD_eq_getElem?_getD, f1]; rfl
                rw [ez, eg]
            · rintro H' ⟨s1, hD'⟩
              refine ⟨D, _, rfl, SqL.of hD', ?_⟩
              rw [hl, ← rowsOk_all]
              have z : compOk k (.list ds) = rowsOk k 0 ds := by
                show ((decide (1 ≤ ds.length) && decide (ds.length ≤ 40)) && rowsOk k 0 ds) = _
                rw [decide_eq_true (by omega : 1 ≤ ds.length), decide_eq_true (by omega : ds.length ≤ 40)]
                rfl
              rw [← z]
              exact q _ s1
          · rw [decide_eq_false c2]
            refine iteT ?_
            have z : compOk k (.list ds) = false := by
              show ((decide (1 ≤ ds.length) && decide (ds.length ≤ 40)) && rowsOk k 0 ds) = _
              rw [decide_eq_false (by omega : ¬ ds.length ≤ 40), Bool.and_false, Bool.false_and]
            have q' := q _ (Same.refl _)
            rw [z] at q'
            exact q'
        · rw [decide_eq_false c1]
          refine iteF ⟨_, rfl, iteT ?_⟩
          have z : compOk k (.list ds) = false := by
            show ((decide (1 ≤ ds.length) && decide (ds.length ≤ 40)) && rowsOk k 0 ds) = _
            rw [decide_eq_false (by omega : ¬ 1 ≤ ds.length), Bool.false_and, Bool.false_and]
          have q' := q _ (Same.refl _)
          rw [z] at q'
          exact q'
    · have z : isList d = false ∧ compOk k d = false := by
        cases d with
        | list ds => exact (e ⟨ds, rfl⟩).elim
        | _ => exact ⟨rfl, rfl⟩
      rw [z.1]
      refine iteT ?_
      have q' := q _ (Same.refl _)
      rw [z.2] at q'
      exact q'

end
section
variable {P : Program} {w : World} {K : PySem.W.Frag} {mg : Str → Option Value} {base : Heap}
variable {er : Str → Addr}
noncomputable abbrev sKindsA : Stmt := topS 17
noncomputable abbrev nKindsA : List Str := ["value"]
theorem scKindsA : FnScope nKindsA ["value"] (defScope sKindsA) := ⟨rfl, rfl, rfl, by decide +kernel, rfl, by decide +kernel, by decide +kernel⟩
theorem ok_kindsA {f : Addr} {fd : FuncData} (F : Fun K "are_kinds" "are_kinds" sKindsA f fd) (T : Bi mg) (C : Cs mg) (Uiswhole : Use P w K mg base "is_whole" ["value"] (spWhole K) 1) : FnOk P w K mg base CX0 2 f fd ["value"] (spKindsA K) := by
  refine F.ok scKindsA (fun vs H Q E h => ?_) (fun cdv A outer s H vs Q E hr h => ?_)
  · obtain ⟨x, d, rfl, _⟩ := h
    rfl
  · obtain ⟨x, d, rfl, dx, q⟩ := h
    refine ⟨_, (pss_one (ps_ret (pe_and (pe_use Uiswhole hr (by rfl) (pa_cons (pv 0) pa_nil)) (pe_one (pe_chain op_le op_le (pe_glob (v := .int 2) rfl C.least.choose_spec ⟨_, rfl⟩) (pv 0) (pe_glob (v := .int 9) rfl C.most.choose_spec ⟨_, rfl⟩)))))), ?_⟩
    refine ⟨_, rfl, x, d, rfl, dx, _, rfl, ?_⟩
    cases d with
    | int k =>
      cases dx
      refine iteT ⟨_, rfl, _, _, rfl, rfl, _, rfl, ?_⟩
      by_cases h : 2 ≤ k
      · rw [decide_eq_true h]
        refine iteT ⟨_, _, rfl, rfl, ?_⟩
        have e : kindsD (.int k) = decide (k ≤ 9) := by
          show (decide (2 ≤ k) && decide (k ≤ 9)) = _
          rw [decide_eq_true h]
          rfl
        rw [e] at q
        exact q
      · rw [decide_eq_false h]
        refine iteF ?_
        have e : kindsD (.int k) = false := by
          show (decide (2 ≤ k) && decide (k ≤ 9)) = _
          rw [decide_eq_false h]
          rfl
        rw [e] at q
        exact q
    | _ => exact iteF q
noncomputable abbrev sKnd : Stmt := topS 24
noncomputable abbrev nKnd : List Str := ["kinds"]
theorem scKnd : FnScope nKnd ["kinds"] (defScope sKnd) := ⟨rfl, rfl, rfl, by decide +kernel, rfl, by decide +kernel, by decide +kernel⟩
theorem ok_knd {f : Addr} {fd : FuncData} (F : Fun K "check_kinds" "check_kinds" sKnd f fd) (T : Bi mg) (Uarekinds : Use P w K mg base "are_kinds" ["value"] (spKindsA K) 2) (XInvalidNumber : ErrU P w K mg base er "InvalidNumber") : FnOk P w K mg base (L2.CX P w) 3 f fd ["kinds"] (spKnd K er) := by
  obtain ⟨iInvalidNumber, tInvalidNumber, uInvalidNumber⟩ := XInvalidNumber
  refine F.okX scKnd (fun vs H Q E h => ?_) (fun cdv A outer s H vs Q E hr h => ?_)
  · obtain ⟨x, d, rfl, _⟩ := h
    rfl
  · obtain ⟨x, d, rfl, dx, good, bad⟩ := h
    refine ⟨_, (pss_one (ps_if (pt_not (pt_val (pe_use Uarekinds hr (by rfl) (pa_cons (pv 0) pa_nil))))
        (pss_one (ps_raise rfl (takes_of rfl rfl rfl rfl) (pmk_err tInvalidNumber uInvalidNumber hr (by rfl) (pa_cons (pv 0) pa_nil)))) pss_nil)), ?_⟩
    refine ⟨_, rfl, x, d, rfl, dx, _, rfl, ?_⟩
    cases h : kindsD d with
    | true => exact iteF (good h)
    | false => exact iteT ⟨_, rfl, err_by tInvalidNumber ((bad h).raise (Same.refl _))⟩
noncomputable abbrev sCom : Stmt := topS 27
noncomputable abbrev nCom : List Str := ["kinds", "company"]
theorem scCom : FnScope nCom ["kinds", "company"] (defScope sCom) := ⟨rfl, rfl, rfl, by decide +kernel, rfl, by decide +kernel, by decide +kernel⟩
theorem ok_com {f : Addr} {fd : FuncData} (F : Fun K "check_company" "check_company" sCom f fd) (T : Bi mg) (Uiscompanyof : Use P w K mg base "is_company_of" ["kinds", "value"] (spCompOf K) 4) (Ucheckkinds : UseX P w K mg base "check_kinds" ["kinds"] (spKnd K er) 3) (XInvalidCompany : ErrU P w K mg base er "InvalidCompany") : FnOk P w K mg base (L2.CX P w) 5 f fd ["kinds", "company"] (spCom K er) := by
  obtain ⟨iInvalidCompany, tInvalidCompany, uInvalidCompany⟩ := XInvalidCompany
  refine F.okX scCom (fun vs H Q E h => ?_) (fun cdv A outer s H vs Q E hr h => ?_)
  · obtain ⟨x, y, dk, dc, rfl, _⟩ := h
    rfl
  · obtain ⟨x, y, dk, dc, rfl, dx, dy, bad, rest⟩ := h
    refine ⟨_, (pss_cons (ps_expr (pe_useX Ucheckkinds (hr.mono (by decide)) (takes_of rfl rfl rfl rfl) (by rfl) (pa_cons (pv 0) pa_nil)))
      (pss_one (ps_if (pt_not (pt_val (pe_use Uiscompanyof hr (by rfl) (pa_cons (pv 0) (pa_cons (pv 1) pa_nil)))))
        (pss_one (ps_raise rfl (takes_of rfl rfl rfl rfl) (pmk_err tInvalidCompany uInvalidCompany (hr.mono (by decide)) (by rfl) (pa_cons (pv 1) pa_nil)))) pss_nil))), ?_⟩
    refine ⟨_, rfl, x, dk, rfl, dx, fun h => ?_, bad⟩
    obtain ⟨k, rfl, _, _⟩ := kinds_of h
    cases dx
    obtain ⟨r1, r2⟩ := rest k rfl h
    refine ⟨_, rfl, _, rfl, y, dc, k, rfl, dy, fun H1 s1 => ⟨_, rfl, ?_⟩⟩
    cases hc : compOk k dc with
    | true => exact iteF (r2 hc H1 s1)
    | false => exact iteT ⟨_, rfl, err_by tInvalidCompany ((r1 hc).raise s1)⟩
end
section
variable {P : Program} {w : World} {K : PySem.W.Frag} {mg : Str → Option Value} {base : Heap}
noncomputable abbrev sCoupleD : Stmt := topS 20
noncomputable abbrev nCoupleD : List Str := ["many", "value"]
theorem scCoupleD : FnScope nCoupleD ["many", "value"] (defScope sCoupleD) := ⟨rfl, rfl, rfl, by decide +kernel, rfl, by decide +kernel, by decide +kernel⟩
theorem ok_coupleD {f : Addr} {fd : FuncData} (F : Fun K "is_couple" "is_couple" sCoupleD f fd) (T : Bi mg) (Uisbelow : Use P w K mg base "is_below" ["value", "bound"] (spBelow K) 2) : FnOk P w K mg base CX0 3 f fd ["many", "value"] (spCoupleD K) := by
  refine F.ok scCoupleD (fun vs H Q E h => ?_) (fun cdv A outer s H vs Q E hr h => ?_)
  · obtain ⟨n, x, d, rfl, _⟩ := h
    rfl
  · obtain ⟨n, x, d, rfl, hd, q⟩ := h
    refine ⟨_, (pss_cons (ps_if (PW.pt (pw_or (pt_not (pt_val (pe_callB call_isi (by rfl) T.isinstance (by decide +kernel) (pa_cons (pv 1) (pa_cons (pe_bltn (v := .ty "tuple") (by rfl) T.tuple (by decide +kernel) rfl) pa_nil))))) (pw_or1 (pt_cmpR op_ne (pe_callB call_len_seq (by rfl) T.len PySem.boot_len (pa_cons (pv 1) pa_nil)) pe_int (nomark _)))))
        (pss_one (ps_ret pe_bl)) pss_nil)
      (pss_one (ps_ret (pe_and (pe_use Uisbelow hr (by rfl) (pa_cons (pe_ix ix_tup (pv 1) pe_int (fun _ _ => rfl)) (pa_cons (pv 0) pa_nil))) (pe_one (pe_use Uisbelow hr (by rfl) (pa_cons (pe_ix ix_tup (pv 1) pe_int (fun _ _ => rfl)) (pa_cons (pe_ix ix_tup (pv 1) pe_int (fun _ _ => rfl)) pa_nil)))))))), ?_⟩
    refine ⟨_, rfl, _, _, _, _, _, rfl, .ty "tuple", hd.ty, kit_tuple d, _, rfl, ?_⟩
    by_cases e : ∃ ds, d = .tuple ds
    · obtain ⟨ds, rfl⟩ := e
      cases hd with
      | tup ht hx =>
        rename_i t xs
        refine iteF ⟨_, rfl, t, _, rfl, .inr (SqT.of ht), rfl, _, rfl, ?_⟩
        have lx := hx.length
        by_cases l2 : ds.length = 2
        · match ds, l2, xs, hx with
          | [y, z], _, [vy, vz], .cons hy (.cons hz .nil) =>
            refine iteF ?_
            refine ⟨_, rfl, t, _, _, _, rfl, rfl, SqT.of ht, at_of (j := 1) rfl rfl, _, rfl, vz, z, n, rfl, hz, _, rfl, ?_⟩
            have cc : cplD n (.tuple [y, z]) = (below n z && cTail y z) := rfl
            cases bz : below n z with
            | false =>
              refine iteF ?_
              rw [cc, bz] at q
              exact q
            | true =>
              obtain ⟨j, rfl, j0, j1⟩ := below_int bz
              have ez : vz = .int j := by
                cases hz
                rfl
              subst ez
              refine iteT ⟨_, rfl, t, _, _, _, rfl, rfl, SqT.of ht, at_of (j := 0) rfl rfl, _, rfl, t, _, _, _, rfl, rfl, SqT.of ht, at_of (j := 1) rfl rfl, vy, y, j, rfl, hy, ?_⟩
              rw [cc, bz] at q
              exact q
        · have ne : ¬ ((xs.length : Nat) : Int) = 2 := by omega
          have ez : decide (V.int ((xs.length : Nat) : Int) = V.int 2) = false := decide_eq_false fun z => ne (by injection z)
          rw [ez]
          refine iteT ?_
          have cc : cplD n (.tuple ds) = false := by
            match ds, l2 with
            | [], _ => rfl
            | [a], _ => rfl
            | a :: b :: c :: l, _ => rfl
          rw [cc] at q
          exact q
    · have z : isTup d = false ∧ cplD n d = false := by
        cases d with
        | tuple ds => exact (e ⟨ds, rfl⟩).elim
        | _ => exact ⟨rfl, rfl⟩
      rw [z.1]
      refine iteT (iteT ?_)
      rw [z.2] at q
      exact q

noncomputable abbrev sCplK : Stmt := topS 21
noncomputable abbrev nCplK : List Str := ["kinds", "many", "value"]
theorem scCplK : FnScope nCplK ["kinds", "many", "value"] (defScope sCplK) := ⟨rfl, rfl, rfl, by decide +kernel, rfl, by decide +kernel, by decide +kernel⟩
theorem ok_cplK {f : Addr} {fd : FuncData} (F : Fun K "is_couple_with_kind" "is_couple_with_kind" sCplK f fd) (T : Bi mg) (Uisbelow : Use P w K mg base "is_below" ["value", "bound"] (spBelow K) 2) (Uiscouple : Use P w K mg base "is_couple" ["many", "value"] (spCoupleD K) 3) : FnOk P w K mg base CX0 4 f fd ["kinds", "many", "value"] (spCplK K) := by
  refine F.ok scCplK (fun vs H Q E h => ?_) (fun cdv A outer s H vs Q E hr h => ?_)
  · obtain ⟨k, n, x, d, rfl, _⟩ := h
    rfl
  · obtain ⟨k, n, x, d, rfl, hd, q⟩ := h
    refine ⟨_, (pss_cons (ps_if (PW.pt (pw_or (pt_not (pt_val (pe_callB call_isi (by rfl) T.isinstance (by decide +kernel) (pa_cons (pv 2) (pa_cons (pe_bltn (v := .ty "tuple") (by rfl) T.tuple (by decide +kernel) rfl) pa_nil))))) (pw_or1 (pt_cmpR op_ne (pe_callB call_len_seq (by rfl) T.len PySem.boot_len (pa_cons (pv 2) pa_nil)) pe_int (nomark _)))))
        (pss_one (ps_ret pe_bl)) pss_nil)
      (pss_one (ps_ret (pe_and (pe_use Uiscouple hr (by rfl) (pa_cons (pv 1) (pa_cons (pe_slice sl_tup (pv 2) po_none (po_some pe_int)) pa_nil))) (pe_one (pe_use Uisbelow (hr.mono (by decide)) (by rfl) (pa_cons (pe_ix ix_tup (pv 2) pe_int (fun _ _ => rfl)) (pa_cons (pv 0) pa_nil)))))))), ?_⟩
    refine ⟨_, rfl, _, _, _, _, _, rfl, .ty "tuple", hd.ty, kit_tuple d, _, rfl, ?_⟩
    by_cases e : ∃ ds, d = .tuple ds
    · obtain ⟨ds, rfl⟩ := e
      cases hd with
      | tup ht hx =>
        rename_i t xs
        have lx := hx.length
        refine iteF ⟨_, rfl, t, _, rfl, .inr (SqT.of ht), rfl, _, rfl, ?_⟩
        by_cases l3 : ds.length = 3
        · match ds, l3, xs, hx with
          | [y, z, u], _, [vy, vz, vu], .cons hy (.cons hz (.cons hu .nil)) =>
            refine iteF ?_
            refine ⟨_, rfl, _, rfl, 2, rfl, t, _, rfl, SqT.of ht, ?_, fun p hp => ?_⟩
            · rintro ⟨_, h2⟩
              rw [show HT.sIx [vy, vz, vu].length [vy, vz, vu].length (some 2) = min 2 3 from HT.sIx_nat _ _ 2] at h2
              cases h2
            · have ec : cutV [vy, vz, vu] none (some 2) = [vy, vz] := cut_to (xs := [vy, vz, vu]) (i := 2) (by show 2 ≤ 3; decide)
              rw [ec]
              obtain ⟨H1, e1, s1, f1⟩ := gen H hp (.tup [vy, vz])
              rw [e1]
              clear e1
              refine ⟨n, _, .tuple [y, z], rfl, .tup f1 (.cons (hy.same s1) (.cons (hz.same s1) .nil)), _, rfl, ?_⟩
              have q' := q H1 s1
              have cc : cplKB n k (.tuple [y, z, u]) = (cplD n (.tuple [y, z]) && below k u) := rfl
              rw [cc] at q'
              cases bc : cplD n (.tuple [y, z]) with
              | false =>
                rw [bc] at q'
                exact iteF q'
              | true =>
                rw [bc] at q'
                exact iteT ⟨_, rfl, t, _, _, _, rfl, rfl, SqT.of (s1 _ _ ht), at_of (j := 2) rfl rfl, _, rfl, vu, u, k, rfl, hu.same s1, q'⟩
        · have ne : ¬ ((xs.length : Nat) : Int) = 3 := by omega
          have ez : decide (V.int ((xs.length : Nat) : Int) = V.int 3) = false := decide_eq_false fun z => ne (by injection z)
          rw [ez]
          refine iteT ?_
          have cc : cplKB n k (.tuple ds) = false := by
            match ds, l3 with
            | [], _ => rfl
            | [a], _ => rfl
            | [a, b], _ => rfl
            | a :: b :: c :: e :: l, _ => rfl
          have q' := q H (Same.refl _)
          rw [cc] at q'
          exact q'
    · have z : isTup d = false ∧ cplKB n k d = false := by
        cases d with
        | tuple ds => exact (e ⟨ds, rfl⟩).elim
        | _ => exact ⟨rfl, rfl⟩
      rw [z.1]
      refine iteT (iteT ?_)
      have q' := q H (Same.refl _)
      rw [z.2] at q'
      exact q'

variable {er : Str → Addr}
noncomputable abbrev sOrderA : Stmt := topS 23
noncomputable abbrev nOrderA : List Str := ["many", "value", "person"]
theorem scOrderA : FnScope nOrderA ["many", "value"] (defScope sOrderA) := ⟨rfl, rfl, rfl, by decide +kernel, rfl, by decide +kernel, by decide +kernel⟩
theorem ok_orderA {f : Addr} {fd : FuncData} (F : Fun K "is_order" "is_order" sOrderA f fd) (T : Bi mg) (Uisbelow : Use P w K mg base "is_below" ["value", "bound"] (spBelow K) 2) : FnOk P w K mg base CX0 3 f fd ["many", "value"] (spOrderA K) := by
  refine F.ok scOrderA (fun vs H Q E h => ?_) (fun cdv A outer s H vs Q E hr h => ?_)
  · obtain ⟨n, x, d, rfl, _⟩ := h
    rfl
  · obtain ⟨n, x, d, rfl, n100, hd, small, q⟩ := h
    refine ⟨_, (pss_cons (ps_if (PW.pt (pw_or (pt_not (pt_val (pe_callB call_isi (by rfl) T.isinstance (by decide +kernel) (pa_cons (pv 1) (pa_cons (pe_bltn (v := .ty "list") (by rfl) T.list (by decide +kernel) rfl) pa_nil))))) (pw_or1 (pt_not (pt_val (pe_callB (cr_all rfl) (by rfl) T.all (by decide +kernel) (pa_cons (pe_lc (own := [("person", 2)]) (g := (gName 2)) (tt := tYes) (te := (tCall (spBelow K) [] E0 (tCons (tVar 2) (tCons (tVar 0) tNil)))) rfl scOrderA.nd (pi_list (pv 1))
            (blkOk_by (N := nOrderA) (sc := (defScope sOrderA)) (by decide +kernel)) (fun _ _ _ _ _ => (pg_name (i := 2) scOrderA.nd rfl (Or.inl rfl))) (fun _ _ _ _ _ => by exact pts_nil)
            (fun _ _ _ _ _ => by exact (pe_use Uisbelow hr (by rfl) (pa_cons (pv 2) (pa_cons (pv 0) pa_nil))))) pa_nil)))))))
        (pss_one (ps_ret pe_bl)) pss_nil)
      (pss_one (ps_ret (pe_cmpR (op_eqD hr.units) (pe_callB cr_sortedI (by rfl) T.sorted (by decide +kernel) (pa_cons (pv 1) pa_nil)) (pe_listRg rfl (by rfl) T.list (prg_1 (by rfl) T.range (pv 0))) (nomark _))))), ?_⟩
    refine ⟨_, rfl, _, _, _, _, _, rfl, .ty "list", hd.ty, kit_list d, _, rfl, ?_⟩
    by_cases e : ∃ ds, d = .list ds
    · obtain ⟨ds, rfl⟩ := e
      have l1000 := small ds rfl
      cases hd with
      | @lst a xs _ ha hs =>
        have hl := hs.length
        have lo : orderD n (.list ds) = (ds.all (below n) && (ds.map intOf).isPerm (nums (List.range n))) := rfl
        refine iteF ⟨_, rfl, a, rfl, ⟨_, SqL.of ha⟩, fun D hD => ?_⟩
        refine lc_list (K := K) (a := a) (xs := xs) (fun i H' => Same H H' ∧ H' D = some (.lst (((ds.take i).map (below n)).map V.bl))) ⟨same_new hD, upd_same⟩ (fun i H' _ z => (z.1).seq (SqL.of ha)) ?_ ?_
        · rintro i y H' hi ⟨s1, hD'⟩
          obtain ⟨dy, e1, d1⟩ := hs.get hi
          refine ⟨rfl, yes_of ?_⟩
          refine ⟨_, rfl, _, rfl, y, dy, n, rfl, Dt.same s1 dy _ d1, _, hD', ?_, ?_, ?_⟩
          · rw [List.length_map, List.length_map, List.length_take]
            exact small1000 (by omega)
          · exact fun b o z => by rw [upd_ne (ne_of_none z hD)]; exact s1 b o z
          · rw [upd_same, take_more (below n) e1, List.map_append]
            rfl
        · rintro H' ⟨s1, hD'⟩
          rw [hl, List.take_length] at hD'
          refine ⟨D, ds.map (below n), rfl, SqL.of hD', _, rfl, ?_⟩
          have ea : (ds.map (below n)).all id = ds.all (below n) := by
            rw [List.all_map]
            rfl
          rw [ea]
          cases hb : ds.all (below n) with
          | false =>
            rw [hb] at lo
            refine iteT ?_
            have := q _ s1
            rw [lo] at this
            exact this
          | true =>
            rw [hb] at lo
            obtain ⟨ns, rfl, bd⟩ := ints_of hb
            obtain rfl := vals_of hs
            have em : (ns.map PyData.int).map intOf = ns := by
              rw [List.map_map]
              exact List.map_id'' (fun _ => rfl) ns
            rw [em] at lo
            refine iteF ⟨_, rfl, a, ns, rfl, SqL.of (s1 _ _ ha), fun ns' p pm2 so hp => ?_⟩
            obtain ⟨H2, e2, s2, f2⟩ := gen H' hp (.lst (ns'.map V.int))
            rw [e2]
            clear e2
            refine ⟨_, rfl, _, rfl, RgOk.of_le (by omega) (by omega) (by omega) (by omega), fun l hl => ?_⟩
            obtain ⟨H3, e3, s3, f3⟩ := gen H2 hl (.lst (rgV 0 (n : Int)))
            rw [e3]
            clear e3
            refine ⟨rowP ns', rowP (nums (List.range n)), dp_row (SqL.of (s3 _ _ f2)), nat_dp (by rw [f3, rg_nat]), shaped_row _, shaped_row _, ?_⟩
            have en : decide (ns' = nums (List.range n)) = ns.isPerm (nums (List.range n)) := by
              rw [Bool.eq_iff_iff, decide_eq_true_eq, List.isPerm_iff]
              constructor
              · rintro rfl
                exact pm2.symm
              · intro pm
                refine PySem.W.os_sorted_one (pm2.trans pm) so ?_
                unfold nums
                exact List.pairwise_map.mpr (List.pairwise_lt_range.imp fun h => by omega)
            rw [eqv_row, en]
            have := q _ (s1.trans (s2.trans s3))
            rw [lo] at this
            exact this
    · have z : isList d = false ∧ orderD n d = false := by
        cases d with
        | list ds => exact (e ⟨ds, rfl⟩).elim
        | _ => exact ⟨rfl, rfl⟩
      rw [z.1]
      refine iteT (iteT ?_)
      have q' := q _ (Same.refl _)
      rw [z.2] at q'
      exact q'

variable {er : Str → Addr}
noncomputable abbrev sLotA : Stmt := topS 22
noncomputable abbrev nLotA : List Str := ["many", "value", "person", "later"]
theorem scLotA : FnScope nLotA ["many", "value"] (defScope sLotA) := ⟨rfl, rfl, rfl, by decide +kernel, rfl, by decide +kernel, by decide +kernel⟩
theorem ok_lotA {f : Addr} {fd : FuncData} (F : Fun K "is_lot" "is_lot" sLotA f fd) (T : Bi mg) (Uisbelow : Use P w K mg base "is_below" ["value", "bound"] (spBelow K) 2) : FnOk P w K mg base CX0 3 f fd ["many", "value"] (spLotA K) := by
  refine F.ok scLotA (fun vs H Q E h => ?_) (fun cdv A outer s H vs Q E hr h => ?_)
  · obtain ⟨n, x, d, rfl, _⟩ := h
    rfl
  · obtain ⟨n, x, d, rfl, n100, hd, q⟩ := h
    refine ⟨_, (pss_cons (ps_if (PW.pt (pw_or (pt_not (pt_val (pe_callB call_isi (by rfl) T.isinstance (by decide +kernel) (pa_cons (pv 1) (pa_cons (pe_bltn (v := .ty "list") (by rfl) T.list (by decide +kernel) rfl) pa_nil))))) (pw_or1 (pt_not (pt_chain op_le op_le pe_int (pe_callB call_len_seq (by rfl) T.len PySem.boot_len (pa_cons (pv 1) pa_nil)) (pv 0))))))
        (pss_one (ps_ret pe_bl)) pss_nil)
      (pss_cons (ps_if (pt_not (pt_val (pe_callB (cr_all rfl) (by rfl) T.all (by decide +kernel) (pa_cons (pe_lc (own := [("person", 2)]) (g := (gName 2)) (tt := tYes) (te := (tCall (spBelow K) [] E0 (tCons (tVar 2) (tCons (tVar 0) tNil)))) rfl scLotA.nd (pi_list (pv 1))
            (blkOk_by (N := nLotA) (sc := (defScope sLotA)) (by decide +kernel)) (fun _ _ _ _ _ => (pg_name (i := 2) scLotA.nd rfl (Or.inl rfl))) (fun _ _ _ _ _ => by exact pts_nil)
            (fun _ _ _ _ _ => by exact (pe_use Uisbelow hr (by rfl) (pa_cons (pv 2) (pa_cons (pv 0) pa_nil))))) pa_nil))))
        (pss_one (ps_ret pe_bl)) pss_nil)
      (pss_one (ps_ret (pe_callB (cr_all rfl) (by rfl) T.all (by decide +kernel) (pa_cons (pe_lc (own := [("person", 2), ("later", 3)]) (g := (gTup K 2 (gCons (gName 2) (gCons (gName 3) gNil)))) (tt := tYes) (te := (tOp (rI0 fun i j => .bl (decide (i < j))) (tVar 2) (tVar 3))) rfl scLotA.nd (pi_zip (by rfl) T.zip (pa_cons (pv 1) (pa_cons (pe_slice sl_list (pv 1) (po_some pe_int) po_none) pa_nil)))
            (blkOk_by (N := nLotA) (sc := (defScope sLotA)) (by decide +kernel)) (fun _ _ _ _ _ => (pg_tup rfl (pgs_cons (pg_name (i := 2) scLotA.nd rfl (Or.inl rfl)) (pgs_cons (pg_name (i := 3) scLotA.nd rfl (Or.inl rfl)) pgs_nil)))) (fun _ _ _ _ _ => by exact pts_nil)
            (fun _ _ _ _ _ => by exact (pe_cmpR op_lt (pv 2) (pv 3) (nomark _)))) pa_nil)))))), ?_⟩
    refine ⟨_, rfl, _, _, _, _, _, rfl, .ty "list", hd.ty, kit_list d, _, rfl, ?_⟩
    by_cases e : ∃ ds, d = .list ds
    · obtain ⟨ds, rfl⟩ := e
      cases hd with
      | @lst a xs _ ha hs =>
        have hl := hs.length
        have lo : lotD n (.list ds) = ((decide (1 ≤ (ds.length : Int)) && decide ((ds.length : Int) ≤ n)) && (ds.all (below n) && ascD ds)) := rfl
        refine iteF ⟨_, rfl, a, _, rfl, .inl (SqL.of ha), _, _, rfl, rfl, _, rfl, ?_⟩
        rw [hl]
        by_cases c1 : (1 : Int) ≤ (ds.length : Int)
        · rw [decide_eq_true c1] at lo ⊢
          refine iteT ⟨_, rfl, _, _, rfl, rfl, _, rfl, ?_⟩
          by_cases c2 : (ds.length : Int) ≤ (n : Int)
          · rw [decide_eq_true c2] at lo ⊢
            refine iteF ⟨_, rfl, a, rfl, ⟨_, SqL.of ha⟩, fun D hD => ?_⟩
            refine lc_list (K := K) (a := a) (xs := xs) (fun i H' => Same H H' ∧ H' D = some (.lst (((ds.take i).map (below n)).map V.bl))) ⟨same_new hD, upd_same⟩ (fun i H' _ z => (z.1).seq (SqL.of ha)) ?_ ?_
            · rintro i y H' hi ⟨s1, hD'⟩
              obtain ⟨dy, e1, d1⟩ := hs.get hi
              refine ⟨rfl, yes_of ?_⟩
              refine ⟨_, rfl, _, rfl, y, dy, n, rfl, Dt.same s1 dy _ d1, _, hD', ?_, ?_, ?_⟩
              · rw [List.length_map, List.length_map, List.length_take]
                exact small1000 (by omega)
              · exact fun b o z => by rw [upd_ne (ne_of_none z hD)]; exact s1 b o z
              · rw [upd_same, take_more (below n) e1, List.map_append]
                rfl
            · rintro H' ⟨s1, hD'⟩
              rw [hl, List.take_length] at hD'
              refine ⟨D, ds.map (below n), rfl, SqL.of hD', _, rfl, ?_⟩
              have ea : (ds.map (below n)).all id = ds.all (below n) := by
                rw [List.all_map]
                rfl
              rw [ea]
              cases hb : ds.all (below n) with
              | false =>
                rw [hb] at lo
                refine iteT ?_
                have := q _ s1
                rw [lo] at this
                exact this
              | true =>
                rw [hb] at lo
                obtain ⟨ns, rfl, bd⟩ := ints_of hb
                obtain rfl := vals_of hs
                rw [List.length_map] at c1 c2
                refine iteF ⟨_, rfl, _, rfl, 1, rfl, a, _, rfl, SqL.of (s1 _ _ ha), fun c nc => ?_⟩
                rw [cut_one]
                obtain ⟨H2, e2, s2, f2⟩ := gen H' nc (.lst ((ns.map V.int).drop 1))
                rw [e2]
                clear e2
                have s12 := s1.trans s2
                refine ⟨a, c, _, _, rfl, SqL.of (s12 _ _ ha), SqL.of f2, fun D2 hD2 => ?_⟩
                have mn : min (ns.map V.int).length ((ns.map V.int).drop 1).length = ns.length - 1 := by
                  rw [List.length_drop, List.length_map]
                  omega
                refine lc_it (walk_zip (K := K) (a := a) (b := c) (xs := ns.map V.int) (ys := (ns.map V.int).drop 1) (n := ns.length - 1) mn.symm) (fun i H' => Same H2 H' ∧ H' D2 = some (.lst (((List.range i).map fun i => decide (ns.getD i 0 < ns.getD (i + 1) 0)).map V.bl))) ⟨same_new hD2, upd_same⟩ (fun i H' _ z => ⟨SqL.of (z.1 _ _ (s12 _ _ ha)), SqL.of (z.1 _ _ f2)⟩) ?_ ?_
                · rintro i y H3 H4 hi ⟨s3, h3⟩ ⟨A2, x1, x2, rfl, nA, rfl, e1, e2⟩
                  have i1 : i < ns.length := by omega
                  have i2 : i + 1 < ns.length := by omega
                  have e1' : (ns.map V.int)[i]? = some x1 := e1
                  have e2' : ((ns.map V.int).drop 1)[i]? = some x2 := e2
                  rw [List.getElem?_map, List.getElem?_eq_getElem i1] at e1'
                  rw [List.getElem?_drop, Nat.add_comm 1 i, List.getElem?_map, List.getElem?_eq_getElem i2] at e2'
                  cases e1'
                  cases e2'
                  have g1 : ns.getD i 0 = ns[i] := by rw [List.getD_eq_getElem?_getD, List.getElem?_eq_getElem i1]; rfl
                  have g2 : ns.getD (i + 1) 0 = ns[i + 1] := by rw [List.getD_eq_getElem?_getD, List.getElem?_eq_getElem i2]; rfl
                  refine ⟨A2, _, rfl, SqT.of upd_same, rfl, _, _, rfl, _, _, rfl, rfl, rfl, yes_of ?_⟩
                  refine ⟨_, rfl, _, rfl, _, _, rfl, rfl, ((List.range i).map fun i => decide (ns.getD i 0 < ns.getD (i + 1) 0)).map V.bl, ?_, ?_, ?_⟩
                  · rw [upd_ne (ne_of_none h3 nA)]
                    exact h3
                  · rw [List.length_map, List.length_map, List.length_range]
                    exact small1000 (by omega)
                  · refine ⟨fun b o' e' => ?_, ?_⟩
                    · have n1 : b ≠ A2 := ne_of_none (s3 _ _ e') nA
                      have n2 : b ≠ D2 := ne_of_none e' hD2
                      rw [upd_ne n2, upd_ne n1]
                      exact s3 _ _ e'
                    · rw [upd_same, List.range_succ, List.map_append, List.map_append]
                      show some (HO.lst (_ ++ [V.bl (decide (ns[i] < ns[i + 1]))])) = some (HO.lst (_ ++ [V.bl (decide (ns.getD i 0 < ns.getD (i + 1) 0))]))
                      rw [g1, g2]
                · rintro H3 ⟨s3, h3⟩
                  refine ⟨D2, _, rfl, SqL.of h3, ?_⟩
                  have eb : ((List.range (ns.length - 1)).map fun i => decide (ns.getD i 0 < ns.getD (i + 1) 0)).all id = ascD (ns.map PyData.int) := by
                    rw [ascD_get, List.all_map]
                    rfl
                  rw [eb]
                  have := q _ (s12.trans s3)
                  rw [lo] at this
                  simpa using this
          · rw [decide_eq_false c2] at lo ⊢
            refine iteT ?_
            have := q _ (Same.refl _)
            rw [lo] at this
            exact this
        · rw [decide_eq_false c1] at lo ⊢
          refine iteF ⟨_, rfl, iteT ?_⟩
          have := q _ (Same.refl _)
          rw [lo] at this
          exact this
    · have z : isList d = false ∧ lotD n d = false := by
        cases d with
        | list ds => exact (e ⟨ds, rfl⟩).elim
        | _ => exact ⟨rfl, rfl⟩
      rw [z.1]
      refine iteT (iteT ?_)
      have q' := q _ (Same.refl _)
      rw [z.2] at q'
      exact q'

end
section
variable {P : Program} {w : World} {K : PySem.W.Frag} {mg : Str → Option Value} {base : Heap}
variable {er : Str → Addr}
noncomputable abbrev sCountA : Stmt := topS 15
noncomputable abbrev nCountA : List Str := ["value"]
theorem scCountA : FnScope nCountA ["value"] (defScope sCountA) := ⟨rfl, rfl, rfl, by decide +kernel, rfl, by decide +kernel, by decide +kernel⟩
theorem ok_countA {f : Addr} {fd : FuncData} (F : Fun K "is_count" "is_count" sCountA f fd) (T : Bi mg) (Uiswhole : Use P w K mg base "is_whole" ["value"] (spWhole K) 1) : FnOk P w K mg base CX0 2 f fd ["value"] (spCountA K) := by
  refine F.ok scCountA (fun vs H Q E h => ?_) (fun cdv A outer s H vs Q E hr h => ?_)
  · obtain ⟨x, d, rfl, _⟩ := h
    rfl
  · obtain ⟨x, d, rfl, dx, q⟩ := h
    refine ⟨_, (pss_one (ps_ret (pe_and (pe_use Uiswhole hr (by rfl) (pa_cons (pv 0) pa_nil)) (pe_one (pe_cmpR op_ge (pv 0) pe_int (nomark _)))))), ?_⟩
    refine ⟨_, rfl, x, d, rfl, dx, _, rfl, ?_⟩
    cases d with
    | int k =>
      cases dx
      refine iteT ⟨_, rfl, _, _, rfl, rfl, ?_⟩
      exact q
    | _ => exact iteF q
noncomputable abbrev sCnt : Stmt := topS 25
noncomputable abbrev nCnt : List Str := ["value"]
theorem scCnt : FnScope nCnt ["value"] (defScope sCnt) := ⟨rfl, rfl, rfl, by decide +kernel, rfl, by decide +kernel, by decide +kernel⟩
theorem ok_cnt {f : Addr} {fd : FuncData} (F : Fun K "check_count" "check_count" sCnt f fd) (T : Bi mg) (Uiscount : Use P w K mg base "is_count" ["value"] (spCountA K) 2) (XInvalidNumber : ErrU P w K mg base er "InvalidNumber") : FnOk P w K mg base (L2.CX P w) 3 f fd ["value"] (spCnt K er) := by
  obtain ⟨iInvalidNumber, tInvalidNumber, uInvalidNumber⟩ := XInvalidNumber
  refine F.okX scCnt (fun vs H Q E h => ?_) (fun cdv A outer s H vs Q E hr h => ?_)
  · obtain ⟨x, d, rfl, _⟩ := h
    rfl
  · obtain ⟨x, d, rfl, dx, good, bad⟩ := h
    refine ⟨_, (pss_one (ps_if (pt_not (pt_val (pe_use Uiscount hr (by rfl) (pa_cons (pv 0) pa_nil))))
        (pss_one (ps_raise rfl (takes_of rfl rfl rfl rfl) (pmk_err tInvalidNumber uInvalidNumber hr (by rfl) (pa_cons (pv 0) pa_nil)))) pss_nil)), ?_⟩
    refine ⟨_, rfl, x, d, rfl, dx, _, rfl, ?_⟩
    cases h : cntD d with
    | true => exact iteF (good h)
    | false => exact iteT ⟨_, rfl, err_by tInvalidNumber ((bad h).raise (Same.refl _))⟩
noncomputable abbrev sBel : Stmt := topS 26
noncomputable abbrev nBel : List Str := ["value", "bound"]
theorem scBel : FnScope nBel ["value", "bound"] (defScope sBel) := ⟨rfl, rfl, rfl, by decide +kernel, rfl, by decide +kernel, by decide +kernel⟩
theorem ok_bel {f : Addr} {fd : FuncData} (F : Fun K "check_below" "check_below" sBel f fd) (T : Bi mg) (Uisbelow : Use P w K mg base "is_below" ["value", "bound"] (spBelow K) 2) (XInvalidNumber : ErrU P w K mg base er "InvalidNumber") : FnOk P w K mg base (L2.CX P w) 3 f fd ["value", "bound"] (spBel K er) := by
  obtain ⟨iInvalidNumber, tInvalidNumber, uInvalidNumber⟩ := XInvalidNumber
  refine F.okX scBel (fun vs H Q E h => ?_) (fun cdv A outer s H vs Q E hr h => ?_)
  · obtain ⟨x, d, k, rfl, _⟩ := h
    rfl
  · obtain ⟨x, d, k, rfl, dx, good, bad⟩ := h
    refine ⟨_, (pss_one (ps_if (pt_not (pt_val (pe_use Uisbelow hr (by rfl) (pa_cons (pv 0) (pa_cons (pv 1) pa_nil)))))
        (pss_one (ps_raise rfl (takes_of rfl rfl rfl rfl) (pmk_err tInvalidNumber uInvalidNumber hr (by rfl) (pa_cons (pv 0) pa_nil)))) pss_nil)), ?_⟩
    refine ⟨_, rfl, _, rfl, x, d, k, rfl, dx, _, rfl, ?_⟩
    cases h : below k d with
    | true => exact iteF (good h)
    | false => exact iteT ⟨_, rfl, err_by tInvalidNumber ((bad h).raise (Same.refl _))⟩
end
end K56

namespace K56
open PySem PySem.Spec PyProof.Rows
open L2 hiding spCell rLen
open GL
section
variable {P : Program} {w : World} {K : PySem.W.Frag} {mg : Str → Option Value} {base : Heap}
variable {er : Str → Addr}
noncomputable abbrev sIsProg : Stmt := topS 69
noncomputable abbrev nIsProg : List Str := ["value", "turn"]
theorem scIsProg : FnScope nIsProg ["value"] (defScope sIsProg) := ⟨rfl, rfl, rfl, by decide +kernel, rfl, by decide +kernel, by decide +kernel⟩
theorem ok_isProg {f : Addr} {fd : FuncData} (F : Fun K "is_program" "is_program" sIsProg f fd) (T : Bi mg) (C : Cs mg) (Uiscouple : Use P w K mg base "is_couple" ["many", "value"] (spCoupleD K) 3) : FnOk P w K mg base CX0 4 f fd ["value"] (spIsProg K) := by
  refine F.ok scIsProg (fun vs H Q E h => ?_) (fun cdv A outer s H vs Q E hr h => ?_)
  · obtain ⟨x, d, rfl, _⟩ := h
    rfl
  · obtain ⟨x, d, rfl, dx, br, q⟩ := h
    refine ⟨_, (pss_one (ps_ret (pe_and (pe_callB call_isi (by rfl) T.isinstance (by decide +kernel) (pa_cons (pv 0) (pa_cons (pe_bltn (v := .ty "list") (by rfl) T.list (by decide +kernel) rfl) pa_nil))) (pe_one (pe_callB (cr_all rfl) (by rfl) T.all (by decide +kernel) (pa_cons (pe_lc (own := [("turn", 1)]) (g := (gName 1)) (tt := tYes) (te := (tCall (spCoupleD K) [] E0 (tCons (tC (.int 40)) (tCons (tVar 1) tNil)))) rfl scIsProg.nd (pi_list (pv 0))
            (blkOk_by (N := nIsProg) (sc := (defScope sIsProg)) (by decide +kernel)) (fun _ _ _ _ _ => (pg_name (i := 1) scIsProg.nd rfl (Or.inl rfl))) (fun _ _ _ _ _ => by exact pts_nil)
            (fun _ _ _ _ _ => by exact (pe_use Uiscouple hr (by rfl) (pa_cons (pe_glob (v := .int 40) rfl C.people.choose_spec ⟨_, rfl⟩) (pa_cons (pv 1) pa_nil))))) pa_nil)))))), ?_⟩
    refine ⟨_, rfl, _, _, _, _, _, rfl, .ty "list", dx.ty, kit_list d, _, rfl, ?_⟩
    by_cases e : ∃ ds, d = .list ds
    · obtain ⟨ds, rfl⟩ := e
      have l1000 := br ds rfl
      cases dx with
      | @lst a xs _ ha hs =>
        have hl := hs.length
        refine iteT ⟨_, rfl, a, rfl, ⟨_, SqL.of ha⟩, fun D hD => ?_⟩
        refine lc_list (K := K) (a := a) (xs := xs) (fun i H' => Same H H' ∧ H' D = some (.lst (((ds.take i).map (cplD 40)).map V.bl))) ⟨same_new hD, upd_same⟩ (fun i H' _ z => (z.1).seq (SqL.of ha)) ?_ ?_
        · rintro i y H' hi ⟨s1, hD'⟩
          obtain ⟨dy, e1, d1⟩ := hs.get hi
          refine ⟨rfl, yes_of ?_⟩
          refine ⟨_, rfl, 40, y, dy, rfl, Dt.same s1 dy _ d1, _, hD', ?_, fun b o z => by rw [upd_ne (ne_of_none z hD)]; exact s1 b o z, ?_⟩
          · rw [List.length_map, List.length_map, List.length_take]
            exact small1000 (by omega)
          · rw [upd_same, take_more (cplD 40) e1, List.map_append]
            rfl
        · rintro H' ⟨s1, hD'⟩
          rw [hl, List.take_length] at hD'
          refine ⟨D, ds.map (cplD 40), rfl, SqL.of hD', ?_⟩
          have ea : (ds.map (cplD 40)).all id = ds.all (cplD 40) := by
            rw [List.all_map]
            rfl
          rw [ea]
          exact q _ s1
    · have z : isList d = false ∧ progD d = false := by
        cases d with
        | list ds => exact (e ⟨ds, rfl⟩).elim
        | _ => exact ⟨rfl, rfl⟩
      rw [z.1]
      refine iteF ?_
      have q' := q _ (Same.refl _)
      rw [z.2] at q'
      exact q'
noncomputable abbrev sCkProg : Stmt := topS 52
noncomputable abbrev nCkProg : List Str := ["program"]
theorem scCkProg : FnScope nCkProg ["program"] (defScope sCkProg) := ⟨rfl, rfl, rfl, by decide +kernel, rfl, by decide +kernel, by decide +kernel⟩
theorem ok_ckProg {f : Addr} {fd : FuncData} (F : Fun K "check_program" "check_program" sCkProg f fd) (T : Bi mg) (Uisprogram : Use P w K mg base "is_program" ["value"] (spIsProg K) 4) (XInvalidProgram : ErrU P w K mg base er "InvalidProgram") : FnOk P w K mg base (L2.CX P w) 5 f fd ["program"] (spCkProg K er) := by
  obtain ⟨iInvalidProgram, tInvalidProgram, uInvalidProgram⟩ := XInvalidProgram
  refine F.okX scCkProg (fun vs H Q E h => ?_) (fun cdv A outer s H vs Q E hr h => ?_)
  · obtain ⟨x, d, rfl, _⟩ := h
    rfl
  · obtain ⟨x, d, rfl, dx, br, good, bad⟩ := h
    refine ⟨_, (pss_one (ps_if (pt_not (pt_val (pe_use Uisprogram hr (by rfl) (pa_cons (pv 0) pa_nil))))
        (pss_one (ps_raise rfl (takes_of rfl rfl rfl rfl) (pmk_err tInvalidProgram uInvalidProgram (hr.mono (by decide)) (by rfl) (pa_cons (pv 0) pa_nil)))) pss_nil)), ?_⟩
    refine ⟨_, rfl, x, d, rfl, dx, br, fun H1 s1 => ⟨_, rfl, ?_⟩⟩
    cases h : progD d with
    | true => exact iteF (good h H1 s1)
    | false => exact iteT ⟨_, rfl, err_by tInvalidProgram ((bad h).raise s1)⟩
noncomputable abbrev sCkLotS : Stmt := topS 54
noncomputable abbrev nCkLotS : List Str := ["kinds", "lot"]
theorem scCkLotS : FnScope nCkLotS ["kinds", "lot"] (defScope sCkLotS) := ⟨rfl, rfl, rfl, by decide +kernel, rfl, by decide +kernel, by decide +kernel⟩
theorem ok_ckLotS {f : Addr} {fd : FuncData} (F : Fun K "check_state_lot" "check_state_lot" sCkLotS f fd) (T : Bi mg) (C : Cs mg) (Uislot : Use P w K mg base "is_lot" ["many", "value"] (spLotA K) 3) (Ucheckkinds : UseX P w K mg base "check_kinds" ["kinds"] (spKnd K er) 3) (XInvalidLot : ErrU P w K mg base er "InvalidLot") : FnOk P w K mg base (L2.CX P w) 4 f fd ["kinds", "lot"] (spCkLotS K er) := by
  obtain ⟨iInvalidLot, tInvalidLot, uInvalidLot⟩ := XInvalidLot
  refine F.okX scCkLotS (fun vs H Q E h => ?_) (fun cdv A outer s H vs Q E hr h => ?_)
  · obtain ⟨x, y, dk, dl, rfl, _⟩ := h
    rfl
  · obtain ⟨x, y, dk, dl, rfl, dx, dy, bad, bad2, good⟩ := h
    refine ⟨_, (pss_cons (ps_expr (pe_useX Ucheckkinds hr (takes_of rfl rfl rfl rfl) (by rfl) (pa_cons (pv 0) pa_nil)))
      (pss_one (ps_if (pt_not (pt_val (pe_use Uislot hr (by rfl) (pa_cons (pe_glob (v := .int 40) rfl C.people.choose_spec ⟨_, rfl⟩) (pa_cons (pv 1) pa_nil)))))
        (pss_one (ps_raise rfl (takes_of rfl rfl rfl rfl) (pmk_err tInvalidLot uInvalidLot (hr.mono (by decide)) (by rfl) (pa_cons (pv 1) pa_nil)))) pss_nil))), ?_⟩
    refine ⟨_, rfl, x, dk, rfl, dx, fun h => ⟨_, rfl, 40, y, dl, rfl, by decide, dy, fun H1 s1 => ⟨_, rfl, ?_⟩⟩, bad⟩
    cases e : lotD 40 dl with
    | true => exact iteF (good h e H1 s1)
    | false => exact iteT ⟨_, rfl, err_by tInvalidLot ((bad2 h e).raise s1)⟩
noncomputable abbrev sCkProgs : Stmt := topS 68
noncomputable abbrev nCkProgs : List Str := ["kinds", "one", "other"]
theorem scCkProgs : FnScope nCkProgs ["kinds", "one", "other"] (defScope sCkProgs) := ⟨rfl, rfl, rfl, by decide +kernel, rfl, by decide +kernel, by decide +kernel⟩
theorem ok_ckProgs {f : Addr} {fd : FuncData} (F : Fun K "check_programs" "check_programs" sCkProgs f fd) (T : Bi mg) (Ucheckkinds : UseX P w K mg base "check_kinds" ["kinds"] (spKnd K er) 3) (Ucheckprogram : UseX P w K mg base "check_program" ["program"] (spCkProg K er) 5) : FnOk P w K mg base (L2.CX P w) 6 f fd ["kinds", "one", "other"] (spCkProgs K er) := by
  refine F.okX scCkProgs (fun vs H Q E h => ?_) (fun cdv A outer s H vs Q E hr h => ?_)
  · obtain ⟨x, y, z, dk, d1, d2, rfl, _⟩ := h
    rfl
  · obtain ⟨x, y, z, dk, d1, d2, rfl, dx, dy, dz, b1, b2, bad, bad2, bad3, good⟩ := h
    refine ⟨_, (pss_cons (ps_expr (pe_useX Ucheckkinds (hr.mono (by decide)) (takes_of rfl rfl rfl rfl) (by rfl) (pa_cons (pv 0) pa_nil)))
      (pss_cons (ps_expr (pe_useX Ucheckprogram hr (takes_of rfl rfl rfl rfl) (by rfl) (pa_cons (pv 1) pa_nil)))
      (pss_one (ps_expr (pe_useX Ucheckprogram hr (takes_of rfl rfl rfl rfl) (by rfl) (pa_cons (pv 2) pa_nil)))))), ?_⟩
    refine ⟨_, rfl, x, dk, rfl, dx, fun h => ⟨_, rfl, y, d1, rfl, dy, b1, fun h1 H1 s1 => ⟨_, rfl, z, d2, rfl, dz.same s1, b2, fun h2 H2 s2 => good h h1 h2 H2 (s1.trans s2), fun h2 => (bad3 h h1 h2).later s1⟩, bad2 h⟩, bad⟩
noncomputable abbrev sCkRun : Stmt := topS 53
noncomputable abbrev nCkRun : List Str := ["kinds", "company", "program", "_", "high"]
theorem scCkRun : FnScope nCkRun ["kinds", "company", "program"] (defScope sCkRun) := ⟨rfl, rfl, rfl, by decide +kernel, rfl, by decide +kernel, by decide +kernel⟩
theorem ok_ckRun {f : Addr} {fd : FuncData} (F : Fun K "check_run" "check_run" sCkRun f fd) (T : Bi mg) (Ucheckcompany : UseX P w K mg base "check_company" ["kinds", "company"] (spCom K er) 5) (Uisprogram : Use P w K mg base "is_program" ["value"] (spIsProg K) 4) (XInvalidProgram : ErrU P w K mg base er "InvalidProgram") : FnOk P w K mg base (L2.CX P w) 6 f fd ["kinds", "company", "program"] (spCkRun K er) := by
  obtain ⟨iInvalidProgram, tInvalidProgram, uInvalidProgram⟩ := XInvalidProgram
  refine F.okX scCkRun (fun vs H Q E h => ?_) (fun cdv A outer s H vs Q E hr h => ?_)
  · obtain ⟨x, y, z, dk, dc, d, rfl, _⟩ := h
    rfl
  · obtain ⟨x, y, z, dk, dc, d, rfl, dx, dy, dz, br, bad, bad2, bad3, good⟩ := h
    refine ⟨_, (pss_cons (ps_expr (pe_useX Ucheckcompany hr (takes_of rfl rfl rfl rfl) (by rfl) (pa_cons (pv 0) (pa_cons (pv 1) pa_nil))))
      (pss_one (ps_if (PW.pt (pw_or (pt_not (pt_val (pe_use Uisprogram (hr.mono (by decide)) (by rfl) (pa_cons (pv 2) pa_nil)))) (pw_or1 (pt_val (pe_callB (cr_any rfl) (by rfl) T.any (by decide +kernel) (pa_cons (pe_lc (own := [("_", 3), ("high", 4)]) (g := (gTup K 2 (gCons (gName 3) (gCons (gName 4) gNil)))) (tt := tYes) (te := (tOp (rI0 fun i j => .bl (decide (j ≤ i))) (tVar 4) (tCB (rLen K) (tCons (tVar 1) tNil)))) rfl scCkRun.nd (pi_list (pv 2))
            (blkOk_by (N := nCkRun) (sc := (defScope sCkRun)) (by decide +kernel)) (fun _ _ _ _ _ => (pg_tup rfl (pgs_cons (pg_name (i := 3) scCkRun.nd rfl (Or.inl rfl)) (pgs_cons (pg_name (i := 4) scCkRun.nd rfl (Or.inl rfl)) pgs_nil)))) (fun _ _ _ _ _ => by exact pts_nil)
            (fun _ _ _ _ _ => by exact (pe_cmpR op_ge (pv 4) (pe_callB call_len_seq (by rfl) T.len PySem.boot_len (pa_cons (pv 1) pa_nil)) (nomark _)))) pa_nil))))))
        (pss_one (ps_raise rfl (takes_of rfl rfl rfl rfl) (pmk_err tInvalidProgram uInvalidProgram (hr.mono (by decide)) (by rfl) (pa_cons (pv 2) pa_nil)))) pss_nil))), ?_⟩
    refine ⟨_, rfl, _, rfl, x, y, dk, dc, rfl, dx, dy, bad, fun k ek hk => ⟨fun hc => bad2 hk (by rw [ek]; exact hc), fun hc H1 s1 => ?_⟩⟩
    have kc : compK dk dc = true := by
      rw [ek]
      exact hc
    obtain ⟨c, rs, ey, hrs, lrs⟩ := comp_len dy hc
    subst ey
    refine ⟨_, rfl, z, d, rfl, dz.same s1, br, fun H2 s2 => ⟨_, rfl, ?_⟩⟩
    have s02 := s1.trans s2
    cases hp : progD d with
    | false => exact iteT (iteT ⟨_, rfl, err_by tInvalidProgram ((bad3 hk kc (by unfold runD; rw [hp]; rfl)).raise s02)⟩)
    | true =>
      refine iteF ?_
      obtain ⟨ds, rfl⟩ : ∃ ds, d = .list ds := by
        cases d with
        | list ds => exact ⟨ds, rfl⟩
        | _ => cases hp
      have l1000 := br ds rfl
      cases dz with
      | @lst a xs _ ha hs =>
        have hl := hs.length
        have h2 := s02 _ _ ha
        refine ⟨_, rfl, a, rfl, ⟨_, SqL.of h2⟩, fun D hD => ?_⟩
        refine lc_list (K := K) (a := a) (xs := xs) (fun i H' => Same H2 H' ∧ H' D = some (.lst (((ds.take i).map fun t => decide ((lenD dc : Int) ≤ highD t)).map V.bl))) ⟨same_new hD, upd_same⟩ (fun i H' _ z => (z.1).seq (SqL.of h2)) ?_ ?_
        · rintro i y H' hi ⟨s3, hD'⟩
          obtain ⟨dy', e1, d1⟩ := hs.get hi
          have hc1 := List.all_eq_true.mp (show ds.all (cplD 40) = true from hp) dy' (List.mem_of_getElem? e1)
          obtain ⟨u, v, rfl⟩ := cpl_ints hc1
          replace d1 := Dt.same (s02.trans s3) _ _ d1
          cases d1 with
          | @tup q ys _ hq hy =>
            have ey : ys = [.int u, .int v] := vals_of (ns := [u, v]) hy
            subst ey
            ·
              refine ⟨q, _, rfl, SqT.of hq, rfl, _, _, rfl, _, _, rfl, rfl, rfl, yes_of ?_⟩
              refine ⟨_, rfl, _, rfl, c, _, rfl, .inl (SqL.of ((s02.trans s3) _ _ hrs)), _, _, rfl, rfl, _, hD', ?_, fun b o z => by rw [upd_ne (ne_of_none z hD)]; exact s3 b o z, ?_⟩
              · rw [List.length_map, List.length_map, List.length_take]
                exact small1000 (by omega)
              · rw [upd_same, take_more (fun t => decide ((lenD dc : Int) ≤ highD t)) e1, List.map_append, lrs]
                rfl
        · rintro H' ⟨s3, hD'⟩
          rw [hl, List.take_length] at hD'
          refine ⟨D, ds.map fun t => decide ((lenD dc : Int) ≤ highD t), rfl, SqL.of hD', ?_⟩
          have ea : (ds.map fun t => decide ((lenD dc : Int) ≤ highD t)).any id = ds.any fun t => decide ((lenD dc : Int) ≤ highD t) := by
            rw [List.any_map]
            rfl
          rw [ea]
          have er : runD (lenD dc) (.list ds) = !ds.any fun t => decide ((lenD dc : Int) ≤ highD t) := by
            unfold runD
            rw [hp]
            rfl
          cases hb : ds.any fun t => decide ((lenD dc : Int) ≤ highD t) with
          | false => exact ⟨_, rfl, iteF (good hk kc (by rw [er, hb]; rfl) H' (s02.trans s3))⟩
          | true => exact ⟨_, rfl, iteT ⟨_, rfl, err_by tInvalidProgram ((bad3 hk kc (by rw [er, hb]; rfl)).raise (s02.trans s3))⟩⟩
end
end K56

namespace K56
open PySem PySem.Spec PyProof.Rows
open L2 hiding spCell rLen
open GL
section
variable {P : Program} {w : World} {K : PySem.W.Frag} {mg : Str → Option Value} {base : Heap}
variable {er : Str → Addr}
noncomputable abbrev sD0 : Stmt := topS 70
noncomputable abbrev nD0 : List Str := ["kinds", "company", "program", "ties", "low", "high", "kind"]
theorem scD0 : FnScope nD0 ["kinds", "company", "program"] (defScope sD0) := ⟨rfl, rfl, rfl, by decide +kernel, rfl, by decide +kernel, by decide +kernel⟩
theorem ok_d0 {f : Addr} {fd : FuncData} (F : Fun K "run" "run" sD0 f fd) (T : Bi mg) (Ucheckrun : UseX P w K mg base "check_run" ["kinds", "company", "program"] (spCkRun K er) 6) : FnOk P w K mg base (L2.CX P w) 7 f fd ["kinds", "company", "program"] (spD0 K er) := by
  refine F.okX scD0 (fun vs H Q E h => ?_) (fun cdv A outer s H vs Q E hr h => ?_)
  · obtain ⟨ds, l, _⟩ := h
    exact l
  · obtain ⟨ds, l, dd, br, r⟩ := h
    obtain ⟨x, y, z, dk, d1, d2, rfl, rfl, dx, dy, dz⟩ := args3 l dd
    refine ⟨_, (pss_cons (ps_expr (pe_useX Ucheckrun hr (takes_of rfl rfl rfl rfl) (by rfl) (pa_cons (pv 0) (pa_cons (pv 1) (pa_cons (pv 2) pa_nil)))))
      pss_never), ?_⟩
    have r0 : RefBy er (firstBad [(kindsD dk, ("InvalidNumber" : Str), x), (compK dk d1, ("InvalidCompany" : Str), y), (runD (lenD d1) d2, ("InvalidProgram" : Str), z)]) H E := r
    exact ⟨_, rfl, _, rfl, _, rfl, x, y, z, dk, d1, d2, rfl, dx, dy, dz, br _ (by simp), fun h => r0.bad h, fun h h1 => (r0.good h).bad h1, fun h h1 h2 => ((r0.good h).good h1).bad h2, fun h h1 h2 H1 s1 => (((r0.good h).good h1).good h2).none.elim⟩
noncomputable abbrev sD1 : Stmt := topS 82
noncomputable abbrev nD1 : List Str := ["kinds", "company", "program", "lot", "_", "state"]
theorem scD1 : FnScope nD1 ["kinds", "company", "program"] (defScope sD1) := ⟨rfl, rfl, rfl, by decide +kernel, rfl, by decide +kernel, by decide +kernel⟩
theorem ok_d1 {f : Addr} {fd : FuncData} (F : Fun K "blocks_of" "blocks_of" sD1 f fd) (T : Bi mg) (Ucheckrun : UseX P w K mg base "check_run" ["kinds", "company", "program"] (spCkRun K er) 6) : FnOk P w K mg base (L2.CX P w) 7 f fd ["kinds", "company", "program"] (spD1 K er) := by
  refine F.okX scD1 (fun vs H Q E h => ?_) (fun cdv A outer s H vs Q E hr h => ?_)
  · obtain ⟨ds, l, _⟩ := h
    exact l
  · obtain ⟨ds, l, dd, br, r⟩ := h
    obtain ⟨x, y, z, dk, d1, d2, rfl, rfl, dx, dy, dz⟩ := args3 l dd
    refine ⟨_, (pss_cons (ps_expr (pe_useX Ucheckrun hr (takes_of rfl rfl rfl rfl) (by rfl) (pa_cons (pv 0) (pa_cons (pv 1) (pa_cons (pv 2) pa_nil)))))
      pss_never), ?_⟩
    have r0 : RefBy er (firstBad [(kindsD dk, ("InvalidNumber" : Str), x), (compK dk d1, ("InvalidCompany" : Str), y), (runD (lenD d1) d2, ("InvalidProgram" : Str), z)]) H E := r
    exact ⟨_, rfl, _, rfl, _, rfl, x, y, z, dk, d1, d2, rfl, dx, dy, dz, br _ (by simp), fun h => r0.bad h, fun h h1 => (r0.good h).bad h1, fun h h1 h2 => ((r0.good h).good h1).bad h2, fun h h1 h2 H1 s1 => (((r0.good h).good h1).good h2).none.elim⟩
noncomputable abbrev sD3 : Stmt := topS 84
noncomputable abbrev nD3 : List Str := ["kinds", "company", "program", "times", "turns", "behind", "row", "lot", "ground", "state", "low", "high", "shift"]
theorem scD3 : FnScope nD3 ["kinds", "company", "program", "times"] (defScope sD3) := ⟨rfl, rfl, rfl, by decide +kernel, rfl, by decide +kernel, by decide +kernel⟩
theorem ok_d3 {f : Addr} {fd : FuncData} (F : Fun K "run_often" "run_often" sD3 f fd) (T : Bi mg) (Ucheckcount : UseX P w K mg base "check_count" ["value"] (spCnt K er) 3) (Ucheckrun : UseX P w K mg base "check_run" ["kinds", "company", "program"] (spCkRun K er) 6) : FnOk P w K mg base (L2.CX P w) 7 f fd ["kinds", "company", "program", "times"] (spD3 K er) := by
  refine F.okX scD3 (fun vs H Q E h => ?_) (fun cdv A outer s H vs Q E hr h => ?_)
  · obtain ⟨ds, l, _⟩ := h
    exact l
  · obtain ⟨ds, l, dd, br, r⟩ := h
    obtain ⟨x, y, z, u, dk, d1, d2, d3, rfl, rfl, dx, dy, dz, du⟩ := args4 l dd
    refine ⟨_, (pss_cons (ps_expr (pe_useX Ucheckrun hr (takes_of rfl rfl rfl rfl) (by rfl) (pa_cons (pv 0) (pa_cons (pv 1) (pa_cons (pv 2) pa_nil)))))
      (pss_cons (ps_expr (pe_useX Ucheckcount (hr.mono (by decide)) (takes_of rfl rfl rfl rfl) (by rfl) (pa_cons (pv 3) pa_nil)))
      pss_never)), ?_⟩
    have r0 : RefBy er (firstBad [(kindsD dk, ("InvalidNumber" : Str), x), (compK dk d1, ("InvalidCompany" : Str), y), (runD (lenD d1) d2, ("InvalidProgram" : Str), z), (cntD d3, ("InvalidNumber" : Str), u)]) H E := r
    exact ⟨_, rfl, _, rfl, _, rfl, x, y, z, dk, d1, d2, rfl, dx, dy, dz, br _ (by simp), fun h => r0.bad h, fun h h1 => (r0.good h).bad h1, fun h h1 h2 => ((r0.good h).good h1).bad h2, fun h h1 h2 H1 s1 =>
      have r3 := ((r0.good h).good h1).good h2
      ⟨_, rfl, u, d3, rfl, du.same s1, fun h3 => (r3.good h3).none.elim, fun h3 => (r3.bad h3).later s1⟩⟩
noncomputable abbrev sD4 : Stmt := topS 74
noncomputable abbrev nD4 : List Str := ["kinds", "one", "other"]
theorem scD4 : FnScope nD4 ["kinds", "one", "other"] (defScope sD4) := ⟨rfl, rfl, rfl, by decide +kernel, rfl, by decide +kernel, by decide +kernel⟩
theorem ok_d4 {f : Addr} {fd : FuncData} (F : Fun K "programs_alike" "programs_alike" sD4 f fd) (T : Bi mg) (Ucheckprograms : UseX P w K mg base "check_programs" ["kinds", "one", "other"] (spCkProgs K er) 6) : FnOk P w K mg base (L2.CX P w) 7 f fd ["kinds", "one", "other"] (spD4 K er) := by
  refine F.okX scD4 (fun vs H Q E h => ?_) (fun cdv A outer s H vs Q E hr h => ?_)
  · obtain ⟨ds, l, _⟩ := h
    exact l
  · obtain ⟨ds, l, dd, br, r⟩ := h
    obtain ⟨x, y, z, dk, d1, d2, rfl, rfl, dx, dy, dz⟩ := args3 l dd
    refine ⟨_, (pss_cons (ps_expr (pe_useX Ucheckprograms hr (takes_of rfl rfl rfl rfl) (by rfl) (pa_cons (pv 0) (pa_cons (pv 1) (pa_cons (pv 2) pa_nil)))))
      pss_never), ?_⟩
    have r0 : RefBy er (firstBad [(kindsD dk, ("InvalidNumber" : Str), x), (progD d1, ("InvalidProgram" : Str), y), (progD d2, ("InvalidProgram" : Str), z)]) H E := r
    exact ⟨_, rfl, _, rfl, _, rfl, x, y, z, dk, d1, d2, rfl, dx, dy, dz, br _ (by simp), br _ (by simp), fun h => r0.bad h, fun h h1 => (r0.good h).bad h1, fun h h1 h2 => ((r0.good h).good h1).bad h2, fun h h1 h2 H1 s1 => (((r0.good h).good h1).good h2).none.elim⟩
noncomputable abbrev sD5 : Stmt := topS 75
noncomputable abbrev nD5 : List Str := ["kinds", "one", "other"]
theorem scD5 : FnScope nD5 ["kinds", "one", "other"] (defScope sD5) := ⟨rfl, rfl, rfl, by decide +kernel, rfl, by decide +kernel, by decide +kernel⟩
theorem ok_d5 {f : Addr} {fd : FuncData} (F : Fun K "parting_state" "parting_state" sD5 f fd) (T : Bi mg) (Ucheckprograms : UseX P w K mg base "check_programs" ["kinds", "one", "other"] (spCkProgs K er) 6) : FnOk P w K mg base (L2.CX P w) 7 f fd ["kinds", "one", "other"] (spD5 K er) := by
  refine F.okX scD5 (fun vs H Q E h => ?_) (fun cdv A outer s H vs Q E hr h => ?_)
  · obtain ⟨ds, l, _⟩ := h
    exact l
  · obtain ⟨ds, l, dd, br, r⟩ := h
    obtain ⟨x, y, z, dk, d1, d2, rfl, rfl, dx, dy, dz⟩ := args3 l dd
    refine ⟨_, (pss_cons (ps_expr (pe_useX Ucheckprograms hr (takes_of rfl rfl rfl rfl) (by rfl) (pa_cons (pv 0) (pa_cons (pv 1) (pa_cons (pv 2) pa_nil)))))
      pss_never), ?_⟩
    have r0 : RefBy er (firstBad [(kindsD dk, ("InvalidNumber" : Str), x), (progD d1, ("InvalidProgram" : Str), y), (progD d2, ("InvalidProgram" : Str), z)]) H E := r
    exact ⟨_, rfl, _, rfl, _, rfl, x, y, z, dk, d1, d2, rfl, dx, dy, dz, br _ (by simp), br _ (by simp), fun h => r0.bad h, fun h h1 => (r0.good h).bad h1, fun h h1 h2 => ((r0.good h).good h1).bad h2, fun h h1 h2 H1 s1 => (((r0.good h).good h1).good h2).none.elim⟩
noncomputable abbrev sD6 : Stmt := topS 76
noncomputable abbrev nD6 : List Str := ["kinds", "one", "other", "parting", "lot", "state", "last", "company", "person", "low", "high", "shift"]
theorem scD6 : FnScope nD6 ["kinds", "one", "other"] (defScope sD6) := ⟨rfl, rfl, rfl, by decide +kernel, rfl, by decide +kernel, by decide +kernel⟩
theorem ok_d6 {f : Addr} {fd : FuncData} (F : Fun K "parting_company" "parting_company" sD6 f fd) (T : Bi mg) (Ucheckprograms : UseX P w K mg base "check_programs" ["kinds", "one", "other"] (spCkProgs K er) 6) : FnOk P w K mg base (L2.CX P w) 7 f fd ["kinds", "one", "other"] (spD6 K er) := by
  refine F.okX scD6 (fun vs H Q E h => ?_) (fun cdv A outer s H vs Q E hr h => ?_)
  · obtain ⟨ds, l, _⟩ := h
    exact l
  · obtain ⟨ds, l, dd, br, r⟩ := h
    obtain ⟨x, y, z, dk, d1, d2, rfl, rfl, dx, dy, dz⟩ := args3 l dd
    refine ⟨_, (pss_cons (ps_expr (pe_useX Ucheckprograms hr (takes_of rfl rfl rfl rfl) (by rfl) (pa_cons (pv 0) (pa_cons (pv 1) (pa_cons (pv 2) pa_nil)))))
      pss_never), ?_⟩
    have r0 : RefBy er (firstBad [(kindsD dk, ("InvalidNumber" : Str), x), (progD d1, ("InvalidProgram" : Str), y), (progD d2, ("InvalidProgram" : Str), z)]) H E := r
    exact ⟨_, rfl, _, rfl, _, rfl, x, y, z, dk, d1, d2, rfl, dx, dy, dz, br _ (by simp), br _ (by simp), fun h => r0.bad h, fun h h1 => (r0.good h).bad h1, fun h h1 h2 => ((r0.good h).good h1).bad h2, fun h h1 h2 H1 s1 => (((r0.good h).good h1).good h2).none.elim⟩
noncomputable abbrev sD7 : Stmt := topS 71
noncomputable abbrev nD7 : List Str := ["kinds", "lot"]
theorem scD7 : FnScope nD7 ["kinds", "lot"] (defScope sD7) := ⟨rfl, rfl, rfl, by decide +kernel, rfl, by decide +kernel, by decide +kernel⟩
theorem ok_d7 {f : Addr} {fd : FuncData} (F : Fun K "states_of" "states_of" sD7 f fd) (T : Bi mg) (Ucheckstatelot : UseX P w K mg base "check_state_lot" ["kinds", "lot"] (spCkLotS K er) 4) : FnOk P w K mg base (L2.CX P w) 7 f fd ["kinds", "lot"] (spD7 K er) := by
  refine F.okX scD7 (fun vs H Q E h => ?_) (fun cdv A outer s H vs Q E hr h => ?_)
  · obtain ⟨ds, l, _⟩ := h
    exact l
  · obtain ⟨ds, l, dd, br, r⟩ := h
    obtain ⟨x, y, dk, d1, rfl, rfl, dx, dy⟩ := args2 l dd
    refine ⟨_, (pss_cons (ps_expr (pe_useX Ucheckstatelot (hr.mono (by decide)) (takes_of rfl rfl rfl rfl) (by rfl) (pa_cons (pv 0) (pa_cons (pv 1) pa_nil))))
      pss_never), ?_⟩
    have r0 : RefBy er (firstBad [(kindsD dk, ("InvalidNumber" : Str), x), (lotD 40 d1, ("InvalidLot" : Str), y)]) H E := r
    exact ⟨_, rfl, _, rfl, x, y, dk, d1, rfl, dx, dy, fun h => r0.bad h, fun h h1 => (r0.good h).bad h1, fun h h1 H1 s1 => ((r0.good h).good h1).none.elim⟩
noncomputable abbrev sD8 : Stmt := topS 98
noncomputable abbrev nD8 : List Str := ["kinds", "lot", "program"]
theorem scD8 : FnScope nD8 ["kinds", "lot", "program"] (defScope sD8) := ⟨rfl, rfl, rfl, by decide +kernel, rfl, by decide +kernel, by decide +kernel⟩
theorem ok_d8 {f : Addr} {fd : FuncData} (F : Fun K "shuffle_of" "shuffle_of" sD8 f fd) (T : Bi mg) (Ucheckprogram : UseX P w K mg base "check_program" ["program"] (spCkProg K er) 5) (Ucheckstatelot : UseX P w K mg base "check_state_lot" ["kinds", "lot"] (spCkLotS K er) 4) : FnOk P w K mg base (L2.CX P w) 7 f fd ["kinds", "lot", "program"] (spD8 K er) := by
  refine F.okX scD8 (fun vs H Q E h => ?_) (fun cdv A outer s H vs Q E hr h => ?_)
  · obtain ⟨ds, l, _⟩ := h
    exact l
  · obtain ⟨ds, l, dd, br, r⟩ := h
    obtain ⟨x, y, z, dk, d1, d2, rfl, rfl, dx, dy, dz⟩ := args3 l dd
    refine ⟨_, (pss_cons (ps_expr (pe_useX Ucheckstatelot (hr.mono (by decide)) (takes_of rfl rfl rfl rfl) (by rfl) (pa_cons (pv 0) (pa_cons (pv 1) pa_nil))))
      (pss_cons (ps_expr (pe_useX Ucheckprogram (hr.mono (by decide)) (takes_of rfl rfl rfl rfl) (by rfl) (pa_cons (pv 2) pa_nil)))
      pss_never)), ?_⟩
    have r0 : RefBy er (firstBad [(kindsD dk, ("InvalidNumber" : Str), x), (lotD 40 d1, ("InvalidLot" : Str), y), (progD d2, ("InvalidProgram" : Str), z)]) H E := r
    exact ⟨_, rfl, _, rfl, x, y, dk, d1, rfl, dx, dy, fun h => r0.bad h, fun h h1 => (r0.good h).bad h1, fun h h1 H1 s1 =>
      have r2 := (r0.good h).good h1
      ⟨_, rfl, z, d2, rfl, dz.same s1, br _ (by simp), fun h2 => (r2.good h2).none.elim, fun h2 => (r2.bad h2).later s1⟩⟩
noncomputable abbrev sD9 : Stmt := topS 77
noncomputable abbrev nD9 : List Str := ["kinds", "program", "turn", "_"]
theorem scD9 : FnScope nD9 ["kinds", "program"] (defScope sD9) := ⟨rfl, rfl, rfl, by decide +kernel, rfl, by decide +kernel, by decide +kernel⟩
theorem ok_d9 {f : Addr} {fd : FuncData} (F : Fun K "undone_program" "undone_program" sD9 f fd) (T : Bi mg) (Ucheckkinds : UseX P w K mg base "check_kinds" ["kinds"] (spKnd K er) 3) (Ucheckprogram : UseX P w K mg base "check_program" ["program"] (spCkProg K er) 5) : FnOk P w K mg base (L2.CX P w) 7 f fd ["kinds", "program"] (spD9 K er) := by
  refine F.okX scD9 (fun vs H Q E h => ?_) (fun cdv A outer s H vs Q E hr h => ?_)
  · obtain ⟨ds, l, _⟩ := h
    exact l
  · obtain ⟨ds, l, dd, br, r⟩ := h
    obtain ⟨x, y, dk, d1, rfl, rfl, dx, dy⟩ := args2 l dd
    refine ⟨_, (pss_cons (ps_expr (pe_useX Ucheckkinds (hr.mono (by decide)) (takes_of rfl rfl rfl rfl) (by rfl) (pa_cons (pv 0) pa_nil)))
      (pss_cons (ps_expr (pe_useX Ucheckprogram (hr.mono (by decide)) (takes_of rfl rfl rfl rfl) (by rfl) (pa_cons (pv 1) pa_nil)))
      pss_never)), ?_⟩
    have r0 : RefBy er (firstBad [(kindsD dk, ("InvalidNumber" : Str), x), (progD d1, ("InvalidProgram" : Str), y)]) H E := r
    exact ⟨_, rfl, x, dk, rfl, dx, fun h => ⟨_, rfl, y, d1, rfl, dy, br _ (by simp), fun h1 => ((r0.good h).good h1).none.elim, fun h1 => (r0.good h).bad h1⟩, fun h => r0.bad h⟩
noncomputable abbrev sD10 : Stmt := topS 83
noncomputable abbrev nD10 : List Str := ["kinds", "program", "people", "turns", "rounds", "lot", "cycle"]
theorem scD10 : FnScope nD10 ["kinds", "program"] (defScope sD10) := ⟨rfl, rfl, rfl, by decide +kernel, rfl, by decide +kernel, by decide +kernel⟩
theorem ok_d10 {f : Addr} {fd : FuncData} (F : Fun K "rounds_of" "rounds_of" sD10 f fd) (T : Bi mg) (Ucheckkinds : UseX P w K mg base "check_kinds" ["kinds"] (spKnd K er) 3) (Ucheckprogram : UseX P w K mg base "check_program" ["program"] (spCkProg K er) 5) : FnOk P w K mg base (L2.CX P w) 7 f fd ["kinds", "program"] (spD10 K er) := by
  refine F.okX scD10 (fun vs H Q E h => ?_) (fun cdv A outer s H vs Q E hr h => ?_)
  · obtain ⟨ds, l, _⟩ := h
    exact l
  · obtain ⟨ds, l, dd, br, r⟩ := h
    obtain ⟨x, y, dk, d1, rfl, rfl, dx, dy⟩ := args2 l dd
    refine ⟨_, (pss_cons (ps_expr (pe_useX Ucheckkinds (hr.mono (by decide)) (takes_of rfl rfl rfl rfl) (by rfl) (pa_cons (pv 0) pa_nil)))
      (pss_cons (ps_expr (pe_useX Ucheckprogram (hr.mono (by decide)) (takes_of rfl rfl rfl rfl) (by rfl) (pa_cons (pv 1) pa_nil)))
      pss_never)), ?_⟩
    have r0 : RefBy er (firstBad [(kindsD dk, ("InvalidNumber" : Str), x), (progD d1, ("InvalidProgram" : Str), y)]) H E := r
    exact ⟨_, rfl, x, dk, rfl, dx, fun h => ⟨_, rfl, y, d1, rfl, dy, br _ (by simp), fun h1 => ((r0.good h).good h1).none.elim, fun h1 => (r0.good h).bad h1⟩, fun h => r0.bad h⟩
noncomputable abbrev sD2 : Stmt := topS 73
noncomputable abbrev nD2 : List Str := ["kinds", "lot", "state", "program", "turns"]
theorem scD2 : FnScope nD2 ["kinds", "lot", "state", "program"] (defScope sD2) := ⟨rfl, rfl, rfl, by decide +kernel, rfl, by decide +kernel, by decide +kernel⟩
theorem ok_d2 {f : Addr} {fd : FuncData} (F : Fun K "state_after" "state_after" sD2 f fd) (T : Bi mg) (Ucheckprogram : UseX P w K mg base "check_program" ["program"] (spCkProg K er) 5) (Ucheckstatelot : UseX P w K mg base "check_state_lot" ["kinds", "lot"] (spCkLotS K er) 4) (Uisstate : Use P w K mg base "is_state" ["kinds", "lot", "value"] (spIsState K) 5) (XInvalidWishes : ErrU P w K mg base er "InvalidWishes") : FnOk P w K mg base (L2.CX P w) 7 f fd ["kinds", "lot", "state", "program"] (spD2 K er) := by
  obtain ⟨iInvalidWishes, tInvalidWishes, uInvalidWishes⟩ := XInvalidWishes
  refine F.okX scD2 (fun vs H Q E h => ?_) (fun cdv A outer s H vs Q E hr h => ?_)
  · obtain ⟨ds, l, _⟩ := h
    exact l
  · obtain ⟨ds, l, dd, br, r⟩ := h
    obtain ⟨x, y, z, u, dk, d1, d2, d3, rfl, rfl, dx, dy, dz, du⟩ := args4 l dd
    refine ⟨_, (pss_cons (ps_expr (pe_useX Ucheckstatelot (hr.mono (by decide)) (takes_of rfl rfl rfl rfl) (by rfl) (pa_cons (pv 0) (pa_cons (pv 1) pa_nil))))
      (pss_cons (ps_if (pt_not (pt_val (pe_use Uisstate (hr.mono (by decide)) (by rfl) (pa_cons (pv 0) (pa_cons (pv 1) (pa_cons (pv 2) pa_nil))))))
        (pss_one (ps_raise rfl (takes_of rfl rfl rfl rfl) (pmk_err tInvalidWishes uInvalidWishes (hr.mono (by decide)) (by rfl) (pa_cons (pv 2) pa_nil)))) pss_nil)
      (pss_cons (ps_expr (pe_useX Ucheckprogram (hr.mono (by decide)) (takes_of rfl rfl rfl rfl) (by rfl) (pa_cons (pv 3) pa_nil)))
      pss_never))), ?_⟩
    have r0 : RefBy er (firstBad [(kindsD dk, ("InvalidNumber" : Str), x), (lotD 40 d1, ("InvalidLot" : Str), y), (stateK dk d1 d2, ("InvalidWishes" : Str), z), (progD d3, ("InvalidProgram" : Str), u)]) H E := r
    refine ⟨_, rfl, _, rfl, x, y, dk, d1, rfl, dx, dy, fun h => r0.bad h, fun h h1 => (r0.good h).bad h1, fun h h1 H1 s1 => ?_⟩
    have r2 := (r0.good h).good h1
    obtain ⟨k, ek, k2, k9⟩ := kinds_of h
    subst ek
    cases dx
    refine ⟨_, rfl, _, rfl, _, rfl, k, y, z, d1, d2, rfl, dy.same s1, h1, dz.same s1, br _ (by simp), fun H2 s2 => ⟨_, rfl, ?_⟩⟩
    have s02 := s1.trans s2
    cases h2 : stateD k (lotOf d1) d2 with
    | false => exact iteT ⟨_, rfl, err_by tInvalidWishes ((r2.bad h2).raise s02)⟩
    | true => exact iteF ⟨_, rfl, u, d3, rfl, du.same s02, br _ (by simp), fun h3 => ((r2.good h2).good h3).none.elim, fun h3 => ((r2.good h2).bad h3).later s02⟩
end
end K56

namespace K56
open PySem PySem.Spec PyProof.Rows
open L2 hiding spCell rLen
open GL
section
variable {P : Program} {w : World} {K : PySem.W.Frag} {mg : Str → Option Value} {base : Heap}
variable {er : Str → Addr}
noncomputable abbrev sWays : Stmt := topS 49
noncomputable abbrev nWays : List Str := ["kinds", "people", "ahead", "here", "many"]
theorem scWays : FnScope nWays ["kinds", "people"] (defScope sWays) := ⟨rfl, rfl, rfl, by decide +kernel, rfl, by decide +kernel, by decide +kernel⟩
theorem ok_ways {f : Addr} {fd : FuncData} (F : Fun K "ways_of_group" "ways_of_group" sWays f fd) (T : Bi mg) : FnOk P w K mg base CX0 1 f fd ["kinds", "people"] spWays := by
  refine F.ok scWays (fun vs H Q E h => ?_) (fun cdv A outer s H vs Q E hr h => ?_)
  · obtain ⟨k, n, rfl, _⟩ := h
    rfl
  · obtain ⟨k, n, rfl, k0, k9, n3, q⟩ := h
    refine ⟨_, (pss_cons (ps_asg (pe_tup (pa_cons pe_int (pa_cons pe_int pa_nil)))
          (pg_tup rfl (pgs_cons (pg_name (i := 2) scWays.nd rfl (Or.inl rfl)) (pgs_cons (pg_name (i := 3) scWays.nd rfl (Or.inl rfl)) pgs_nil))))
      (pss_cons (ps_for PassesOwn.never rfl (pi_range2 (by rfl) T.range (pa_cons pe_int (pa_cons (pe_op op_add (pv 1) pe_int) pa_nil))) (pg_name (i := 4) scWays.nd rfl (Or.inl rfl))
        (pss_one (ps_par (i := 2) (j := 3) rfl scWays.nd rfl rfl (by decide) rfl rfl (pa_cons (pv 3) (pa_cons (pe_op op_add (pv 3) (pe_op op_mul (pe_op op_mul (pe_op op_sub (pv 4) pe_int) (pe_op op_sub (pv 0) pe_int)) (pv 2))) pa_nil)) (by rfl))))
      (pss_one (ps_ret (pv 3))))), ?_⟩
    refine ⟨(by show 2 ≤ sizeLine; decide), fun p hp => ?_⟩
    obtain ⟨H1, e1, s1, f1⟩ := gen H hp (.tup [.int 1, .int 1])
    rw [e1]
    clear e1
    refine ⟨p, _, rfl, SqT.of f1, rfl, _, _, rfl, _, _, rfl, rfl, ?_⟩
    refine ⟨_, rfl, _, _, rfl, rfl, 2, ((n : Nat) : Int) + 1, rfl, by omega, ?_⟩
    have en : (((n : Nat) : Int) + 1 - 2).toNat = n - 1 := by omega
    rw [en]
    refine for_it (walk_from (a := 2) (n := n - 1)) (fun i σ H' => ∃ z : Option V, σ = [some (.int k), some (.int (n : Nat)), some (.int (waysS k i)), some (.int (waysS k (i + 1))), z] ∧ H' = H1) ⟨_, rfl, rfl⟩ (fun _ _ _ _ _ => trivial) ?_ ?_
    · rintro i v σ H2 H3 hi ⟨z, rfl, rfl⟩ ⟨rfl, rfl⟩
      refine gName_by ?_
      have i2 : i < 2 := by omega
      obtain rfl | rfl : i = 0 ∨ i = 1 := by omega
      · refine ⟨_, rfl, _, rfl, _, rfl, _, _, rfl, rfl, _, rfl, _, _, rfl, rfl, _, _, rfl, rfl, .inr ⟨by omega, by omega⟩, _, rfl, _, _, rfl, rfl, .inr ⟨(by show -(2 ^ 64) < (1 : Int); decide), (by show (1 : Int) < 2 ^ 64; decide)⟩, _, _, rfl, rfl, ?_⟩
        have e : (1 : Int) + (((2 + 0 : Nat) : Int) - 1) * (k - 1) * 1 = k := by
          simp
          omega
        refine ⟨_, _, rfl, some (.int ((2 + 0 : Nat) : Int)), ?_, rfl⟩
        show [_, _, some (V.int 1), some (V.int (1 + (((2 + 0 : Nat) : Int) - 1) * (k - 1) * 1)), _] = _
        rw [e]
        rfl
      · refine ⟨_, rfl, _, rfl, _, rfl, _, _, rfl, rfl, _, rfl, _, _, rfl, rfl, _, _, rfl, rfl, .inr ⟨by omega, by omega⟩, _, rfl, _, _, rfl, rfl, .inr ⟨(by show -(2 ^ 64) < (1 : Int); decide), (by show (1 : Int) < 2 ^ 64; decide)⟩, _, _, rfl, rfl, ?_⟩
        have e : k + (((2 + 1 : Nat) : Int) - 1) * (k - 1) * 1 = 3 * k - 2 := by
          simp
          omega
        refine ⟨_, _, rfl, some (.int ((2 + 1 : Nat) : Int)), ?_, rfl⟩
        show [_, _, some (V.int k), some (V.int (k + (((2 + 1 : Nat) : Int) - 1) * (k - 1) * 1)), _] = _
        rw [e]
        rfl
    · rintro σ H2 ⟨z, rfl, rfl⟩
      refine ⟨_, rfl, ?_⟩
      have e : waysS k (n - 1 + 1) = waysS k n := by
        obtain rfl | rfl | rfl | rfl : n = 0 ∨ n = 1 ∨ n = 2 ∨ n = 3 := by omega
        all_goals rfl
      rw [e]
      exact q _ s1
noncomputable abbrev sPowO : Stmt := topS 48
noncomputable abbrev nPowO : List Str := ["number", "times", "result", "_"]
theorem scPowO : FnScope nPowO ["number", "times"] (defScope sPowO) := ⟨rfl, rfl, rfl, by decide +kernel, rfl, by decide +kernel, by decide +kernel⟩
theorem ok_powO {f : Addr} {fd : FuncData} (F : Fun K "power" "power" sPowO f fd) (T : Bi mg) : FnOk P w K mg base CX0 1 f fd ["number", "times"] spPowO := by
  refine F.ok scPowO (fun vs H Q E h => ?_) (fun cdv A outer s H vs Q E hr h => ?_)
  · obtain ⟨k, rfl, _⟩ := h
    rfl
  · obtain ⟨k, rfl, q⟩ := h
    refine ⟨_, (pss_cons (ps_set (i := 2) scPowO.nd rfl (Or.inl rfl) pe_int)
      (pss_cons (ps_for PassesOwn.never rfl (pi_range1 (by rfl) T.range (pa_cons (pv 1) pa_nil)) (pg_name (i := 3) scPowO.nd rfl (Or.inl rfl))
        (pss_one ps_never))
      (pss_one (ps_ret (pv 2))))), ?_⟩
    refine ⟨_, rfl, 0, rfl, by decide, by decide, ?_⟩
    refine for_it (walk_range (lo := 0) (n := (0 : Int).toNat)) (fun i σ H' => σ = [some (.int k), some (.int 0), some (.int 1), none] ∧ H' = H) ⟨rfl, rfl⟩ (fun _ _ _ _ _ => trivial) ?_ ?_
    · intro i y σ H2 H3 hi
      exact absurd hi (Nat.not_lt_zero i)
    · rintro σ H2 ⟨rfl, rfl⟩
      exact ⟨_, rfl, q⟩
noncomputable abbrev sHowMany : Stmt := topS 72
noncomputable abbrev nHowMany : List Str := ["kinds", "many"]
theorem scHowMany : FnScope nHowMany ["kinds", "many"] (defScope sHowMany) := ⟨rfl, rfl, rfl, by decide +kernel, rfl, by decide +kernel, by decide +kernel⟩
theorem ok_howMany {f : Addr} {fd : FuncData} (F : Fun K "how_many_states" "how_many_states" sHowMany f fd) (T : Bi mg) (Ucheckkinds : UseX P w K mg base "check_kinds" ["kinds"] (spKnd K er) 3) (Ucheckcount : UseX P w K mg base "check_count" ["value"] (spCnt K er) 3) (Uwaysofgroup : Use P w K mg base "ways_of_group" ["kinds", "people"] spWays 1) : FnOk P w K mg base (L2.CX P w) 7 f fd ["kinds", "many"] (spHowMany K er) := by
  refine F.okX scHowMany (fun vs H Q E h => ?_) (fun cdv A outer s H vs Q E hr h => ?_)
  · rcases h with ⟨ds, l, _⟩ | ⟨e, _⟩
    · exact l
    · rw [e]
      rfl
  ·
    refine ⟨_, (pss_cons (ps_expr (pe_useX Ucheckkinds (hr.mono (by decide)) (takes_of rfl rfl rfl rfl) (by rfl) (pa_cons (pv 0) pa_nil)))
      (pss_cons (ps_expr (pe_useX Ucheckcount (hr.mono (by decide)) (takes_of rfl rfl rfl rfl) (by rfl) (pa_cons (pv 1) pa_nil)))
      (pss_one (ps_ret (pe_use Uwaysofgroup (hr.mono (by decide)) (by rfl) (pa_cons (pv 0) (pa_cons (pv 1) pa_nil))))))), ?_⟩
    rcases h with ⟨ds, l, dd, br, r⟩ | ⟨e, q⟩
    · obtain ⟨x, y, dk, d1, rfl, rfl, dx, dy⟩ := args2 l dd
      have r0 : RefBy er (firstBad [(kindsD dk, ("InvalidNumber" : Str), x), (cntD d1, ("InvalidNumber" : Str), y)]) H E := r
      exact ⟨_, rfl, x, dk, rfl, dx, fun h => ⟨_, rfl, y, d1, rfl, dy, fun h1 => ((r0.good h).good h1).none.elim, fun h1 => (r0.good h).bad h1⟩, fun h => r0.bad h⟩
    · subst e
      refine ⟨_, rfl, _, .int 9, rfl, .int _, fun _ => ?_, fun h => by cases h⟩
      refine ⟨_, rfl, _, .int 0, rfl, .int _, fun _ => ?_, fun h => by cases h⟩
      exact ⟨_, rfl, _, rfl, 9, 0, rfl, by decide, by decide, by decide, q⟩
noncomputable abbrev sHowProgs : Stmt := topS 101
noncomputable abbrev nHowProgs : List Str := ["kinds", "many", "found", "size"]
theorem scHowProgs : FnScope nHowProgs ["kinds", "many"] (defScope sHowProgs) := ⟨rfl, rfl, rfl, by decide +kernel, rfl, by decide +kernel, by decide +kernel⟩
theorem ok_howProgs {f : Addr} {fd : FuncData} (F : Fun K "how_many_programs" "how_many_programs" sHowProgs f fd) (T : Bi mg) (PG : Pg K mg) (Ucheckkinds : UseX P w K mg base "check_kinds" ["kinds"] (spKnd K er) 3) (Ucheckbelow : UseX P w K mg base "check_below" ["value", "bound"] (spBel K er) 3) (Upower : Use P w K mg base "power" ["number", "times"] spPowO 1) : FnOk P w K mg base (L2.CX P w) 7 f fd ["kinds", "many"] (spHowProgs K er) := by
  refine F.okX scHowProgs (fun vs H Q E h => ?_) (fun cdv A outer s H vs Q E hr h => ?_)
  · rcases h with ⟨ds, l, _⟩ | ⟨e, _⟩
    · exact l
    · rw [e]
      rfl
  ·
    refine ⟨_, (pss_cons (ps_expr (pe_useX Ucheckkinds (hr.mono (by decide)) (takes_of rfl rfl rfl rfl) (by rfl) (pa_cons (pv 0) pa_nil)))
      (pss_cons (ps_expr (pe_useX Ucheckbelow (hr.mono (by decide)) (takes_of rfl rfl rfl rfl) (by rfl) (pa_cons (pv 1) (pa_cons (pe_op op_add (pe_glob (v := .int 5) rfl PG.counted.choose_spec ⟨_, rfl⟩) pe_int) pa_nil))))
      (pss_cons (ps_set (i := 2) scHowProgs.nd rfl (Or.inl rfl) (pe_use Upower (hr.mono (by decide)) (by rfl) (pa_cons (pv 0) (pa_cons (pe_callBfun cr_comb0 (by rfl) PG.comb (pa_cons (pv 1) (pa_cons pe_int pa_nil))) pa_nil))))
      (pss_cons (ps_for (passes_of rfl) rfl (pi_range2 (by rfl) T.range (pa_cons pe_int (pa_cons (pe_op op_add (pv 1) pe_int) pa_nil))) (pg_name (i := 3) scHowProgs.nd rfl (Or.inl rfl))
        (pss_one ps_never))
      (pss_one (ps_ret (pv 2))))))), ?_⟩
    rcases h with ⟨ds, l, dd, br, r⟩ | ⟨e, q⟩
    · obtain ⟨x, y, dk, d1, rfl, rfl, dx, dy⟩ := args2 l dd
      have r0 : RefBy er (firstBad [(kindsD dk, ("InvalidNumber" : Str), x), (below 6 d1, ("InvalidNumber" : Str), y)]) H E := r
      exact ⟨_, rfl, x, dk, rfl, dx, fun h => ⟨_, rfl, _, _, rfl, rfl, y, d1, 6, rfl, dy, fun h1 => ((r0.good h).good h1).none.elim, fun h1 => (r0.good h).bad h1⟩, fun h => r0.bad h⟩
    · subst e
      refine ⟨_, rfl, _, .int 2, rfl, .int _, fun _ => ?_, fun h => by cases h⟩
      refine ⟨_, rfl, _, _, rfl, rfl, _, .int 0, 6, rfl, .int _, fun _ => ?_, fun h => by cases h⟩
      refine ⟨_, rfl, _, rfl, 0, 2, rfl, by decide, by decide, 2, rfl, ?_⟩
      refine ⟨_, rfl, _, _, rfl, rfl, 3, 0 + 1, rfl, by decide, ?_⟩
      refine for_it (walk_from (a := 3) (n := 0)) (fun i σ H' => σ = [some (.int 2), some (.int 0), some (.int 1), none] ∧ H' = H) ⟨rfl, rfl⟩ (fun _ _ _ _ _ => trivial) ?_ ?_
      · intro i y σ H2 H3 hi
        exact absurd hi (Nat.not_lt_zero i)
      · rintro σ H2 ⟨rfl, rfl⟩
        exact ⟨_, rfl, q _ (Same.refl _)⟩
noncomputable abbrev sToldX : Stmt := topS 99
noncomputable abbrev nToldX : List Str := ["kinds", "many", "value"]
theorem scToldX : FnScope nToldX ["kinds", "many", "value"] (defScope sToldX) := ⟨rfl, rfl, rfl, by decide +kernel, rfl, by decide +kernel, by decide +kernel⟩
theorem ok_toldX {f : Addr} {fd : FuncData} (F : Fun K "is_told" "is_told" sToldX f fd) (T : Bi mg) (PG : Pg K mg) (Ucheckkinds : UseX P w K mg base "check_kinds" ["kinds"] (spKnd K er) 3) (Ucheckbelow : UseX P w K mg base "check_below" ["value", "bound"] (spBel K er) 3) (Uisfamily : Use P w K mg base "is_family" ["kinds", "many", "value"] (spFamily K) 6) : FnOk P w K mg base (L2.CX P w) 7 f fd ["kinds", "many", "value"] (spToldX K er) := by
  refine F.okX scToldX (fun vs H Q E h => ?_) (fun cdv A outer s H vs Q E hr h => ?_)
  · rcases h with ⟨ds, l, _⟩ | ⟨e, _⟩
    · exact l
    · rw [e]
      rfl
  ·
    refine ⟨_, (pss_cons (ps_expr (pe_useX Ucheckkinds (hr.mono (by decide)) (takes_of rfl rfl rfl rfl) (by rfl) (pa_cons (pv 0) pa_nil)))
      (pss_cons (ps_expr (pe_useX Ucheckbelow (hr.mono (by decide)) (takes_of rfl rfl rfl rfl) (by rfl) (pa_cons (pv 1) (pa_cons (pe_op op_add (pe_glob (v := .int 4) rfl PG.told.choose_spec ⟨_, rfl⟩) pe_int) pa_nil))))
      (pss_one (ps_ret (pe_use Uisfamily hr (by rfl) (pa_cons (pv 0) (pa_cons (pv 1) (pa_cons (pv 2) pa_nil)))))))), ?_⟩
    rcases h with ⟨ds, l, dd, br, r⟩ | ⟨e, q⟩
    · obtain ⟨x, y, z, dk, d1, d2, rfl, rfl, dx, dy, dz⟩ := args3 l dd
      have r0 : RefBy er (firstBad [(kindsD dk, ("InvalidNumber" : Str), x), (below 5 d1, ("InvalidNumber" : Str), y)]) H E := r
      exact ⟨_, rfl, x, dk, rfl, dx, fun h => ⟨_, rfl, _, _, rfl, rfl, y, d1, 5, rfl, dy, fun h1 => ((r0.good h).good h1).none.elim, fun h1 => (r0.good h).bad h1⟩, fun h => r0.bad h⟩
    · subst e
      refine ⟨_, rfl, _, .int 2, rfl, .int _, fun _ => ?_, fun h => by cases h⟩
      refine ⟨_, rfl, _, _, rfl, rfl, _, .int 2, 5, rfl, .int _, fun _ => ?_, fun h => by cases h⟩
      exact ⟨_, rfl, _, rfl, _, rfl, 2, 2, _, .none, rfl, .non, .inl ⟨rfl, rfl⟩, q⟩
noncomputable abbrev sD14 : Stmt := topS 102
noncomputable abbrev nD14 : List Str := ["program", "turn", "start", "wanted", "found", "layer", "further", "element", "number", "behind"]
theorem scD14 : FnScope nD14 ["program"] (defScope sD14) := ⟨rfl, rfl, rfl, by decide +kernel, rfl, by decide +kernel, by decide +kernel⟩
theorem ok_d14 {f : Addr} {fd : FuncData} (F : Fun K "shortest_program" "shortest_program" sD14 f fd) (T : Bi mg) (PG : Pg K mg) (Uisprogram : Use P w K mg base "is_program" ["value"] (spIsProg K) 4) (XInvalidProgram : ErrU P w K mg base er "InvalidProgram") : FnOk P w K mg base (L2.CX P w) 7 f fd ["program"] (spD14 K er) := by
  obtain ⟨iInvalidProgram, tInvalidProgram, uInvalidProgram⟩ := XInvalidProgram
  refine F.okX scD14 (fun vs H Q E h => ?_) (fun cdv A outer s H vs Q E hr h => ?_)
  · obtain ⟨ds, l, _⟩ := h
    exact l
  · obtain ⟨ds, l, dd, br, r⟩ := h
    obtain ⟨x, dk, rfl, rfl, dx⟩ := args1 l dd
    have h65 : (A.deeper (envOfC "shortest_program" (defScope sD14) s.heap.objs.size f cdv)).units + 65 < cLine := by
      have := hr.un
      omega
    refine ⟨_, (pss_cons (ps_if (PW.pt (pw_or (pt_not (pt_val (pe_use Uisprogram (hr.mono (by decide)) (by rfl) (pa_cons (pv 0) pa_nil)))) (pw_or1 (pt_val (pe_callB (cr_any rfl) (by rfl) T.any (by decide +kernel) (pa_cons (pe_lc (own := [("turn", 1)]) (g := (gName 1)) (tt := tYes) (te := (tOp (rNotInT K) (tVar 1) (tC (.ref PG.turns.choose)))) rfl scD14.nd (pi_list (pv 0))
            (blkOk_by (N := nD14) (sc := (defScope sD14)) (by decide +kernel)) (fun _ _ _ _ _ => (pg_name (i := 1) scD14.nd rfl (Or.inl rfl))) (fun _ _ _ _ _ => by exact pts_nil)
            (fun _ _ _ _ _ => by exact (pe_cmpR (op_notInT h65) (pv 1) (pe_glob (v := .ref PG.turns.choose) rfl PG.turns.choose_spec.1 rfl) (by rfl)))) pa_nil))))))
        (pss_one (ps_raise rfl (takes_of rfl rfl rfl rfl) (pmk_err tInvalidProgram uInvalidProgram (hr.mono (by decide)) (by rfl) (pa_cons (pv 0) pa_nil)))) pss_nil)
      pss_never), ?_⟩
    have r0 : RefBy er (firstBad [(shortD dk, ("InvalidProgram" : Str), x)]) H E := r
    have b1 := br _ (List.mem_singleton_self dk)
    refine ⟨_, rfl, x, dk, rfl, dx, b1, fun H2 s02 => ⟨_, rfl, ?_⟩⟩
    cases hp : progD dk with
    | false =>
      have z : shortD dk = false := by
        cases dk with
        | list ds =>
          show (ds.all (cplD 40) && _) = false
          rw [show ds.all (cplD 40) = false from hp, Bool.false_and]
        | _ => rfl
      exact iteT (iteT ⟨_, rfl, err_by tInvalidProgram ((r0.bad z).raise s02)⟩)
    | true =>
      refine iteF ?_
      obtain ⟨ds, rfl⟩ : ∃ ds, dk = .list ds := by
        cases dk with
        | list ds => exact ⟨ds, rfl⟩
        | _ => cases hp
      have l1000 := b1 ds rfl
      cases dx with
      | @lst a xs _ ha hs =>
        have hl := hs.length
        have h2 := s02 _ _ ha
        refine ⟨_, rfl, a, rfl, ⟨_, SqL.of h2⟩, fun D hD => ?_⟩
        refine lc_list (K := K) (a := a) (xs := xs) (fun i H' => Same H2 H' ∧ H' D = some (.lst (((ds.take i).map fun t => !turnsD.any fun z => PyData.eqv z t).map V.bl))) ⟨same_new hD, upd_same⟩ (fun i H' _ z => (z.1).seq (SqL.of h2)) ?_ ?_
        · rintro i y H' hi ⟨s3, hD'⟩
          obtain ⟨dy', e1, d1⟩ := hs.get hi
          have hc1 := List.all_eq_true.mp (show ds.all (cplD 40) = true from hp) dy' (List.mem_of_getElem? e1)
          obtain ⟨sh, fl⟩ := cpl_shaped hc1
          replace d1 := Dt.same (s02.trans s3) _ _ d1
          refine ⟨rfl, yes_of ⟨_, rfl, dy', turnsD, dt_dp _ _ fl d1, PG.turns.choose_spec.2 _, sh, (by decide +kernel), ?_⟩⟩
          refine ⟨_, hD', ?_, fun b o z => by rw [upd_ne (ne_of_none z hD)]; exact s3 b o z, ?_⟩
          · rw [List.length_map, List.length_map, List.length_take]
            exact small1000 (by omega)
          · rw [upd_same, take_more (fun t => !turnsD.any fun z => PyData.eqv z t) e1, List.map_append]
            rfl
        · rintro H' ⟨s3, hD'⟩
          rw [hl, List.take_length] at hD'
          refine ⟨D, ds.map fun t => !turnsD.any fun z => PyData.eqv z t, rfl, SqL.of hD', ?_⟩
          have ea : (ds.map fun t => !turnsD.any fun z => PyData.eqv z t).any id = ds.any fun t => !turnsD.any fun z => PyData.eqv z t := by
            rw [List.any_map]
            rfl
          rw [ea]
          have er' : shortD (.list ds) = !ds.any fun t => !turnsD.any fun z => PyData.eqv z t := by
            show (ds.all (cplD 40) && _) = _
            rw [show ds.all (cplD 40) = true from hp, Bool.true_and]
          cases hb : ds.any fun t => !turnsD.any fun z => PyData.eqv z t with
          | false => exact (r0.good (by rw [er', hb]; rfl)).none.elim
          | true => exact ⟨_, rfl, iteT ⟨_, rfl, err_by tInvalidProgram ((r0.bad (by rw [er', hb]; rfl)).raise (s02.trans s3))⟩⟩
noncomputable abbrev sMadeP : Stmt := topS 100
noncomputable abbrev nMadeP : List Str := ["kinds", "family", "strides", "turn", "told", "_", "ahead", "left", "place", "wanted"]
theorem scMadeP : FnScope nMadeP ["kinds", "family"] (defScope sMadeP) := ⟨rfl, rfl, rfl, by decide +kernel, rfl, by decide +kernel, by decide +kernel⟩
theorem ok_madeP {f : Addr} {fd : FuncData} (F : Fun K "made_program" "made_program" sMadeP f fd) (T : Bi mg) (Ucheckkinds : UseX P w K mg base "check_kinds" ["kinds"] (spKnd K er) 3) (Uisfamily : Use P w K mg base "is_family" ["kinds", "many", "value"] (spFamily K) 6) (XInvalidWishes : ErrU P w K mg base er "InvalidWishes") : FnOk P w K mg base (L2.CX P w) 7 f fd ["kinds", "family"] (spMadeP K er) := by
  obtain ⟨iInvalidWishes, tInvalidWishes, uInvalidWishes⟩ := XInvalidWishes
  refine F.okX scMadeP (fun vs H Q E h => ?_) (fun cdv A outer s H vs Q E hr h => ?_)
  · obtain ⟨x, y, dk, d, rfl, _⟩ := h
    rfl
  · obtain ⟨x, y, dk, d, rfl, dx, dy, h⟩ := h
    refine ⟨_, (pss_cons (ps_expr (pe_useX Ucheckkinds (hr.mono (by decide)) (takes_of rfl rfl rfl rfl) (by rfl) (pa_cons (pv 0) pa_nil)))
      (pss_cons (ps_if (pt_not (pt_val (pe_use Uisfamily hr (by rfl) (pa_cons (pv 0) (pa_cons pe_int (pa_cons (pv 1) pa_nil))))))
        (pss_one (ps_raise rfl (takes_of rfl rfl rfl rfl) (pmk_err tInvalidWishes uInvalidWishes (hr.mono (by decide)) (by rfl) (pa_cons (pv 1) pa_nil)))) pss_nil)
      pss_never)), ?_⟩
    rcases h with ⟨kf, r⟩ | ⟨k, rfl, k2, k4, fb, r⟩
    · exact ⟨_, rfl, x, dk, rfl, dx, (fun z => by rw [kf] at z; cases z), fun _ => r⟩
    · cases dx
      refine ⟨_, rfl, _, .int k, rfl, .int _, fun _ => ?_, fun z => ?_⟩
      · refine ⟨_, rfl, _, rfl, k, 3, y, d, rfl, dy, .inr ⟨rfl, k2, k4, fb⟩, fun H1 s1 => ⟨_, rfl, iteT ⟨_, rfl, err_by tInvalidWishes (r.raise s1)⟩⟩⟩
      · rw [kinds_d k2 (by omega)] at z
        cases z
end
end K56

/-! triples of ints, sorted -/
namespace GL
open PySem PySem.Spec PyProof.Rows
open L2 hiding spCell
/-- a triple of ints -/
noncomputable def triD : PyData → Bool
  | .tuple [.int _, .int _, .int _] => true
  | _ => false
theorem tri_of {d : PyData} (h : triD d = true) : ∃ a b c, d = .tuple [.int a, .int b, .int c] := by
  match d, h with
  | .tuple [.int a, .int b, .int c], _ => exact ⟨a, b, c, rfl⟩
theorem dataLe_tri {x y : PyData} (hx : triD x = true) (hy : triD y = true) : (!PySem.W.dataLt y x) = leT x y := by
  obtain ⟨a, b, c, rfl⟩ := tri_of hx
  obtain ⟨a', b', c', rfl⟩ := tri_of hy
  have e : PySem.W.dataLt (.tuple [.int a', .int b', .int c']) (.tuple [.int a, .int b, .int c]) = decide (([a', b', c'] : List Int) < [a, b, c]) := by
    rw [PySem.W.dataLt_tuple]
    exact PySem.W.dataLt_ints [a', b', c'] [a, b, c]
  rw [e]
  show (!decide (([a', b', c'] : List Int) < [a, b, c])) = decide (a < a' ∨ (a = a' ∧ (b < b' ∨ (b = b' ∧ c ≤ c'))))
  have z : (([a', b', c'] : List Int) < [a, b, c]) ↔ (a' < a ∨ (a' = a ∧ (b' < b ∨ (b' = b ∧ c' < c)))) := by
    simp [List.cons_lt_cons_iff]
  by_cases h : ([a', b', c'] : List Int) < [a, b, c]
  · rw [decide_eq_true h, decide_eq_false (by have := z.mp h; omega)]
    rfl
  · rw [decide_eq_false h, decide_eq_true (by have nz := mt z.mpr h; omega)]
    rfl
theorem leT_trans (a b c : PyData) (h1 : leT a b = true) (h2 : leT b c = true) : leT a c = true := by
  unfold leT at h1 h2 ⊢
  rw [decide_eq_true_eq] at h1 h2 ⊢
  omega
theorem leT_total (a b : PyData) : (leT a b || leT b a) = true := by
  unfold leT
  rw [Bool.or_eq_true, decide_eq_true_eq, decide_eq_true_eq]
  omega
theorem sort_tri {bs : List (V × PyData)} (h : ∀ b ∈ bs, triD b.2 = true) : (bs.mergeSort (PySem.W.dataLe false (·.2))).map (·.2) = (bs.map (·.2)).mergeSort leT := by
  refine List.map_mergeSort fun a ha b hb => ?_
  rw [PySem.W.dataLe_eq]
  exact dataLe_tri (h a ha) (h b hb)
theorem plain_tri {d : PyData} (h : triD d = true) : plainD d = true := by
  obtain ⟨a, b, c, rfl⟩ := tri_of h
  exact plain_tup [a, b, c]
theorem same_sorted {ds : List PyData} (h : ∀ d ∈ ds, triD d = true) : PyData.eqv (.list ds) (.list (ds.mergeSort leT)) = decide (ds.Pairwise fun x y => leT x y = true) := by
  have p : (ds.mergeSort leT).Perm ds := List.mergeSort_perm ds leT
  have h1 : plainA ds = true := plainA_of fun x hx => plain_tri (h x hx)
  have h2 : plainA (ds.mergeSort leT) = true := plainA_of fun x hx => plain_tri (h x (p.mem_iff.mp hx))
  have e : PyData.eqv (.list ds) (.list (ds.mergeSort leT)) = PyData.eqvAll ds (ds.mergeSort leT) := by simp [PyData.eqv]
  rw [e, Bool.eq_iff_iff, plain_eqvA _ _ h1 h2, decide_eq_true_eq]
  constructor
  · intro q
    rw [q]
    exact List.pairwise_mergeSort leT_trans leT_total ds
  · intro q
    exact (List.mergeSort_of_pairwise q).symm
theorem alike_tri {x y : PyData} (hx : triD x = true) (hy : triD y = true) : PySem.W.alike x y = true := by
  obtain ⟨a, b, c, rfl⟩ := tri_of hx
  obtain ⟨a', b', c', rfl⟩ := tri_of hy
  have e : PySem.W.alike (.tuple [.int a, .int b, .int c]) (.tuple [.int a', .int b', .int c']) = PySem.W.alikeAll ([a, b, c].map .int) ([a', b', c'].map .int) := by simp [PySem.W.alike]
  rw [e]
  exact PySem.W.alike_ints _ _
theorem depth_tri {x : PyData} (hx : triD x = true) : x.depth ≤ 40 := by
  obtain ⟨a, b, c, rfl⟩ := tri_of hx
  simp [PyData.depth, PyData.depthAll]
theorem shaped_tris {ds : List PyData} (h : ∀ d ∈ ds, triD d = true) : SeqAt.shaped (.list ds) = true := by
  refine plain_shaped ?_ ?_
  · show plainA ds = true
    exact plainA_of fun x hx => plain_tri (h x hx)
  · have : ∀ ds : List PyData, (∀ d ∈ ds, triD d = true) → PyData.depthAll ds ≤ 40 := by
      intro ds
      induction ds with
      | nil => intro _; simp [PyData.depthAll]
      | cons d ds ih =>
        intro h
        have h1 := depth_tri (h d (List.mem_cons_self ..))
        have h2 := ih fun x hx => h x (List.mem_cons_of_mem _ hx)
        simp only [PyData.depthAll]
        omega
    have q := this ds h
    simp only [PyData.depth]
    omega
theorem tri_cpl {k : Int} {d : PyData} (h : cplKB 40 k d = true) : triD d = true := by
  obtain ⟨a, b, v, rfl, _⟩ := cplK_nat h
  rfl
theorem inV_ints (p : Int) (ns : List Int) : inV (.int p) (ns.map V.int) = (ns.map PyData.int).any (isN p) := by
  induction ns with
  | nil => rfl
  | cons n ns ih =>
    have e : inV (.int p) ((n :: ns).map V.int) = (eqV (.int n) (.int p) || inV (.int p) (ns.map V.int)) := by
      unfold inV
      rfl
    rw [e, ih]
    have e2 : eqV (.int n) (.int p) = decide (n = p) := by
      first
        | rfl
        | (unfold eqV; rfl)
    rw [e2]
    rfl
theorem folk_take {ds : List PyData} {i : Nat} {d : PyData} (h : ds[i]? = some d) : folkD (ds.take (i + 1)) = folkD (ds.take i) ++ [lowD d, midD d] := by
  unfold folkD
  rw [List.take_add_one, h, List.map_append, List.flatten_append]
  rfl
theorem folk_len (ds : List PyData) : (folkD ds).length = 2 * ds.length := by
  unfold folkD
  induction ds with
  | nil => rfl
  | cons d ds ih =>
    rw [List.map_cons, List.flatten_cons, List.length_append, ih]
    show 2 + 2 * ds.length = 2 * (ds.length + 1)
    omega
end GL

namespace K56
open PySem PySem.Spec PyProof.Rows
open L2 hiding spCell rLen
open GL
section
variable {P : Program} {w : World} {K : PySem.W.Frag} {mg : Str → Option Value} {base : Heap}
variable {er : Str → Addr}
noncomputable abbrev sIsState : Stmt := topS 56
noncomputable abbrev nIsState : List Str := ["kinds", "lot", "value", "told", "people", "low", "high", "_", "person", "shift"]
theorem scIsState : FnScope nIsState ["kinds", "lot", "value"] (defScope sIsState) := ⟨rfl, rfl, rfl, by decide +kernel, rfl, by decide +kernel, by decide +kernel⟩
theorem ok_isState {f : Addr} {fd : FuncData} (F : Fun K "is_state" "is_state" sIsState f fd) (T : Bi mg) (C : Cs mg) (Uiscouplewithkind : Use P w K mg base "is_couple_with_kind" ["kinds", "many", "value"] (spCplK K) 4) : FnOk P w K mg base CX0 5 f fd ["kinds", "lot", "value"] (spIsState K) := by
  refine F.ok scIsState (fun vs H Q E h => ?_) (fun cdv A outer s H vs Q E hr h => ?_)
  · obtain ⟨k, x, y, dl, d, rfl, _⟩ := h
    rfl
  · obtain ⟨k, x, y, dl, d, rfl, dx, hlot, dy, br, q⟩ := h
    refine ⟨_, (pss_cons (ps_if (PW.pt (pw_or (pt_not (pt_val (pe_callB call_isi (by rfl) T.isinstance (by decide +kernel) (pa_cons (pv 2) (pa_cons (pe_bltn (v := .ty "list") (by rfl) T.list (by decide +kernel) rfl) pa_nil))))) (pw_or1 (pt_not (pt_val (pe_callB (cr_all rfl) (by rfl) T.all (by decide +kernel) (pa_cons (pe_lc (own := [("told", 3)]) (g := (gName 3)) (tt := tYes) (te := (tCall (spCplK K) [] E0 (tCons (tVar 0) (tCons (tC (.int 40)) (tCons (tVar 3) tNil))))) rfl scIsState.nd (pi_list (pv 2))
            (blkOk_by (N := nIsState) (sc := (defScope sIsState)) (by decide +kernel)) (fun _ _ _ _ _ => (pg_name (i := 3) scIsState.nd rfl (Or.inl rfl))) (fun _ _ _ _ _ => by exact pts_nil)
            (fun _ _ _ _ _ => by exact (pe_use Uiscouplewithkind hr (by rfl) (pa_cons (pv 0) (pa_cons (pe_glob (v := .int 40) rfl C.people.choose_spec ⟨_, rfl⟩) (pa_cons (pv 3) pa_nil)))))) pa_nil)))))))
        (pss_one (ps_ret pe_bl)) pss_nil)
      (pss_cons (ps_setLc2 (i := 4) (own := [("low", 5), ("high", 6), ("_", 7), ("person", 8)]) (vs1 := [8]) (g := (gTup K 3 (gCons (gName 5) (gCons (gName 6) (gCons (gName 7) gNil))))) (tt := tYes) (wi1 := (iTup K (tTup (tCons (tVar 5) (tCons (tVar 6) tNil))))) (g1 := (gName 8)) (tt1 := tYes) (te := (tVar 8)) rfl scIsState.nd rfl rfl (sw_true rfl rfl rfl (by decide +kernel)) (pi_list (pv 2))
          (blkOk_by (N := nIsState) (sc := (defScope sIsState)) (by decide +kernel)) (by decide) (fun _ _ _ _ _ => (pg_tup rfl (pgs_cons (pg_name (i := 5) scIsState.nd rfl (Or.inl rfl)) (pgs_cons (pg_name (i := 6) scIsState.nd rfl (Or.inl rfl)) (pgs_cons (pg_name (i := 7) scIsState.nd rfl (Or.inl rfl)) pgs_nil))))) (fun _ _ _ _ _ => by exact pts_nil) (fun _ _ _ _ _ => by exact (pi_tup (pe_tup (pa_cons (pv 5) (pa_cons (pv 6) pa_nil))))) (fun _ _ _ _ _ => (pg_name (i := 8) scIsState.nd rfl (Or.inl rfl))) (fun _ _ _ _ _ => by exact pts_nil)
          (fun _ _ _ _ _ => by exact (pv 8)))
      (pss_cons (ps_if (PW.pt (pw_or (pt_cmpR op_lt (pe_lenSetN (by rfl) T.len (by rfl) T.set (pv 4)) (pe_callB call_len_seq (by rfl) T.len PySem.boot_len (pa_cons (pv 4) pa_nil)) (nomark _)) (pw_or1 (pt_not (pt_val (pe_callB (cr_all rfl) (by rfl) T.all (by decide +kernel) (pa_cons (pe_lc (own := [("person", 8)]) (g := (gName 8)) (tt := tYes) (te := (tOp (rIn K false) (tVar 8) (tVar 1))) rfl scIsState.nd (pi_list (pv 4))
            (blkOk_by (N := nIsState) (sc := (defScope sIsState)) (by decide +kernel)) (fun _ _ _ _ _ => (pg_name (i := 8) scIsState.nd rfl (Or.inl rfl))) (fun _ _ _ _ _ => by exact pts_nil)
            (fun _ _ _ _ _ => by exact (pe_cmpR op_in_seq (pv 8) (pv 1) (by rfl)))) pa_nil)))))))
        (pss_one (ps_ret pe_bl)) pss_nil)
      (pss_one (ps_ret (pe_and (pe_callB (cr_all rfl) (by rfl) T.all (by decide +kernel) (pa_cons (pe_lc (own := [("_", 7), ("shift", 9)]) (g := (gTup K 3 (gCons (gName 7) (gCons (gName 7) (gCons (gName 9) gNil))))) (tt := tYes) (te := (tOp (rI0 fun i j => .bl (decide (j < i))) (tVar 9) (tC (.int 0)))) rfl scIsState.nd (pi_list (pv 2))
            (blkOk_by (N := nIsState) (sc := (defScope sIsState)) (by decide +kernel)) (fun _ _ _ _ _ => (pg_tup rfl (pgs_cons (pg_name (i := 7) scIsState.nd rfl (Or.inl rfl)) (pgs_cons (pg_name (i := 7) scIsState.nd rfl (Or.inl rfl)) (pgs_cons (pg_name (i := 9) scIsState.nd rfl (Or.inl rfl)) pgs_nil))))) (fun _ _ _ _ _ => by exact pts_nil)
            (fun _ _ _ _ _ => by exact (pe_cmpR op_gt (pv 9) pe_int (nomark _)))) pa_nil)) (pe_one (pe_cmpR (op_eqD hr.units) (pv 2) (pe_callB (cr_sortedD hr.units) (by rfl) T.sorted (by decide +kernel) (pa_cons (pv 2) pa_nil)) (nomark _))))))))), ?_⟩
    obtain ⟨lds, rfl⟩ : ∃ lds, dl = .list lds := by
      cases dl with
      | list ds => exact ⟨ds, rfl⟩
      | _ => cases hlot
    obtain ⟨l, lxs, rfl, hlx, dlx⟩ := dt_list dx
    obtain ⟨ns, rfl, bd⟩ : ∃ ns : List Int, lds = ns.map PyData.int ∧ ∀ z ∈ ns, 0 ≤ z ∧ z < 40 := by
      refine ints_of (k := 40) ?_
      have h := Bool.and_eq_true_iff.mp (show ((decide (1 ≤ (lds.length : Int)) && decide ((lds.length : Int) ≤ 40)) && (lds.all (below 40) && ascD lds)) = true from hlot)
      exact (Bool.and_eq_true_iff.mp h.2).1
    obtain rfl := vals_of dlx
    refine ⟨_, rfl, _, _, _, _, _, rfl, .ty "list", dy.ty, kit_list d, _, rfl, ?_⟩
    by_cases e : ∃ ds, d = .list ds
    · obtain ⟨ds, rfl⟩ := e
      have l1000 := br ds rfl
      cases dy with
      | @lst a xs _ ha hs =>
        have hl := hs.length
        refine iteF ⟨_, rfl, a, rfl, ⟨_, SqL.of ha⟩, fun D hD => ?_⟩
        refine lc_list (K := K) (a := a) (xs := xs) (fun i H' => Same H H' ∧ H' D = some (.lst (((ds.take i).map (cplKB 40 k)).map V.bl))) ⟨same_new hD, upd_same⟩ (fun i H' _ z => (z.1).seq (SqL.of ha)) ?_ ?_
        · rintro i y H' hi ⟨s1, hD'⟩
          obtain ⟨dy, e1, d1⟩ := hs.get hi
          refine ⟨rfl, yes_of ⟨_, rfl, _, rfl, k, 40, y, dy, rfl, Dt.same s1 dy _ d1, fun H2 s2 => ⟨_, s2 _ _ hD', ?_, fun b o z => by rw [upd_ne (ne_of_none z hD)]; exact s2 _ _ (s1 b o z), ?_⟩⟩⟩
          · rw [List.length_map, List.length_map, List.length_take]
            exact small1000 (by omega)
          · rw [upd_same, take_more (cplKB 40 k) e1, List.map_append]
            rfl
        · rintro H1 ⟨s1, hD'⟩
          rw [hl, List.take_length] at hD'
          refine ⟨D, ds.map (cplKB 40 k), rfl, SqL.of hD', _, rfl, ?_⟩
          have ea : (ds.map (cplKB 40 k)).all id = ds.all (cplKB 40 k) := by
            rw [List.all_map]
            rfl
          rw [ea]
          have st : stateD k (ns.map PyData.int) (.list ds) = (ds.all (cplKB 40 k) && ((decide (folkD ds).Nodup && (folkD ds).all fun p => (ns.map PyData.int).any (isN p)) && ((ds.all fun t => decide (0 < shiftD t)) && decide (ds.Pairwise fun x y => leT x y = true)))) := rfl
          cases hp : ds.all (cplKB 40 k) with
          | false =>
            refine iteT ?_
            have q' := q _ s1
            rw [show lotOf (.list (ns.map PyData.int)) = ns.map PyData.int from rfl, st, hp] at q'
            exact q'
          | true =>
            refine iteF ?_
            clear hD' hD
            have tri : ∀ t ∈ ds, triD t = true := fun t ht => tri_cpl (List.all_eq_true.mp hp t ht)
            have h1 := s1 _ _ ha
            refine ⟨_, rfl, a, rfl, ⟨_, SqL.of h1⟩, fun D hD => ?_⟩
            refine lc2_it (walk_list (K := K) (a := a) (xs := xs)) (fun i H' => Same H1 H' ∧ H' D = some (.lst ((folkD (ds.take i)).map V.int))) ⟨same_new hD, upd_same⟩ (fun i H' _ z => (z.1).seq (SqL.of h1)) ?_ ?_
            · rintro i y H2 H3 hi ⟨s2, hD2⟩ ⟨rfl, ey⟩
              obtain ⟨dy, e1, d1⟩ := hs.get ey
              obtain ⟨u, v, c, rfl⟩ := tri_of (tri _ (List.mem_of_getElem? e1))
              replace d1 := Dt.same (s1.trans s2) _ _ d1
              cases d1 with
              | @tup t ys _ ht hy =>
                have ey : ys = [.int u, .int v, .int c] := vals_of (ns := [u, v, c]) hy
                subst ey
                ·
                  refine ⟨t, _, rfl, SqT.of ht, rfl, _, _, rfl, _, _, rfl, _, _, rfl, rfl, rfl, yes_of ?_⟩
                  refine ⟨_, rfl, _, rfl, (by show 2 ≤ sizeLine; decide), fun p hp => ?_⟩
                  obtain ⟨H4, e4, s4, f4⟩ := gen H3 hp (.tup [.int u, .int v])
                  rw [e4]
                  clear e4
                  have hD4 := s4 _ _ hD2
                  have pD : p ≠ D := fun z => by
                    rw [z, hD2] at hp
                    cases hp
                  have lt : (folkD (ds.take i)).length ≤ 2000 := by
                    rw [folk_len, List.length_take]
                    omega
                  refine ⟨p, rfl, ⟨_, SqT.of f4⟩, ?_⟩
                  refine lc2_in (walk_tup (K := K) (a := p) (xs := [.int u, .int v])) (fun j H' => Same H1 H' ∧ H' p = some (.tup [.int u, .int v]) ∧ H' D = some (.lst ((folkD (ds.take i) ++ ([u, v].take j)).map V.int))) ⟨s2.trans s4, f4, by rw [List.take_zero, List.append_nil]; exact hD4⟩ (fun j H' _ z => SqT.of z.2.1) ?_ ?_
                  · rintro j x H5 H6 hj ⟨s5, p5, D5⟩ ⟨rfl, ex⟩
                    obtain ⟨z, rfl, ez⟩ : ∃ z : Int, x = .int z ∧ [u, v].take (j + 1) = [u, v].take j ++ [z] := by
                      match j, hj, ex with
                      | 0, _, ex => exact ⟨u, (Option.some.inj ex).symm, rfl⟩
                      | 1, _, ex => exact ⟨v, (Option.some.inj ex).symm, rfl⟩
                    refine gName_by ⟨rfl, yes_of ⟨_, rfl, _, D5, ?_, fun b o q => by rw [upd_ne (ne_of_none q hD)]; exact s5 b o q, by rw [upd_ne pD]; exact p5, ?_⟩⟩
                    · have t2 : ([u, v].take j).length ≤ 2 := by
                        rw [List.length_take]
                        exact Nat.min_le_right _ _
                      rw [List.length_map, List.length_append, sizeLine_eq]
                      omega
                    · rw [upd_same, ez, ← List.append_assoc, List.map_append (l₂ := [z])]
                      rfl
                  · rintro H5 ⟨s5, _, D5⟩
                    refine ⟨s5, ?_⟩
                    rw [D5, folk_take e1]
                    rfl
            · rintro H2 ⟨s2, hD2⟩
              rw [hl, List.take_length] at hD2
              have fl : (folkD ds).length ≤ 2000 := by
                rw [folk_len]
                omega
              refine ⟨_, rfl, D, folkD ds, rfl, SqL.of hD2, by omega, _, rfl, D, _, rfl, .inl (SqL.of hD2), _, _, rfl, rfl, _, rfl, ?_⟩
              rw [List.length_map]
              have dn := dups_nodup (folkD ds).length (folkD ds) (Nat.le_refl _)
              have s02 := s1.trans s2
              rw [hp, Bool.true_and] at st
              by_cases nd : (folkD ds).Nodup
              · have lt : ¬ (((folkD ds).eraseDups.length : Nat) : Int) < ((folkD ds).length : Nat) := fun z => (dn.mp (by omega)) nd
                rw [decide_eq_true nd, Bool.true_and] at st
                rw [decide_eq_false lt]
                refine iteF ⟨_, rfl, D, rfl, ⟨_, SqL.of hD2⟩, fun D3 hD3 => ?_⟩
                refine lc_list (K := K) (a := D) (xs := (folkD ds).map V.int) (fun i H' => Same H2 H' ∧ H' D3 = some (.lst ((((folkD ds).take i).map fun p => (ns.map PyData.int).any (isN p)).map V.bl))) ⟨same_new hD3, upd_same⟩ (fun i H' _ z => SqL.of (z.1 _ _ hD2)) ?_ ?_
                · rintro i y H' hi ⟨s3, hD'⟩
                  rw [List.getElem?_map] at hi
                  cases ep : (folkD ds)[i]? with
                  | none =>
                    rw [ep] at hi
                    cases hi
                  | some p =>
                    rw [ep] at hi
                    cases hi
                    have il := (List.getElem?_eq_some_iff.mp ep).1
                    refine ⟨rfl, yes_of ⟨_, rfl, _, rfl, l, _, rfl, .inl (SqL.of ((s02.trans s3) _ _ hlx)), rfl, ?_, _, hD', ?_, fun b o z => by rw [upd_ne (ne_of_none z hD3)]; exact s3 b o z, ?_⟩⟩
                    · rw [List.all_map]
                      exact List.all_eq_true.mpr fun _ _ => rfl
                    · rw [List.length_map, List.length_map, List.length_take, sizeLine_eq]
                      omega
                    · rw [upd_same, take_more (fun p => (ns.map PyData.int).any (isN p)) ep, List.map_append]
                      show some (HO.lst (_ ++ [V.bl (inV (.int p) (ns.map V.int))])) = _
                      rw [inV_ints]
                      rfl
                · rintro H3 ⟨s3, hD'⟩
                  rw [List.length_map, List.take_length] at hD'
                  refine ⟨D3, (folkD ds).map fun p => (ns.map PyData.int).any (isN p), rfl, SqL.of hD', _, rfl, ?_⟩
                  have eb : ((folkD ds).map fun p => (ns.map PyData.int).any (isN p)).all id = (folkD ds).all fun p => (ns.map PyData.int).any (isN p) := by
                    rw [List.all_map]
                    rfl
                  rw [eb]
                  have s03 := s02.trans s3
                  cases hin : (folkD ds).all fun p => (ns.map PyData.int).any (isN p) with
                  | false =>
                    refine iteT ?_
                    have q' := q _ s03
                    rw [show lotOf (.list (ns.map PyData.int)) = ns.map PyData.int from rfl, st, hin] at q'
                    exact q'
                  | true =>
                    rw [hin, Bool.true_and] at st
                    refine iteF ?_
                    have h3 := s03 _ _ ha
                    refine ⟨_, rfl, a, rfl, ⟨_, SqL.of h3⟩, fun D4 hD4 => ?_⟩
                    refine lc_list (K := K) (a := a) (xs := xs) (fun i H' => Same H3 H' ∧ H' D4 = some (.lst (((ds.take i).map fun t => decide (0 < shiftD t)).map V.bl))) ⟨same_new hD4, upd_same⟩ (fun i H' _ z => SqL.of (z.1 _ _ h3)) ?_ ?_
                    · rintro i y H' hi ⟨s4, h4⟩
                      obtain ⟨dy, e1, d1⟩ := hs.get hi
                      obtain ⟨u, v, c, rfl⟩ := tri_of (tri _ (List.mem_of_getElem? e1))
                      replace d1 := Dt.same (s03.trans s4) _ _ d1
                      cases d1 with
                      | @tup t ys _ ht hy =>
                        have ey : ys = [.int u, .int v, .int c] := vals_of (ns := [u, v, c]) hy
                        subst ey
                        ·
                          refine ⟨t, _, rfl, SqT.of ht, rfl, _, _, rfl, _, _, rfl, _, _, rfl, rfl, rfl, yes_of ⟨_, rfl, _, _, rfl, rfl, _, h4, ?_, fun b o z => by rw [upd_ne (ne_of_none z hD4)]; exact s4 b o z, ?_⟩⟩
                          · rw [List.length_map, List.length_map, List.length_take]
                            exact small1000 (by omega)
                          · rw [upd_same, take_more (fun t => decide (0 < shiftD t)) e1, List.map_append]
                            rfl
                    · rintro H4 ⟨s4, h4⟩
                      rw [hl, List.take_length] at h4
                      refine ⟨D4, ds.map fun t => decide (0 < shiftD t), rfl, SqL.of h4, _, rfl, ?_⟩
                      have ec : (ds.map fun t => decide (0 < shiftD t)).all id = ds.all fun t => decide (0 < shiftD t) := by
                        rw [List.all_map]
                        rfl
                      rw [ec]
                      have s04 := s03.trans s4
                      cases hsh : ds.all fun t => decide (0 < shiftD t) with
                      | false =>
                        refine iteF ?_
                        have q' := q _ s04
                        rw [show lotOf (.list (ns.map PyData.int)) = ns.map PyData.int from rfl, st, hsh] at q'
                        exact q'
                      | true =>
                        rw [hsh, Bool.true_and] at st
                        refine iteT ?_
                        have lz : xs.length = ds.length := hl
                        have f1 : (xs.zip ds).map (·.1) = xs := List.map_fst_zip (by omega)
                        have f2 : (xs.zip ds).map (·.2) = ds := List.map_snd_zip (by omega)
                        have hz : ∀ b ∈ xs.zip ds, triD b.2 = true ∧ Dt K H b.1 b.2 := fun b hb => by
                          obtain ⟨i, hi⟩ := List.getElem?_of_mem hb
                          obtain ⟨h1, h2⟩ := List.getElem?_zip_eq_some.mp hi
                          obtain ⟨d', h3, h4⟩ := hs.get h1
                          rw [h2] at h3
                          cases h3
                          exact ⟨tri _ (List.mem_of_getElem? h2), h4⟩
                        have h4a := s04 _ _ ha
                        refine ⟨_, rfl, _, rfl, a, xs.zip ds, rfl, ?_, fun b hb => ?_, ?_, ?_, fun b hb => depth_tri (hz b hb).1, fun p np => ?_⟩
                        · rw [f1]
                          exact SqL.of h4a
                        · exact Dt.toDp _ _ (plain_tri (hz b hb).1) (Dt.same s04 _ _ (hz b hb).2)
                        · rw [f2]
                          exact fun d hd d' hd' => alike_tri (tri d hd) (tri d' hd')
                        · rw [f2]
                          exact .inl fun d hd => by
                            obtain ⟨u, v, c, rfl⟩ := tri_of (tri d hd)
                            exact ⟨_, _, rfl⟩
                        · obtain ⟨H5, e5, s5, f5⟩ := gen H4 np (.lst (((xs.zip ds).mergeSort (PySem.W.dataLe false (·.2))).map (·.1)))
                          rw [e5]
                          clear e5
                          have s05 := s04.trans s5
                          have dp1 : Dp K H5 (.ref a) (.list ds) := .lst (SqL.of (s05 _ _ ha)) (Dts.toDp _ _ (plainA_of fun x hx => plain_tri (tri x hx)) (Dts.same s05 _ _ hs))
                          have dall : ∀ l : List (V × PyData), (∀ b ∈ l, triD b.2 = true ∧ Dt K H b.1 b.2) → DpAll K H5 (l.map (·.1)) (l.map (·.2)) := by
                            intro l
                            induction l with
                            | nil => exact fun _ => .nil
                            | cons b l ih => exact fun h => .cons (Dt.toDp _ _ (plain_tri (h b (List.mem_cons_self ..)).1) (Dt.same s05 _ _ (h b (List.mem_cons_self ..)).2)) (ih fun x hx => h x (List.mem_cons_of_mem _ hx))
                          have dp2 : Dp K H5 (.ref p) (.list (ds.mergeSort leT)) := by
                            refine .lst (SqL.of f5) ?_
                            have e := sort_tri (bs := xs.zip ds) fun b hb => (hz b hb).1
                            rw [f2] at e
                            rw [← e]
                            exact dall _ fun b hb => hz b ((List.mergeSort_perm _ _).mem_iff.mp hb)
                          refine ⟨.list ds, .list (ds.mergeSort leT), dp1, dp2, shaped_tris tri, shaped_tris fun x hx => tri x ((List.mergeSort_perm _ _).mem_iff.mp hx), ?_⟩
                          rw [same_sorted tri]
                          have q' := q _ s05
                          rw [show lotOf (.list (ns.map PyData.int)) = ns.map PyData.int from rfl, st] at q'
                          exact q'
              · have lt : (((folkD ds).eraseDups.length : Nat) : Int) < ((folkD ds).length : Nat) := by
                  have := dn.mpr nd
                  omega
                rw [decide_eq_true lt]
                refine iteT (iteT ?_)
                have q' := q _ s02
                rw [show lotOf (.list (ns.map PyData.int)) = ns.map PyData.int from rfl, st, decide_eq_false nd] at q'
                exact q'
    · have z : isList d = false ∧ stateD k (lotOf (.list (ns.map PyData.int))) d = false := by
        cases d with
        | list ds => exact (e ⟨ds, rfl⟩).elim
        | _ => exact ⟨rfl, rfl⟩
      rw [z.1]
      refine iteT (iteT ?_)
      have q' := q _ (Same.refl _)
      rw [z.2] at q'
      exact q'
end
end K56

/-! dict comprehensions whose keys are tuples of ints and texts -/
namespace GL
open PySem PySem.Spec PyProof.Rows L2
section
variable {X : Cx}
theorem d_putT {pins : List (Addr × Obj)} {σ : L2.St} {H : Hp} {s : Shared} {E : Value → Shared → Prop} {D b : Addr} {kvs : List (List Key × V)} {k : List Key} {v : V} {r : Value} {Q : Unit → Shared → Prop} (hu : (tupleKind (mixKind X.prog X.w)).room X.A) (I : Inv X pins σ H s) (hD : H D = some (.dT kvs)) (hz : kvs.length < sizeLine)
    (eb : H b = some (.tup (k.map kV))) (rv : RelV v r) (h : ∀ s', Inv X pins σ (upd H D (.dT (putK kvs k v))) s' → Q () s') : wpAny (model X.prog X.w) X.A (dictSet D (.ref b) r) Q E s := by
  obtain ⟨z, hd, xs, rel, dd⟩ := dt_of I.hok hD
  have hx : xs.length ≤ sizeLine := by rw [← Paired.length rel]; exact z
  have hl : (putK kvs k v).length ≤ sizeLine := by have := length_putK kvs k v; omega
  refine wpAny_dictSet_heap (hsz := hx) hu (key_of I.hok eb) dd fun h' dd' hs => h _ ?_
  obtain ⟨q, es, ep, hq, h2, h3, h4, _, h5⟩ := dd'
  refine d_write I (by rw [hD]; exact True.intro) hs ⟨q, hq⟩ ⟨hl, hd, _, (rel.put k eb rv).keeps fun c ys ec => ?_, q, es, ep, hq, h2, h3, h4, h5⟩
  rw [upd_ne (ne_of ec hD (fun z => nomatch z))]
  exact ec
/-- what a turn leaves: the dict with one more, or as it was -/
noncomputable def DTurn (tk tv : TE) (D : Addr) (σ : L2.St) (Nx : Hp → Prop) (b : Bool) (H : Hp) : Prop :=
  if b = true then tk σ H fun y H4 => tv σ H4 fun z H5 => ∃ kvs k p, y = .ref p ∧ H5 p = some (.tup (k.map kV)) ∧ H5 D = some (.dT kvs) ∧ kvs.length < sizeLine ∧ Nx (upd H5 D (.dT (putK kvs k z))) else Nx H
/-- {(..): v for target in iter if ..} -/
noncomputable def tDcT (wi : TI) (g : TG) (tt : TT) (tk tv : TE) (vs : List Nat) : TE := fun σ H Q => wi σ H fun J H1 => ∀ D, H1 D = none → ∃ W : Nat → Nat → Hp → Prop, (∃ m, W 0 m (upd H1 D (.dT []))) ∧ ∀ i m H, W i m H →
  (J.stop i H ∧ Q (.ref D) H) ∨ (J.go i H ∧ ∃ Nx : Hp → Prop, (∀ H', Nx H' → ∃ m', m' < m ∧ W (i + 1) m' H') ∧ ∀ x H', J.yld i H x H' → g x (wipe σ vs) H' fun σ2 H2 => wipe σ2 vs = wipe σ vs ∧ tt σ2 H2 fun b H3 => DTurn tk tv D σ2 Nx b H3)
theorem dcT_core {pins : List (Addr × Obj)} {s : Shared} {σ : L2.St} {H : Hp} {Q : VK} {kx vx tg iter : Expr} {ifs : List Expr} {scope : Scope} {own : List (Str × Nat)} {pos pos' : Pos} {wi : TI} {g : TG} {tt : TT} {tk tv : TE} {use : Option (Value → Sem Unit)} {Qf : Value → Shared → Prop}
    (I : Inv X pins σ H s) (hu : X.A.units + 65 < cLine) (hc : X.calm = true) (hN : X.N.Nodup) (hi : PI X tg iter wi) (ok : BlkOk X.N X.env.scope scope own)
    (hg : ∀ (s : Shared) (H : Hp) (C : Addr) (cl : List (Str × Addr)) (fp : List Addr), PG (X.blk s H scope (compEnvC scope cl C X.env) fp) tg g) (ht : ∀ (s : Shared) (H : Hp) (C : Addr) (cl : List (Str × Addr)) (fp : List Addr), PTs (X.blk s H scope (compEnvC scope cl C X.env) fp) ifs tt)
    (hk : ∀ (s : Shared) (H : Hp) (C : Addr) (cl : List (Str × Addr)) (fp : List Addr), PE (X.blk s H scope (compEnvC scope cl C X.env) fp) kx tk)
    (he : ∀ (s : Shared) (H : Hp) (C : Addr) (cl : List (Str × Addr)) (fp : List Addr), PE (X.blk s H scope (compEnvC scope cl C X.env) fp) vx tv) (hs : ∀ x, foldedSetIterable iter X.env x = pure x) (h : tDcT wi g tt tk tv (own.map (·.2)) σ H Q)
    (hRR : ∀ D C s' m H', Inv X pins σ H' s' → Q (.ref D) H' → s'.heap.Ns C m → FpOk X pins H' C → compPost (model X.prog X.w) X.A X.xe use Qf (.ref D) C (.ok .next) s') :
    wpAny (model X.prog X.w) X.A (comprehension (.DictComp kx vx [⟨tg, iter, ifs, 0⟩] scope pos) scope X.env pos' newDict false (eval iter X.env) use) Qf X.xe s := by
  have fr : ∀ y ∈ scope.names, y.2 = .free → ∃ c, X.env.cells.lookup y.1 = some c := fun y hy e => (ok.free y hy e).elim (fun k => I.ok.has _ (.inl k)) fun k => I.ok.has _ (.inr k)
  refine wpAny_comprehension_free (use := use) rfl hs (closure_ok fr) ok.kind (fun y hy e => by rw [ok.uniq y hy, e]) (thn (hi.run pins s σ H _ I h) fun xv s1 hx => thn hx fun itv s2 h2 => ?_)
  obtain ⟨it, fp, tn, J, H2, rfl, I2, T, st2, f2, q⟩ := h2
  refine wpAny_newObj_type (newEnv_comp ?_)
  generalize hD : s2.heap.objs.size = D
  obtain ⟨W, ⟨m0, w0⟩, turn⟩ := q D (I2.hok.fresh (Nat.le_of_eq hD))
  generalize hs3 : ({ s2 with heap := s2.heap.push { cls := .type "dict", data := .dict #[] } } : Shared) = s3
  have h3 : s3.heap = s2.heap.push { cls := .type "dict", data := .dict #[] } := by rw [← hs3]
  have I3 : Inv X pins σ (upd H2 D (.dT [])) s3 := by
    rw [← hs3]
    exact I2.laid (t' := s2.toks) (fun b o e => Heap.get?_push_of_some _ e) (Nat.le_of_eq hD) (by rw [← hD]; exact dt_empty s2.heap I2.big)
  have f3 : ∀ b ∈ fp, FpOk X pins (upd H2 D (.dT [])) b ∧ b < s3.heap.objs.size := fun b hb => by
    obtain ⟨o, e, _⟩ := T.obj _ _ st2 b hb
    have lt : b < s2.heap.objs.size := Heap.lt_size e
    exact ⟨⟨by rw [upd_ne (by rw [← hD]; exact Nat.ne_of_lt lt)]; exact (f2 b hb).1, (f2 b hb).2⟩, by rw [h3, Heap.size_push]; exact Nat.lt_succ_of_lt lt⟩
  have st3 : tn 0 s3.heap := T.keep _ _ _ st2 fun b _ o e => by rw [h3]; exact Heap.get?_push_of_some _ e
  have I4 := block_start I3 ok hN f3
  obtain ⟨cl, hcl⟩ : ∃ cl, cellsFrom (s3.heap.objs.size + 1) scope.names (cloFrom X.env.cells scope.names []) = cl := ⟨_, rfl⟩
  have pg := hg s3 (upd H2 D (.dT [])) s3.heap.objs.size cl fp
  have pt := ht s3 (upd H2 D (.dT [])) s3.heap.objs.size cl fp
  have pk := hk s3 (upd H2 D (.dT [])) s3.heap.objs.size cl fp
  have pe := he s3 (upd H2 D (.dT [])) s3.heap.objs.size cl fp
  show codeAny _ _ (.compStart (.DictComp kx vx [⟨tg, iter, ifs, 0⟩] scope pos) 0 (.ref it) (.ref D) (compEnvC scope (cellsFrom (s3.heap.objs.size + 1) scope.names (cloFrom X.env.cells scope.names [])) s3.heap.objs.size X.env)) (compPost (model X.prog X.w) X.A X.xe use Qf (.ref D) s3.heap.objs.size) { s3 with heap := pushCells (s3.heap.push { cls := .type "dict", data := .dict #[] }) scope.names }
  rw [hcl] at I4 ⊢
  have none3 : ∀ b ∈ fp, (upd H2 D (.dT [])) b = none := fun b hb => (f3 b hb).1.1
  obtain ⟨ce, hce⟩ : ∃ ce, compEnvC scope cl s3.heap.objs.size X.env = ce := ⟨_, rfl⟩
  have cL : ce.locals = s3.heap.objs.size := by rw [← hce]; rfl
  rw [hce] at I4 pg pt pk pe ⊢
  generalize hH3 : upd H2 D (.dT []) = H3 at I3 I4 pg pt pk pe w0 none3 f3
  obtain ⟨s4, hs4⟩ : ∃ s4 : Shared, ({ s3 with heap := pushCells (s3.heap.push { cls := .type "dict", data := .dict #[] }) scope.names } : Shared) = s4 := ⟨_, rfl⟩
  rw [hs4] at I4 ⊢
  have st4 : tn 0 s4.heap := T.keep _ _ _ st3 fun b _ o e => by rw [← hs4]; exact pushCells_keeps _ _ _ _ (Heap.get?_push_of_some _ e)
  have stay : ∀ {σ' : L2.St} {H' : Hp} {s' : Shared}, Inv (X.blk s3 H3 scope ce fp) [] σ' H' s' → (∀ b ∈ fp, H' b = none) → ∀ b ∈ fp, FpOk (X.blk s3 H3 scope ce fp) [] H' b := fun {σ' H' s'} I' hn b hb =>
    ⟨hn b hb, (I'.ok.exf b hb).1, I'.ok.exfs b hb, .inl hb, fun x c e => (I'.ok.exf b hb).2 x c e, fun p hp => absurd (show p ∈ ([] : List (Addr × Obj)) ++ [] from hp) (by simp)⟩
  have hu2 : (tupleKind (mixKind X.prog X.w)).room (X.blk s3 H3 scope ce fp).A := by
    show X.A.units < cLine
    omega
  have loop : codeAny (model X.prog X.w) X.A (.compLoop (.DictComp kx vx [⟨tg, iter, ifs, 0⟩] scope pos) 0 (.ref it) (.ref D) ce) (compPost (model X.prog X.w) X.A X.xe use Qf (.ref D) s3.heap.objs.size) s4 := by
    refine compLoop_anyD (fun n s' => ∃ i H', Inv (X.blk s3 H3 scope ce fp) [] (wipe σ (own.map (·.2))) H' s' ∧ tn i s'.heap ∧ (∀ b ∈ fp, H' b = none) ∧ W i n H') ?_ m0 ⟨0, H3, I4, st4, none3, w0⟩
    rintro n s5 ⟨i, H5, I5, st5, n5, w5⟩
    rcases turn i n H5 w5 with ⟨stop, qq⟩ | ⟨go, Nx, hNx, step⟩
    · refine thnF (T.done (X.blk s3 H3 scope ce fp) rfl rfl rfl hc i [] s5 _ H5 (fun _ _ => False) I5 (stay I5 n5) st5 stop) fun r s6 ⟨hr, I6⟩ => ?_
      subst hr
      have I7 : Inv X pins σ H5 s6 := I3.call' (ch := fp) I6.os I6.base I6.hok I6.bare fun b hb => ⟨(f3 b hb).1.2.2.2.1, (f3 b hb).1.2.1, (f3 b hb).1.2.2.2.2.1, (f3 b hb).1.2.2.2.2.2⟩
      have nC : H5 s3.heap.objs.size = none := by
        have z : H5 ce.locals = none := I6.free
        rw [cL] at z
        exact z
      obtain ⟨m, hn, _⟩ := I6.loc
      replace hn : s6.heap.Ns ce.locals m := hn
      rw [cL] at hn
      exact hRR D s3.heap.objs.size s6 m H5 I7 qq hn (I3.fpOk (Nat.le_refl _) nC)
    · refine thnF (T.item (X.blk s3 H3 scope ce fp) rfl rfl rfl hc i [] s5 _ H5 (fun _ _ => False) I5 (stay I5 n5) st5 go) fun r s6 ⟨u, hr, h6⟩ => ?_
      subst hr
      refine thnF h6 fun _ s7 ⟨x, H7, I7, r7, y7, st7, n7⟩ => ?_
      refine thnF (pg.run _ s7 _ H7 x u _ (I7.pinned (stay I7 n7) (T.obj _ _ st7)) r7 (step x H7 y7)) fun _ s8 ⟨σ8, H8, I8, hw8, q8⟩ => ?_
      refine thnF (pt.run _ s8 σ8 H8 _ I8 q8) fun b s9 ⟨H9, I9, q9⟩ => ?_
      have fin : ∀ {s' : Shared} {H' : Hp}, Inv (X.blk s3 H3 scope ce fp) ([] ++ pinsAt fp s7.heap) σ8 H' s' → Nx H' → ∃ m, m < n ∧ ∃ i H', Inv (X.blk s3 H3 scope ce fp) [] (wipe σ (own.map (·.2))) H' s' ∧ tn i s'.heap ∧ (∀ b ∈ fp, H' b = none) ∧ W i m H' := fun {s' H'} I' nx => by
        obtain ⟨m', hm, w'⟩ := hNx H' nx
        have pin : ∀ b ∈ fp, ∀ o, s7.heap.get? b = some o → s'.heap.get? b = some o ∧ H' b = none := fun b hb o e =>
          let z := I'.pin (b, o) (List.mem_append_right _ (List.mem_append_right _ (mem_pinsAt hb e)))
          ⟨z.1, z.2.1⟩
        refine ⟨m', hm, i + 1, H', (I'.unpinned (pins := [])).weak (by rw [← hw8, wipe_length]) (fun j v e => ?_), T.keep _ _ _ st7 fun b hb o e => (pin b hb o e).1, fun b hb => ?_, w'⟩
        · rw [← hw8] at e
          exact (wipe_some e).1
        · obtain ⟨o, e, _⟩ := T.obj _ _ st7 b hb
          exact (pin b hb o e).2
      cases b with
      | false => exact fin I9 (by simpa [DTurn] using q9)
      | true =>
        unfold DTurn at q9
        rw [if_pos rfl] at q9
        refine thnF (pk.run _ s9 σ8 H9 _ I9 q9) fun z s10 ⟨yk, H10, I10, r10, q10⟩ => ?_
        refine thnF (pe.run _ s10 σ8 H10 _ I10 q10) fun z2 s11 ⟨yv, H11, I11, r11, kvs, k, p, ek, hp, hD11, hz11, nx⟩ => ?_
        subst ek
        cases r10
        exact d_putT (X := X.blk s3 H3 scope ce fp) hu2 I11 hD11 hz11 hp r11 fun s12 I12 => fin I12 nx
  exact codeAny_compStart_dict loop (T.self X.A 0 _ _ _ st4 loop)
theorem pe_dcT {kx vx tg iter : Expr} {ifs : List Expr} {scope : Scope} {own : List (Str × Nat)} {pos : Pos} {wi : TI} {g : TG} {tt : TT} {tk tv : TE} (hu : X.A.units + 65 < cLine) (hc : X.calm = true) (hN : X.N.Nodup) (hi : PI X tg iter wi) (ok : BlkOk X.N X.env.scope scope own)
    (hg : ∀ (s : Shared) (H : Hp) (C : Addr) (cl : List (Str × Addr)) (fp : List Addr), PG (X.blk s H scope (compEnvC scope cl C X.env) fp) tg g) (ht : ∀ (s : Shared) (H : Hp) (C : Addr) (cl : List (Str × Addr)) (fp : List Addr), PTs (X.blk s H scope (compEnvC scope cl C X.env) fp) ifs tt)
    (hk : ∀ (s : Shared) (H : Hp) (C : Addr) (cl : List (Str × Addr)) (fp : List Addr), PE (X.blk s H scope (compEnvC scope cl C X.env) fp) kx tk)
    (he : ∀ (s : Shared) (H : Hp) (C : Addr) (cl : List (Str × Addr)) (fp : List Addr), PE (X.blk s H scope (compEnvC scope cl C X.env) fp) vx tv) (hs : ∀ x, foldedSetIterable iter X.env x = pure x := by intro _; rfl) :
    PE X (.DictComp kx vx [⟨tg, iter, ifs, 0⟩] scope pos) (tDcT wi g tt tk tv (own.map (·.2))) := by
  refine ⟨fun pins s σ H Q I h => ?_⟩
  rw [arm_eval_DictComp]
  refine dcT_core I hu hc hN hi ok hg ht hk he hs h fun D C s' m H' I' q hn f => ⟨m, hn, fun h'' sb => ?_⟩
  obtain ⟨f0, f1, f2, f3, f4, f5⟩ := f
  exact ⟨.ref D, H', I'.turned (t' := s'.toks) (fun b o hb e => (sb.2 b hb).trans e) f0 f1 f3 f4 f5, rfl, q⟩
/-- walked -/
theorem dcT_it {J : It} {n : Nat} {G : Hp → Prop} {Y : Nat → Hp → V → Hp → Prop} (w : Walk J n G Y) {g : TG} {tt : TT} {tk tv : TE} {vs : List Nat} {σ : L2.St} {H1 : Hp} {D : Addr} {Qd : Hp → Prop} (Pv : Nat → Hp → Prop) (h0 : Pv 0 (upd H1 D (.dT []))) (hl : ∀ i H, i ≤ n → Pv i H → G H)
    (hs : ∀ i x H H', i < n → Pv i H → Y i H x H' → g x (wipe σ vs) H' fun σ2 H2 => wipe σ2 vs = wipe σ vs ∧ tt σ2 H2 fun b H3 => DTurn tk tv D σ2 (Pv (i + 1)) b H3) (hd : ∀ H, Pv n H → Qd H) :
    ∃ W : Nat → Nat → Hp → Prop, (∃ m, W 0 m (upd H1 D (.dT []))) ∧ ∀ i m H, W i m H →
      (J.stop i H ∧ Qd H) ∨ (J.go i H ∧ ∃ Nx : Hp → Prop, (∀ H', Nx H' → ∃ m', m' < m ∧ W (i + 1) m' H') ∧ ∀ x H', J.yld i H x H' → g x (wipe σ vs) H' fun σ2 H2 => wipe σ2 vs = wipe σ vs ∧ tt σ2 H2 fun b H3 => DTurn tk tv D σ2 Nx b H3) := by
  refine ⟨fun i m H => m = n - i ∧ i ≤ n ∧ Pv i H, ⟨n, by simp, Nat.zero_le _, h0⟩, ?_⟩
  rintro i m H ⟨rfl, hi, p⟩
  by_cases hlt : i < n
  · exact .inr ⟨w.goes i H hlt (hl i H hi p), Pv (i + 1), fun H' p' => ⟨n - (i + 1), by omega, rfl, hlt, p'⟩, fun x H' y => hs i x H H' hlt p (w.yields i H x H' hlt (hl i H hi p) y)⟩
  · have e : i = n := by omega
    subst e
    exact .inl ⟨w.stops H (hl _ _ hi p), hd H p⟩
end
end GL

/-! shuffles that swap two: their cycles, their parity -/
namespace GL
open PySem PySem.Spec PyProof.Rows
open L2 hiding spCell
/-- 1, 0, 2, .., n - 1 -/
noncomputable def swapL (n : Nat) : List Nat := 1 :: 0 :: (List.range n).drop 2
noncomputable def swN : Nat → Nat
  | 0 => 1
  | 1 => 0
  | p => p
theorem swap_len {n : Nat} (h : 2 ≤ n) : (swapL n).length = n := by
  unfold swapL
  rw [List.length_cons, List.length_cons, List.length_drop, List.length_range]
  omega
theorem swap_at {n p : Nat} (h : 2 ≤ n) (hp : p < n) : (natV (swapL n))[p]? = some (.int ((swN p : Nat) : Int)) := by
  unfold natV swapL
  match p, hp with
  | 0, _ => rfl
  | 1, _ => rfl
  | p + 2, hp =>
    rw [List.getElem?_map, List.getElem?_cons_succ, List.getElem?_cons_succ, List.getElem?_drop, List.getElem?_range (by omega)]
    show some (V.int ((2 + p : Nat) : Int)) = some (V.int ((p + 2 : Nat) : Int))
    rw [Nat.add_comm]
/-- the first m of n are met -/
noncomputable def metV (n m : Nat) : List V := (List.range n).map fun j => V.bl (decide (j < m))
theorem met_len (n m : Nat) : (metV n m).length = n := by
  unfold metV
  rw [List.length_map, List.length_range]
theorem met_at {n m p : Nat} (hp : p < n) : (metV n m)[p]? = some (.bl (decide (p < m))) := by
  unfold metV
  rw [List.getElem?_map, List.getElem?_range hp]
  rfl
theorem met_set {n m : Nat} : (metV n m).set m (.bl true) = metV n (m + 1) := by
  refine List.ext_getElem? fun j => ?_
  by_cases hj : j < n
  · rw [met_at hj]
    by_cases e : m = j
    · subst e
      rw [List.getElem?_set_self (by rw [met_len]; exact hj), decide_eq_true (Nat.lt_succ_self m)]
    · rw [List.getElem?_set_ne e, met_at hj]
      congr 2
      exact decide_eq_decide.mpr ⟨fun z => by omega, fun z => by omega⟩
  · rw [List.getElem?_eq_none (by rw [List.length_set, met_len]; omega), List.getElem?_eq_none (by rw [met_len]; omega)]
theorem met_none (n : Nat) : List.replicate n (V.bl false) = metV n 0 := by
  unfold metV
  refine List.ext_getElem? fun j => ?_
  by_cases hj : j < n
  · rw [List.getElem?_replicate_of_lt hj, List.getElem?_map, List.getElem?_range hj]
    rfl
  · rw [List.getElem?_eq_none (by rw [List.length_replicate]; omega), List.getElem?_eq_none (by rw [List.length_map, List.length_range]; omega)]
/-- a while that runs N times, with what holds ahead of each turn -/
noncomputable def WS (N : Nat) (S : Nat → L2.St → Hp → Prop) : Nat → L2.St → Hp → Prop := fun m σ H => ∃ i, m = N - i ∧ i ≤ N ∧ S i σ H
theorem ws_next {N i : Nat} {S : Nat → L2.St → Hp → Prop} (h : i < N) : ∀ σ' H', S (i + 1) σ' H' → ∃ m', m' < N - i ∧ WS N S m' σ' H' := fun σ' H' s => ⟨N - (i + 1), by omega, i + 1, rfl, h, s⟩
theorem while_ws {c : TT} {tb : TS} {D : Ends} {σ : L2.St} {H : Hp} (N : Nat) (S : Nat → L2.St → Hp → Prop) (h0 : S 0 σ H)
    (step : ∀ i σ H, i < N → S i σ H → c σ H fun b H1 => if b = true then ∃ Nx : L2.St → Hp → Prop, (∀ σ' H', Nx σ' H' → ∃ m', m' < N - i ∧ WS N S m' σ' H') ∧ tb { D with nx := Nx, ct := Nx, bk := D.nx } σ H1 else D.nx σ H1)
    (done : ∀ σ H, S N σ H → c σ H fun b H1 => if b = true then ∃ Nx : L2.St → Hp → Prop, (∀ σ' H', Nx σ' H' → ∃ m', m' < N - N ∧ WS N S m' σ' H') ∧ tb { D with nx := Nx, ct := Nx, bk := D.nx } σ H1 else D.nx σ H1) : tWhile c tb D σ H := by
  refine ⟨WS N S, ⟨N, 0, rfl, Nat.zero_le _, h0⟩, ?_⟩
  rintro m σ H ⟨i, rfl, hi, s⟩
  by_cases h : i < N
  · exact step i σ H h s
  · have e : i = N := by omega
    subst e
    exact done σ H s
/-! ### lots by size -/
noncomputable def lotsN : Nat → List (List Nat)
  | 2 => [[0, 1]]
  | _ => [[0, 1], [0, 2], [1, 2], [0, 1, 2]]
noncomputable def lotsP (n : Nat) : PyData := .list ((lotsN n).map fun l => rowP (nums l))
/-- the lots of 2, .., i + 1 of n people -/
noncomputable def lotsTo (n i : Nat) : List (List Nat) := ((List.range i).map fun j => Cmb.choices n (2 + j)).flatten
theorem lots_all {n : Nat} (h : n = 2 ∨ n = 3) : lotsTo n (n - 1) = lotsN n := by
  rcases h with rfl | rfl <;> decide +kernel
theorem lots_few {n i : Nat} (h : n = 2 ∨ n = 3) (hi : i < n - 1) : (lotsTo n i).length + (Cmb.choices n (2 + i)).length ≤ 4 := by
  rcases h with rfl | rfl
  · obtain rfl : i = 0 := by omega
    decide +kernel
  · obtain rfl | rfl : i = 0 ∨ i = 1 := by omega
    · decide +kernel
    · decide +kernel
theorem lots_more (n i : Nat) : lotsTo n (i + 1) = lotsTo n i ++ Cmb.choices n (2 + i) := by
  unfold lotsTo
  rw [List.range_succ, List.map_append, List.flatten_append]
  simp
noncomputable def spLotsB : Sp := fun vs H Q _ => ∃ (a : Addr) (n : Nat), vs = [.ref a] ∧ H a = some (.lst (natV (List.range n))) ∧ (n = 2 ∨ n = 3) ∧ ∀ p H', Same H H' → H p = none → (∀ K, Dt K H' (.ref p) (lotsP n)) → Q (.ref p) H'
noncomputable def spCycles : Sp := fun vs H Q _ => ∃ (a : Addr) (n : Nat), vs = [.ref a] ∧ H a = some (.lst (natV (swapL n))) ∧ 2 ≤ n ∧ n ≤ 20 ∧ ∀ p xs H', Same H H' → H' p = some (.lst xs) → xs.length = n - 1 → Q (.ref p) H'
noncomputable def spOdd : Sp := fun vs H Q _ => ∃ (a : Addr) (n : Nat), vs = [.ref a] ∧ H a = some (.lst (natV (swapL n))) ∧ 2 ≤ n ∧ n ≤ 20 ∧ ∀ H', Same H H' → Q (.bl true) H'
noncomputable def strideT : List (List Key × V) := [([.inl 0, .inl 1], .int 0), ([.inl 0, .inl 2], .int 0), ([.inl 1, .inl 2], .int 0)]
noncomputable def spFits : Sp := fun vs H Q _ => ∃ (k : Int) (l t S : Addr), vs = [.int k, .ref l, .ref t, .ref S] ∧ 2 ≤ k ∧ k ≤ 4 ∧
  ((∃ i j : Int, H l = some (.lst [.int i, .int j]) ∧ H t = some (.lst (natV (List.range k.toNat))) ∧ ∀ H', Same H H' → Q (.bl true) H') ∨
    (H l = some (.lst [.int 0, .int 1, .int 2]) ∧ H t = some (.lst (natV (swapL (3 * k.toNat - 2)))) ∧ H S = some (.dT strideT) ∧ ∀ H', Same H H' → Q (.bl false) H'))
theorem dt_nats {K : PySem.W.Frag} {H : Hp} {v : V} {l : List Nat} (h : Dt K H v (rowP (nums l))) : ∃ r, v = .ref r ∧ H r = some (.lst (natV l)) := by
  obtain ⟨r, xs, rfl, hr, hx⟩ := dt_list h
  rw [vals_of hx, ← natV_nums] at hr
  exact ⟨r, rfl, hr⟩
noncomputable abbrev idP (k : Int) : PyData := rowP (nums (List.range k.toNat))
theorem fam_cases {k : Int} {ds : List PyData} (k4 : k ≤ 4) (l4 : ds.length = 4) (h : famBad k (.list ds)) : ∃ d3, ds = [idP k, idP k, idP k, d3] ∧ Brief d3 ∧ (orderD (3 * k.toNat - 2) d3 = false ∨ d3 = rowP (nums (swapL (3 * k.toNat - 2)))) := by
  rcases h with (h | h) | ⟨d3, e, b, o⟩ | e
  · cases h
  · exact absurd l4 h
  · cases e
    exact ⟨d3, rfl, b, .inl o⟩
  · cases e
    refine ⟨_, rfl, fun ds e => ?_, .inr rfl⟩
    cases e
    have : (swapL (3 * k.toNat - 2)).length ≤ 100 := by
      unfold swapL
      rw [List.length_cons, List.length_cons, List.length_drop, List.length_range]
      omega
    show ((nums (swapL (3 * k.toNat - 2))).map PyData.int).length ≤ 1000
    unfold nums
    rw [List.length_map, List.length_map]
    omega
noncomputable def keyL (l : List Nat) : List Key := l.map fun (j : Nat) => Sum.inl (j : Int)
theorem natV_key (l : List Nat) : natV l = (keyL l).map kV := by
  unfold natV keyL
  rw [List.map_map]
  rfl
theorem put_stride {i : Nat} {ll : List Nat} (h : (lotsN 3)[i]? = some ll) (hi : i < 3) : putK (strideT.take i) (keyL ll) (.int 0) = strideT.take (i + 1) := by
  match i, hi, h with
  | 0, _, h => cases h; rfl
  | 1, _, h => cases h; rfl
  | 2, _, h => cases h; rfl
theorem dturnF {tk tv : TE} {D : Addr} {σ : L2.St} {Nx : Hp → Prop} {H : Hp} (h : Nx H) : DTurn tk tv D σ Nx false H := h
theorem dturnT {tk tv : TE} {D : Addr} {σ : L2.St} {Nx : Hp → Prop} {H : Hp} (h : tk σ H fun y H4 => tv σ H4 fun z H5 => ∃ kvs k p, y = .ref p ∧ H5 p = some (.tup (k.map kV)) ∧ H5 D = some (.dT kvs) ∧ kvs.length < sizeLine ∧ Nx (upd H5 D (.dT (putK kvs k z)))) : DTurn tk tv D σ Nx true H := h
theorem id_brief {k : Int} (k4 : k ≤ 4) : Brief (idP k) := fun ds e => by
  cases e
  unfold nums
  rw [List.length_map, List.length_map, List.length_range]
  omega
theorem ids_ok {k : Int} (k2 : 2 ≤ k) (k4 : k ≤ 4) : orderD k.toNat (idP k) = true ∧ orderD (3 * k.toNat - 2) (rowP (nums (swapL (3 * k.toNat - 2)))) = true := by
  obtain rfl | rfl | rfl : k = 2 ∨ k = 3 ∨ k = 4 := by omega
  all_goals decide +kernel
end GL

namespace K56
open PySem PySem.Spec PyProof.Rows
open L2 hiding spCell rLen
open GL
section
variable {P : Program} {w : World} {K : PySem.W.Frag} {mg : Str → Option Value} {base : Heap}
variable {er : Str → Addr}
noncomputable abbrev sCycles : Stmt := topS 65
noncomputable abbrev nCycles : List Str := ["shuffle", "cycles", "met", "start", "cycle", "place"]
theorem scCycles : FnScope nCycles ["shuffle"] (defScope sCycles) := ⟨rfl, rfl, rfl, by decide +kernel, rfl, by decide +kernel, by decide +kernel⟩
theorem ok_cycles {f : Addr} {fd : FuncData} (F : Fun K "cycles_of" "cycles_of" sCycles f fd) (T : Bi mg) : FnOk P w K mg base CX0 1 f fd ["shuffle"] spCycles := by
  refine F.ok scCycles (fun vs H Q E h => ?_) (fun cdv A outer s H vs Q E hr h => ?_)
  · obtain ⟨a, n, rfl, _⟩ := h
    rfl
  · obtain ⟨a, n, rfl, ha, n2, n20, q⟩ := h
    refine ⟨_, (pss_cons (ps_set (i := 1) scCycles.nd rfl (Or.inl rfl) (pe_lst pa_nil))
      (pss_cons (ps_set (i := 2) scCycles.nd rfl (Or.inl rfl) (pe_op op_rep (pe_lst (pa_cons pe_bl pa_nil)) (pe_callB call_len_seq (by rfl) T.len PySem.boot_len (pa_cons (pv 0) pa_nil))))
      (pss_cons (ps_for PassesOwn.never rfl (pi_range1 (by rfl) T.range (pa_cons (pe_callB call_len_seq (by rfl) T.len PySem.boot_len (pa_cons (pv 0) pa_nil)) pa_nil)) (pg_name (i := 3) scCycles.nd rfl (Or.inl rfl))
        (pss_one (ps_if (pt_not (pt_val (pe_ix ix_list (pv 2) (pv 3) (fun _ _ => rfl))))
          (pss_cons (ps_set (i := 4) scCycles.nd rfl (Or.inl rfl) (pe_lst pa_nil))
          (pss_cons (ps_set (i := 5) scCycles.nd rfl (Or.inl rfl) (pv 3))
          (pss_cons (ps_while PassesOwn.never (pt_not (pt_val (pe_ix ix_list (pv 2) (pv 5) (fun _ _ => rfl))))
            (pss_cons (ps_asg pe_bl
                (pg_sub (pv 2) (pv 5) set_list))
            (pss_cons (ps_expr (pe_bm PySem.F.plainAttrs_list PySem.F.slot_list_append PySem.F.type_list_append mt_append (pv 4) (pa_cons (pv 5) pa_nil)))
            (pss_one (ps_set (i := 5) scCycles.nd rfl (Or.inl rfl) (pe_ix ix_list (pv 0) (pv 5) (fun _ _ => rfl)))))))
          (pss_one (ps_expr (pe_bm PySem.F.plainAttrs_list PySem.F.slot_list_append PySem.F.type_list_append mt_append (pv 1) (pa_cons (pv 4) pa_nil))))))) pss_nil)))
      (pss_one (ps_ret (pv 1)))))), ?_⟩
    have ll : (natV (swapL n)).length = n := by
      unfold natV
      rw [List.length_map, swap_len n2]
    refine ⟨Nat.zero_le _, fun C hC => ?_⟩
    obtain ⟨H1, e1, s1, f1⟩ := gen H hC (.lst [])
    rw [e1]
    clear e1
    refine ⟨one_le, fun B hB => ?_⟩
    obtain ⟨H2, e2, s2, f2⟩ := gen H1 hB (.lst [.bl false])
    rw [e2]
    clear e2
    have s02 := s1.trans s2
    refine ⟨_, rfl, a, _, rfl, .inl (SqL.of (s02 _ _ ha)), B, _, _, rfl, (by rw [ll]), f2, by omega, by omega, (by rw [sizeLine_eq, List.length_singleton, Int.toNat_natCast]; omega), fun M hM => ?_⟩
    rw [Int.toNat_natCast, rep_self, met_none]
    have hMH : H M = none := s02.free hM
    have MC : M ≠ C := fun z => by
      rw [z, s2 _ _ f1] at hM
      cases hM
    obtain ⟨H3, e3, s3, f3⟩ := gen H2 hM (.lst (metV n 0))
    rw [e3]
    clear e3
    have s03 := s02.trans s3
    refine ⟨_, rfl, a, _, rfl, .inl (SqL.of (s03 _ _ ha)), _, rfl, by rw [ll]; omega, by rw [ll]; omega, ?_⟩
    rw [ll, Int.toNat_natCast]
    refine for_it (walk_nat (n := n)) (fun i σ H' => ∃ (y z u : Option V) (cs : List V), σ = [some (.ref a), some (.ref C), some (.ref M), y, z, u] ∧ Same H H' ∧ H' C = some (.lst cs) ∧ cs.length = (if i = 0 then 0 else if i = 1 then 1 else i - 1) ∧ H' M = some (.lst (metV n (if i = 0 then 0 else if i = 1 then 2 else i))))
      ⟨_, _, _, [], rfl, s03, (s2.trans s3) _ _ f1, rfl, f3⟩ (fun _ _ _ _ _ => trivial) ?_ ?_
    · rintro i v σ H4' H4 hi ⟨y, z, u, cs, rfl, s4, c4, lc, m4⟩ ⟨rfl, rfl⟩
      refine gName_by ?_
      refine ⟨_, rfl, _, rfl, M, _, _, _, rfl, rfl, SqL.of m4, at_of (j := i) rfl (met_at hi), _, rfl, ?_⟩
      have MC' : C ≠ M := MC.symm
      by_cases i1 : i = 1
      · subst i1
        exact iteF ⟨_, _, _, cs, rfl, s4, c4, lc, m4⟩
      have em : (if i = 0 then 0 else if i = 1 then 2 else i) = i := by
        by_cases i0 : i = 0
        · rw [if_pos i0, i0]
        · rw [if_neg i0, if_neg i1]
      rw [em] at m4 ⊢
      rw [decide_eq_false (Nat.lt_irrefl i)]
      refine iteT ⟨Nat.zero_le _, fun Y hY => ?_⟩
      obtain ⟨H5, e5, s5, f5⟩ := gen H4 hY (.lst [])
      rw [e5]
      clear e5
      have YM : Y ≠ M := fun z => by
        rw [z, m4] at hY
        cases hY
      have YC : Y ≠ C := fun z => by
        rw [z, c4] at hY
        cases hY
      have hYH : H Y = none := s4.free hY
      obtain ⟨N, p, p0, pN, pNn, pj, eN⟩ : ∃ (N : Nat) (p : Nat → Nat), p 0 = i ∧ p N < i + N ∧ p N < n ∧ (∀ j, j < N → p j = i + j ∧ i + j < n ∧ p (j + 1) = swN (p j)) ∧ i + N = (if i + 1 = 0 then 0 else if i + 1 = 1 then 2 else i + 1) := by
        by_cases i0 : i = 0
        · subst i0
          refine ⟨2, fun j => if j = 1 then 1 else 0, rfl, by decide, (by show 0 < n; omega), fun j hj => ?_, rfl⟩
          obtain rfl | rfl : j = 0 ∨ j = 1 := by omega
          · exact ⟨rfl, by omega, rfl⟩
          · exact ⟨rfl, by omega, rfl⟩
        · have i2 : 2 ≤ i := by omega
          refine ⟨1, fun _ => i, rfl, (by show i < i + 1; omega), hi, fun j hj => ?_, ?_⟩
          · have j0 : j = 0 := by omega
            subst j0
            refine ⟨rfl, hi, ?_⟩
            match i, i2 with
            | i + 2, _ => rfl
          · rw [if_neg (by omega), if_neg (by omega)]
      refine ⟨_, rfl, ?_⟩
      refine while_ws N (fun j σ H' => ∃ ys : List V, σ = [some (.ref a), some (.ref C), some (.ref M), some (.int (i : Nat)), some (.ref Y), some (.int (p j : Nat))] ∧ Same H H' ∧ H' C = some (.lst cs) ∧ H' M = some (.lst (metV n (i + j))) ∧ H' Y = some (.lst ys) ∧ ys.length = j)
        ⟨[], by rw [p0]; rfl, s4.trans s5, s5 _ _ c4, s5 _ _ m4, f5, rfl⟩ ?_ ?_
      · rintro j σ H6 hj ⟨ys, rfl, s6, c6, m6, y6, ly⟩
        obtain ⟨e1, e2, e3⟩ := pj j hj
        refine ⟨_, rfl, _, rfl, M, _, _, _, rfl, rfl, SqL.of m6, at_of (j := p j) rfl (met_at (by omega)), _, rfl, ?_⟩
        rw [decide_eq_false (by omega)]
        refine iteT ⟨_, ws_next hj, ?_⟩
        refine ⟨_, rfl, _, rfl, M, _, _, p j, rfl, rfl, m6, ?_, ?_⟩
        · rw [met_len]
          exact ixN_nat (by omega)
        rw [e1, met_set]
        rw [e1] at e3
        obtain ⟨H7, e7⟩ : ∃ H7, H7 = upd H6 M (.lst (metV n (i + j + 1))) := ⟨_, rfl⟩
        rw [← e7]
        have keep : ∀ b o, b ≠ M → H6 b = some o → H7 b = some o := fun b o nb e => by rw [e7, upd_ne nb]; exact e
        have m7 : H7 M = some (.lst (metV n (i + j + 1))) := by rw [e7, upd_same]
        have s7 : Same H H7 := fun b o e => keep _ _ (ne_of_none e hMH) (s6 _ _ e)
        have y7 := keep _ _ YM y6
        have c7 := keep _ _ MC' c6
        have jn : j < n := by omega
        refine ⟨_, rfl, .inl ⟨rfl, _, SqL.of y7⟩, _, rfl, Y, _, _, rfl, rfl, y7, by rw [ly, sizeLine_eq]; omega, ?_⟩
        obtain ⟨H8, e8⟩ : ∃ H8, H8 = upd H7 Y (.lst (ys ++ [.int ((i + j : Nat) : Int)])) := ⟨_, rfl⟩
        rw [← e8]
        have keep8 : ∀ b o, b ≠ Y → H7 b = some o → H8 b = some o := fun b o nb e => by rw [e8, upd_ne nb]; exact e
        have s8 : Same H H8 := fun b o e => keep8 _ _ (ne_of_none e hYH) (s7 _ _ e)
        refine ⟨_, rfl, _, rfl, a, _, _, _, rfl, rfl, SqL.of (s8 _ _ ha), at_of (j := i + j) rfl (swap_at n2 (by omega)), ?_⟩
        refine ⟨ys ++ [.int ((i + j : Nat) : Int)], by rw [e3]; rfl, s8, keep8 _ _ YC.symm c7, keep8 _ _ YM.symm m7, by rw [e8, upd_same], by rw [List.length_append, ly]; rfl⟩
      · rintro σ H6 ⟨ys, rfl, s6, c6, m6, y6, ly⟩
        refine ⟨_, rfl, _, rfl, M, _, _, _, rfl, rfl, SqL.of m6, at_of (j := p N) rfl (met_at pNn), _, rfl, ?_⟩
        rw [decide_eq_true pN]
        refine iteF ?_
        refine ⟨_, rfl, .inl ⟨rfl, _, SqL.of c6⟩, _, rfl, C, _, _, rfl, rfl, c6, ?_, ?_⟩
        · rw [lc, sizeLine_eq]
          have : ∀ z : Nat, z = (if i = 0 then 0 else if i = 1 then 1 else i - 1) → z < 16777216 := fun z e => by
            subst e
            split
            · decide
            · first
                | omega
                | (split <;> omega)
          exact this _ rfl
        · refine ⟨_, _, _, cs ++ [.ref Y], rfl, fun b o e => ?_, upd_same, ?_, ?_⟩
          · rw [upd_ne (ne_of_none e hC)]
            exact s6 _ _ e
          · rw [List.length_append, lc, if_neg i1]
            show (if i = 0 then 0 else i - 1) + 1 = _
            by_cases i0 : i = 0
            · subst i0
              rfl
            · rw [if_neg i0, if_neg (by omega), if_neg (by omega)]
              omega
          · rw [upd_ne MC, m6, eN]
    · rintro σ H4 ⟨y, z, u, cs, rfl, s4, c4, lc, m4⟩
      refine ⟨_, rfl, q C cs H4 s4 c4 ?_⟩
      rw [lc, if_neg (by omega)]
      split <;> omega
noncomputable abbrev sOdd : Stmt := topS 89
noncomputable abbrev nOdd : List Str := ["shuffle"]
theorem scOdd : FnScope nOdd ["shuffle"] (defScope sOdd) := ⟨rfl, rfl, rfl, by decide +kernel, rfl, by decide +kernel, by decide +kernel⟩
theorem ok_odd {f : Addr} {fd : FuncData} (F : Fun K "is_odd" "is_odd" sOdd f fd) (T : Bi mg) (Ucyclesof : Use P w K mg base "cycles_of" ["shuffle"] spCycles 1) : FnOk P w K mg base CX0 2 f fd ["shuffle"] spOdd := by
  refine F.ok scOdd (fun vs H Q E h => ?_) (fun cdv A outer s H vs Q E hr h => ?_)
  · obtain ⟨a, n, rfl, _⟩ := h
    rfl
  · obtain ⟨a, n, rfl, ha, n2, n20, q⟩ := h
    refine ⟨_, (pss_one (ps_ret (pe_cmpR op_eq (pe_op opN_and (pe_op op_sub (pe_callB call_len_seq (by rfl) T.len PySem.boot_len (pa_cons (pv 0) pa_nil)) (pe_callB call_len_seq (by rfl) T.len PySem.boot_len (pa_cons (pe_use Ucyclesof hr (by rfl) (pa_cons (pv 0) pa_nil)) pa_nil))) pe_int) pe_int (nomark _)))), ?_⟩
    have ll : (natV (swapL n)).length = n := by
      unfold natV
      rw [List.length_map, swap_len n2]
    refine ⟨_, rfl, a, _, rfl, .inl (SqL.of ha), _, rfl, a, n, rfl, ha, n2, n20, fun p xs H1 s1 h1 l1 => ?_⟩
    refine ⟨p, xs, rfl, .inl (SqL.of h1), _, _, rfl, rfl, ?_⟩
    rw [ll, l1]
    refine ⟨1, 1, ?_, rfl, rfl, ?_⟩
    · show V.int (((n : Nat) : Int) - ((n - 1 : Nat) : Int)) = V.int ((1 : Nat) : Int)
      congr 1
      omega
    · have e : decide (V.int (((1 &&& 1 : Nat)) : Int) = V.int 1) = true := by decide
      rw [e]
      exact q H1 s1
noncomputable abbrev sFits : Stmt := topS 90
noncomputable abbrev nFits : List Str := ["kinds", "lot", "told", "strides", "number", "place", "low", "middle", "high", "all_strides"]
theorem scFits : FnScope nFits ["kinds", "lot", "told", "strides"] (defScope sFits) := ⟨rfl, rfl, rfl, by decide +kernel, rfl, by decide +kernel, by decide +kernel⟩
theorem ok_fits {f : Addr} {fd : FuncData} (F : Fun K "fits" "fits" sFits f fd) (T : Bi mg) (Uisodd : Use P w K mg base "is_odd" ["shuffle"] spOdd 2) : FnOk P w K mg base CX0 3 f fd ["kinds", "lot", "told", "strides"] spFits := by
  refine F.ok scFits (fun vs H Q E h => ?_) (fun cdv A outer s H vs Q E hr h => ?_)
  · obtain ⟨k, l, t, S, rfl, _⟩ := h
    rfl
  · obtain ⟨k, l, t, S, rfl, k2, k4, h⟩ := h
    refine ⟨_, (pss_cons (ps_if (pt_cmpR op_eq (pe_callB call_len_seq (by rfl) T.len PySem.boot_len (pa_cons (pv 1) pa_nil)) pe_int (nomark _))
        (pss_one (ps_ret (pe_callB (cr_all rfl) (by rfl) T.all (by decide +kernel) (pa_cons (pe_lc (own := [("number", 4), ("place", 5)]) (g := (gTup K 2 (gCons (gName 4) (gCons (gName 5) gNil)))) (tt := tYes) (te := (tOp rEq (tVar 5) (tOp (rI (fun _ j => 0 < j) fun i j => .int (i % j)) (tOp (rI0 fun i j => .int (i + j)) (tVar 4) (tOp (rIxL K) (tVar 2) (tC (.int 0)))) (tVar 0)))) rfl scFits.nd (pi_enum (by rfl) T.enumerate (pa_cons (pv 2) pa_nil))
            (blkOk_by (N := nFits) (sc := (defScope sFits)) (by decide +kernel)) (fun _ _ _ _ _ => (pg_tup rfl (pgs_cons (pg_name (i := 4) scFits.nd rfl (Or.inl rfl)) (pgs_cons (pg_name (i := 5) scFits.nd rfl (Or.inl rfl)) pgs_nil)))) (fun _ _ _ _ _ => by exact pts_nil)
            (fun _ _ _ _ _ => by exact (pe_cmpR op_eq (pv 5) (pe_op op_mod (pe_op op_add (pv 4) (pe_ix ix_list (pv 2) pe_int (fun _ _ => rfl))) (pv 0)) (nomark _)))) pa_nil)))) pss_nil)
      (pss_cons (ps_if (PW.pt (pw_and (pt_cmpR op_eq (pe_callB call_len_seq (by rfl) T.len PySem.boot_len (pa_cons (pv 1) pa_nil)) pe_int (nomark _)) (pw_and1 (pt_cmpR op_eq (pe_op op_mod (pv 0) pe_int) pe_int (nomark _)))))
        (pss_cons (ps_asg (pv 1)
            (pg_unl rfl (pgs_cons (pg_name (i := 6) scFits.nd rfl (Or.inl rfl)) (pgs_cons (pg_name (i := 7) scFits.nd rfl (Or.inl rfl)) (pgs_cons (pg_name (i := 8) scFits.nd rfl (Or.inl rfl)) pgs_nil)))))
        (pss_cons (ps_set (i := 9) scFits.nd rfl (Or.inl rfl) (pe_op op_add (pe_op op_add (pe_dget (hu_of hr) (pv 3) (pe_tup (pa_cons (pv 6) (pa_cons (pv 7) pa_nil))) (fun _ _ => rfl)) (pe_dget (hu_of hr) (pv 3) (pe_tup (pa_cons (pv 6) (pa_cons (pv 8) pa_nil))) (fun _ _ => rfl))) (pe_dget (hu_of hr) (pv 3) (pe_tup (pa_cons (pv 7) (pa_cons (pv 8) pa_nil))) (fun _ _ => rfl))))
        (pss_one (ps_ret (pe_cmpR op_eq (pe_use Uisodd hr (by rfl) (pa_cons (pv 2) pa_nil)) (pe_cmpR op_eq (pe_op opN_and (pv 9) pe_int) pe_int (nomark _)) (nomark _)))))) pss_nil)
      (pss_one (ps_ret (pe_not (pe_use Uisodd hr (by rfl) (pa_cons (pv 2) pa_nil))))))), ?_⟩
    rcases h with ⟨i0, j0, hl, ht, q⟩ | ⟨hl, ht, hS, q⟩
    · refine ⟨_, rfl, l, _, rfl, .inl (SqL.of hl), rfl, _, rfl, iteT ?_⟩
      have lt : (natV (List.range k.toNat)).length = k.toNat := by
        unfold natV
        rw [List.length_map, List.length_range]
      refine ⟨_, rfl, t, _, rfl, SqL.of ht, fun D hD => ?_⟩
      refine lc_it (walk_enum (K := K) (a := t) (xs := natV (List.range k.toNat))) (fun i H' => Same H H' ∧ H' D = some (.lst ((List.replicate i true).map V.bl))) ⟨same_new hD, upd_same⟩ (fun i H' _ z => SqL.of (z.1 _ _ ht)) ?_ ?_
      · rintro i y H1 H2 hi ⟨s1, h1⟩ ⟨A2, x1, x2, rfl, nA, rfl, e1, e2⟩
        rw [lt] at hi
        have e1' : x1 = .int (i : Nat) := (Option.some.inj e1).symm
        subst e1'
        have e2' : x2 = .int ((i : Nat) : Int) := by
          have e3 : (natV (List.range k.toNat))[i]? = some x2 := e2
          unfold natV at e3
          rw [List.getElem?_map, List.getElem?_range hi] at e3
          exact (Option.some.inj e3).symm
        subst e2'
        have s2 := s1.trans (same_new (o := .tup [.int (i : Nat), .int ((i : Nat) : Int)]) nA)
        refine ⟨A2, [.int (i : Nat), .int ((i : Nat) : Int)], rfl, SqT.of upd_same, rfl, _, _, rfl, _, _, rfl, rfl, rfl, yes_of ?_⟩
        refine ⟨_, rfl, _, rfl, _, rfl, t, _, _, .int 0, rfl, rfl, SqL.of (s2 _ _ ht), at_of (j := 0) rfl ?_, _, _, rfl, rfl, _, rfl, _, _, rfl, rfl, by omega, rfl, ?_⟩
        · unfold natV
          rw [List.getElem?_map, List.getElem?_range (by omega)]
          rfl
        · have em : decide (V.int ((i : Nat) : Int) = V.int ((((i : Nat) : Int) + 0) % k)) = true := by
            refine decide_eq_true ?_
            rw [Int.add_zero, Int.emod_eq_of_lt (by omega) (by omega)]
          show ∃ acc, _
          rw [em]
          refine ⟨_, by rw [upd_ne (ne_of_none h1 nA)]; exact h1, ?_, fun b o e => ?_, ?_⟩
          · rw [List.length_map, List.length_replicate, sizeLine_eq]
            omega
          · rw [upd_ne (ne_of_none e hD)]
            exact s2 _ _ e
          · rw [upd_same, trues_more]
      · rintro H1 ⟨s1, h1⟩
        refine ⟨D, _, rfl, SqL.of h1, ?_⟩
        rw [trues_all]
        exact q _ s1
    · refine ⟨_, rfl, l, _, rfl, .inl (SqL.of hl), rfl, _, rfl, iteF ?_⟩
      refine ⟨_, rfl, l, _, rfl, .inl (SqL.of hl), rfl, _, rfl, iteT ?_⟩
      refine ⟨_, rfl, _, _, rfl, rfl, (by show (0 : Int) < 2; decide), rfl, _, rfl, ?_⟩
      refine ite2 (fun c => ?_) (fun c => ?_)
      · refine ⟨_, rfl, l, _, rfl, SqL.of hl, rfl, _, _, rfl, _, _, rfl, _, _, rfl, rfl, ?_⟩
        have dg : ∀ {H' : Hp} {p : Addr} {a b : Int}, Same H H' → H' p = some (.tup [.int a, .int b]) → valV strideT [.inl a, .inl b] = some (.int 0) → DGet H' S (.ref p) (some (.int 0)) := fun {H' p a b} s' hp e => by
          rw [← e]
          exact DGet.t (k := [.inl a, .inl b]) (s' _ _ hS) hp
        refine ⟨_, rfl, _, rfl, _, rfl, (by show 2 ≤ sizeLine; decide), fun p1 h1 => ?_⟩
        obtain ⟨H1, e1, s1, f1⟩ := gen H h1 (.tup [.int 0, .int 1])
        rw [e1]
        clear e1
        refine ⟨S, .int 0, rfl, dg s1 f1 (by decide), ?_⟩
        refine ⟨_, rfl, _, rfl, _, rfl, (by show 2 ≤ sizeLine; decide), fun p2 h2 => ?_⟩
        obtain ⟨H2, e2, s2, f2⟩ := gen H1 h2 (.tup [.int 0, .int 2])
        rw [e2]
        clear e2
        have s02 := s1.trans s2
        refine ⟨S, .int 0, rfl, dg s02 f2 (by decide), _, _, rfl, rfl, ?_⟩
        refine ⟨_, rfl, _, rfl, _, rfl, (by show 2 ≤ sizeLine; decide), fun p3 h3 => ?_⟩
        obtain ⟨H3, e3, s3, f3⟩ := gen H2 h3 (.tup [.int 1, .int 2])
        rw [e3]
        clear e3
        have s03 := s02.trans s3
        refine ⟨S, .int 0, rfl, dg s03 f3 (by decide), _, _, rfl, rfl, ?_⟩
        refine ⟨_, rfl, t, 3 * k.toNat - 2, rfl, s03 _ _ ht, by omega, by omega, fun H4 s4 => ?_⟩
        refine ⟨_, rfl, 0, 1, rfl, rfl, rfl, rfl, ?_⟩
        exact q H4 (s03.trans s4)
      · refine ⟨_, rfl, t, 3 * k.toNat - 2, rfl, ht, by omega, by omega, fun H1 s1 => ?_⟩
        exact ⟨_, rfl, q H1 s1⟩
noncomputable abbrev sLotsB : Stmt := topS 66
noncomputable abbrev nLotsB : List Str := ["people", "many", "lot"]
theorem scLotsB : FnScope nLotsB ["people"] (defScope sLotsB) := ⟨rfl, rfl, rfl, by decide +kernel, rfl, by decide +kernel, by decide +kernel⟩
theorem ok_lotsB {f : Addr} {fd : FuncData} (F : Fun K "lots_by_size" "lots_by_size" sLotsB f fd) (T : Bi mg) (I : Im mg) : FnOk P w K mg base CX0 1 f fd ["people"] spLotsB := by
  refine F.ok scLotsB (fun vs H Q E h => ?_) (fun cdv A outer s H vs Q E hr h => ?_)
  · obtain ⟨a, n, rfl, _⟩ := h
    rfl
  · obtain ⟨a, n, rfl, ha, n23, q⟩ := h
    refine ⟨_, (pss_one (ps_ret (pe_lc2 (own := [("many", 1), ("lot", 2)]) (vs1 := [2]) (g := (gName 1)) (tt := tYes) (wi1 := (Cmb.iCombL K (tCons (tVar 0) (tCons (tVar 1) tNil)))) (g1 := (gName 2)) (tt1 := tYes) (te := (tCB (rLstT K) (tCons (tVar 2) tNil))) rfl scLotsB.nd (pi_range2 (by rfl) T.range (pa_cons pe_int (pa_cons (pe_op op_add (pe_callB call_len_seq (by rfl) T.len PySem.boot_len (pa_cons (pv 0) pa_nil)) pe_int) pa_nil)))
            (blkOk_by (N := nLotsB) (sc := (defScope sLotsB)) (by decide +kernel)) (by decide) (fun _ _ _ _ _ => (pg_name (i := 1) scLotsB.nd rfl (Or.inl rfl))) (fun _ _ _ _ _ => by exact pts_nil) (fun _ _ _ _ _ => by exact (Cmb.pi_combL (by rfl) I (pa_cons (pv 0) (pa_cons (pv 1) pa_nil)))) (fun _ _ _ _ _ => (pg_name (i := 2) scLotsB.nd rfl (Or.inl rfl))) (fun _ _ _ _ _ => by exact pts_nil)
            (fun _ _ _ _ _ => by exact (pe_callTy call_lstT (by rfl) T.list PyProof.Rows.boot_list (pa_cons (pv 2) pa_nil)))))), ?_⟩
    have ll : (natV (List.range n)).length = n := by
      unfold natV
      rw [List.length_map, List.length_range]
    refine ⟨_, rfl, a, _, rfl, .inl (SqL.of ha), _, _, rfl, rfl, 2, _, rfl, ?_, ?_⟩
    · rw [ll]
      omega
    rw [ll]
    have en : (((n : Nat) : Int) + 1 - 2).toNat = n - 1 := by omega
    rw [en]
    intro D hD
    refine lc2_it (walk_from (a := 2) (n := n - 1)) (fun i H' => Same H H' ∧ ∃ rs : List V, H' D = some (.lst rs) ∧ rs.length = (lotsTo n i).length ∧ ∀ K, Dts K (GL.hid H' D) rs ((lotsTo n i).map fun l => rowP (nums l))) ⟨same_new hD, [], upd_same, rfl, fun K => .nil⟩ (fun _ _ _ _ => trivial) ?_ ?_
    · rintro i y H1' H1 hi ⟨s1, rs, h1, l1, d1⟩ ⟨rfl, rfl⟩
      have few := lots_few n23 hi
      refine gName_by ⟨rfl, yes_of ?_⟩
      refine ⟨_, rfl, _, rfl, a, n, 2 + i, rfl, SqL.of (s1 _ _ ha), by omega, by omega, ?_⟩
      refine lc2_in (Cmb.walk_comb (n := n) (r := 2 + i)) (fun j H' => Same H H' ∧ ∃ rs : List V, H' D = some (.lst rs) ∧ rs.length = (lotsTo n i).length + j ∧ ∀ K, Dts K (GL.hid H' D) rs ((lotsTo n i ++ (Cmb.choices n (2 + i)).take j).map fun l => rowP (nums l))) ⟨s1, rs, h1, l1, fun K => by rw [List.take_zero, List.append_nil]; exact d1 K⟩ (fun _ _ _ _ => trivial) ?_ ?_
      · rintro j x H2 H3 hj ⟨s2, rs, h2, l2, d2⟩ ⟨T, l, rfl, nT, ej, rfl⟩
        refine gName_by ⟨rfl, yes_of ⟨_, rfl, T, _, rfl, SqT.of upd_same, fun R hR => ?_⟩⟩
        have TD : T ≠ D := fun z => by
          rw [z, h2] at nT
          cases nT
        have sT : Same H2 (upd H2 T (.tup (Cmb.natT l))) := same_new nT
        have hDT := sT _ _ h2
        have RD : R ≠ D := fun z => by
          rw [z, hDT] at hR
          cases hR
        have sR : Same H2 (upd (upd H2 T (.tup (Cmb.natT l))) R (.lst (Cmb.natT l))) := sT.trans (same_new hR)
        refine ⟨rs, sR _ _ h2, by rw [l2, sizeLine_eq]; omega, fun b o e => ?_, rs ++ [.ref R], upd_same, by rw [List.length_append, l2]; rfl, fun K => ?_⟩
        · rw [upd_ne (ne_of_none e hD)]
          exact sR _ _ (s2 _ _ e)
        · have et : (Cmb.choices n (2 + i)).take (j + 1) = (Cmb.choices n (2 + i)).take j ++ [l] := by
            rw [List.take_add_one, ej]
            rfl
          rw [hid_upd, et, ← List.append_assoc, List.map_append]
          refine Dts.app (Dts.same (hid_mono sR) _ _ (d2 K)) (.cons (.lst (hid_in upd_same RD) (dts_nat l)) .nil)
      · rintro H2 ⟨s2, rs, h2, l2, d2⟩
        rw [List.take_length] at d2
        rw [lots_more]
        exact ⟨s2, rs, h2, by rw [l2, List.length_append], d2⟩
    · rintro H1 ⟨s1, rs, h1, l1, d1⟩
      rw [lots_all n23] at d1
      exact q D H1 s1 hD fun K => .lst h1 (Dts.same hid_same _ _ (d1 K))
noncomputable abbrev sFamily : Stmt := topS 91
noncomputable abbrev nFamily : List Str := ["kinds", "many", "value", "lots", "lot", "told", "strides"]
theorem scFamily : FnScope nFamily ["kinds", "many", "value"] (defScope sFamily) := ⟨rfl, rfl, rfl, by decide +kernel, rfl, by decide +kernel, by decide +kernel⟩
theorem ok_family {f : Addr} {fd : FuncData} (F : Fun K "is_family" "is_family" sFamily f fd) (T : Bi mg) (Uisorder : Use P w K mg base "is_order" ["many", "value"] (spOrderA K) 3) (Uwaysofgroup : Use P w K mg base "ways_of_group" ["kinds", "people"] spWays 1) (Ulotsbysize : Use P w K mg base "lots_by_size" ["people"] spLotsB 1) (Ufits : Use P w K mg base "fits" ["kinds", "lot", "told", "strides"] spFits 3) : FnOk P w K mg base CX0 6 f fd ["kinds", "many", "value"] (spFamily K) := by
  refine F.ok scFamily (fun vs H Q E h => ?_) (fun cdv A outer s H vs Q E hr h => ?_)
  · obtain ⟨k, m, y, d, rfl, _⟩ := h
    rfl
  · obtain ⟨k, m, y, d, rfl, dy, h, q⟩ := h
    have h65 : (A.deeper (envOfC "is_family" (defScope sFamily) s.heap.objs.size f cdv)).units + 65 < cLine := by
      have := hr.un
      omega
    refine ⟨_, (pss_cons (ps_set (i := 3) scFamily.nd rfl (Or.inl rfl) (pe_use Ulotsbysize (hr.mono (by decide)) (by rfl) (pa_cons (pe_listRg rfl (by rfl) T.list (prg_1 (by rfl) T.range (pv 1))) pa_nil)))
      (pss_cons (ps_if (PW.pt (pw_or (pt_not (pt_val (pe_callB call_isi (by rfl) T.isinstance (by decide +kernel) (pa_cons (pv 2) (pa_cons (pe_bltn (v := .ty "list") (by rfl) T.list (by decide +kernel) rfl) pa_nil))))) (pw_or1 (pt_cmpR op_ne (pe_callB call_len_seq (by rfl) T.len PySem.boot_len (pa_cons (pv 2) pa_nil)) (pe_callB call_len_seq (by rfl) T.len PySem.boot_len (pa_cons (pv 3) pa_nil)) (nomark _)))))
        (pss_one (ps_ret pe_bl)) pss_nil)
      (pss_cons (ps_if (pt_not (pt_val (pe_callB (cr_all rfl) (by rfl) T.all (by decide +kernel) (pa_cons (pe_lc (own := [("lot", 4), ("told", 5)]) (g := (gTup K 2 (gCons (gName 4) (gCons (gName 5) gNil)))) (tt := tYes) (te := (tCall (spOrderA K) [] E0 (tCons (tCall spWays [] E0 (tCons (tVar 0) (tCons (tCB (rLen K) (tCons (tVar 4) tNil)) tNil))) (tCons (tVar 5) tNil)))) rfl scFamily.nd (pi_zip (by rfl) T.zip (pa_cons (pv 3) (pa_cons (pv 2) pa_nil)))
            (blkOk_by (N := nFamily) (sc := (defScope sFamily)) (by decide +kernel)) (fun _ _ _ _ _ => (pg_tup rfl (pgs_cons (pg_name (i := 4) scFamily.nd rfl (Or.inl rfl)) (pgs_cons (pg_name (i := 5) scFamily.nd rfl (Or.inl rfl)) pgs_nil)))) (fun _ _ _ _ _ => by exact pts_nil)
            (fun _ _ _ _ _ => by exact (pe_use Uisorder (hr.mono (by decide)) (by rfl) (pa_cons (pe_use Uwaysofgroup (hr.mono (by decide)) (by rfl) (pa_cons (pv 0) (pa_cons (pe_callB call_len_seq (by rfl) T.len PySem.boot_len (pa_cons (pv 4) pa_nil)) pa_nil))) (pa_cons (pv 5) pa_nil))))) pa_nil))))
        (pss_one (ps_ret pe_bl)) pss_nil)
      (pss_cons (ps_set (i := 6) scFamily.nd rfl (Or.inr rfl) (pe_dcT (own := [("lot", 4), ("told", 5)]) (g := (gTup K 2 (gCons (gName 4) (gCons (gName 5) gNil)))) (tt := (tTest (tOp rEq (tCB (rLen K) (tCons (tVar 4) tNil)) (tC (.int 2))))) (tk := (tCB (rTupL K) (tCons (tVar 4) tNil))) (tv := (tOp (rIxL K) (tVar 5) (tC (.int 0)))) h65 rfl scFamily.nd (pi_zip (by rfl) T.zip (pa_cons (pv 3) (pa_cons (pv 2) pa_nil))) (blkOk_by (N := nFamily) (sc := (defScope sFamily)) (by decide +kernel)) (fun _ _ _ _ _ => (pg_tup rfl (pgs_cons (pg_name (i := 4) scFamily.nd rfl (Or.inl rfl)) (pgs_cons (pg_name (i := 5) scFamily.nd rfl (Or.inl rfl)) pgs_nil)))) (fun _ _ _ _ _ => by exact (pts_one (pt_cmpR op_eq (pe_callB call_len_seq (by rfl) T.len PySem.boot_len (pa_cons (pv 4) pa_nil)) pe_int (nomark _)))) (fun _ _ _ _ _ => by exact (pe_callTy call_tupL (by rfl) T.tuple (by decide +kernel) (pa_cons (pv 4) pa_nil))) (fun _ _ _ _ _ => by exact (pe_ix ix_list (pv 5) pe_int (fun _ _ => rfl)))))
      (pss_one (ps_ret (pe_callB (cr_all rfl) (by rfl) T.all (by decide +kernel) (pa_cons (pe_lc (own := [("lot", 4), ("told", 5)]) (g := (gTup K 2 (gCons (gName 4) (gCons (gName 5) gNil)))) (tt := tYes) (te := (tCall spFits [] E0 (tCons (tVar 0) (tCons (tVar 4) (tCons (tVar 5) (tCons (tVar 6) tNil)))))) rfl scFamily.nd (pi_zip (by rfl) T.zip (pa_cons (pv 3) (pa_cons (pv 2) pa_nil)))
            (blkOk_by (N := nFamily) (sc := (defScope sFamily)) (by decide +kernel)) (fun _ _ _ _ _ => (pg_tup rfl (pgs_cons (pg_name (i := 4) scFamily.nd rfl (Or.inl rfl)) (pgs_cons (pg_name (i := 5) scFamily.nd rfl (Or.inl rfl)) pgs_nil)))) (fun _ _ _ _ _ => by exact pts_nil)
            (fun _ _ _ _ _ => by exact (pe_use Ufits (hr.mono (by decide)) (by rfl) (pa_cons (pv 0) (pa_cons (pv 4) (pa_cons (pv 5) (pa_cons (pv 6) pa_nil))))))) pa_nil)))))))), ?_⟩
    have m23 : m = 2 ∨ m = 3 := by
      rcases h with ⟨h, _⟩ | ⟨h, _⟩
      · exact .inl h
      · exact .inr h
    refine ⟨_, rfl, _, rfl, RgOk.of_le (by omega) (by omega) (by omega) (by omega), fun l hl => ?_⟩
    obtain ⟨H1, e1, s1, f1⟩ := gen H hl (.lst (rgV 0 (m : Int)))
    rw [e1]
    clear e1
    refine ⟨l, m, rfl, by rw [f1, rg_nat], m23, fun p H2 s2 hp dp => ?_⟩
    have s02 := s1.trans s2
    have dy2 := dy.same s02
    refine ⟨_, rfl, _, _, _, _, _, rfl, .ty "list", dy2.ty, kit_list d, _, rfl, ?_⟩
    cases il : isList d with
    | false => exact iteT (iteT (q H2 s02))
    | true =>
      refine iteF ?_
      rcases h with ⟨rfl, rfl⟩ | ⟨rfl, k2, k4, fb⟩
      · cases il
      obtain ⟨ds, rfl⟩ : ∃ ds, d = .list ds := by
        cases d with
        | list ds => exact ⟨ds, rfl⟩
        | _ => cases il
      obtain ⟨P, lots, ep, hP, dlots⟩ := dt_list (dp K)
      cases ep
      obtain ⟨a, xs, rfl, ha, hs⟩ := dt_list dy2
      have l4 : lots.length = 4 := dlots.length
      refine ⟨_, rfl, a, _, rfl, .inl (SqL.of ha), _, rfl, p, _, rfl, .inl (SqL.of hP), rfl, _, rfl, ?_⟩
      rw [l4, hs.length]
      by_cases d4 : ds.length = 4
      · rw [d4]
        refine iteF ?_
        obtain ⟨d3, rfl, br3, hd3⟩ := fam_cases k4 d4 fb
        have lx : xs.length = 4 := hs.length
        have lotAt : ∀ {i : Nat} {x : V}, lots[i]? = some x → ∃ (r : Addr) (ll : List Nat), x = .ref r ∧ H2 r = some (.lst (natV ll)) ∧ (lotsN 3)[i]? = some ll := fun {i x} e => by
          obtain ⟨dl, e1, d1⟩ := dlots.get e
          have e1' : ((lotsN 3).map fun l => rowP (nums l))[i]? = some dl := e1
          rw [List.getElem?_map] at e1'
          cases e2 : (lotsN 3)[i]? with
          | none =>
            rw [e2] at e1'
            cases e1'
          | some ll =>
            rw [e2] at e1'
            cases e1'
            obtain ⟨r, er, hr⟩ := dt_nats d1
            exact ⟨r, ll, er, hr, rfl⟩
        have h2a := ha
        have many : ∀ {i : Nat} {ll : List Nat}, (lotsN 3)[i]? = some ll → i < 4 → ll.length = if i = 3 then 3 else 2 := fun {i ll} e hi => by
          match i, hi, e with
          | 0, _, e => cases e; rfl
          | 1, _, e => cases e; rfl
          | 2, _, e => cases e; rfl
          | 3, _, e => cases e; rfl
        have toldAt : ∀ {i : Nat} {x : V}, xs[i]? = some x → ∃ dt, Dt K H2 x dt ∧ Brief dt ∧ ((i < 3 ∧ dt = idP k) ∨ (i = 3 ∧ dt = d3)) := fun {i x} e => by
          obtain ⟨dt, e1, d1⟩ := hs.get e
          refine ⟨dt, d1, ?_⟩
          have i4 : i < 4 := (List.getElem?_eq_some_iff.mp e1).1
          match i, i4, e1 with
          | 0, _, e1 => cases e1; exact ⟨id_brief k4, .inl ⟨by decide, rfl⟩⟩
          | 1, _, e1 => cases e1; exact ⟨id_brief k4, .inl ⟨by decide, rfl⟩⟩
          | 2, _, e1 => cases e1; exact ⟨id_brief k4, .inl ⟨by decide, rfl⟩⟩
          | 3, _, e1 => cases e1; exact ⟨br3, .inr ⟨rfl, rfl⟩⟩
        refine ⟨_, rfl, _, rfl, p, a, lots, xs, rfl, SqL.of hP, SqL.of h2a, fun D hD => ?_⟩
        refine lc_it (walk_zip (K := K) (a := p) (b := a) (xs := lots) (ys := xs) (n := 4) (by rw [l4, lx]; rfl)) (fun i H' => Same H2 H' ∧ H' D = some (.lst (((List.range i).map fun j => if j = 3 then orderD (3 * k.toNat - 2) d3 else orderD k.toNat (idP k)).map V.bl))) ⟨same_new hD, upd_same⟩ (fun i H' _ z => ⟨SqL.of (z.1 _ _ hP), SqL.of (z.1 _ _ h2a)⟩) ?_ ?_
        · rintro i y H4' H4 hi ⟨s4, h4⟩ ⟨A2, x1, x2, rfl, nA, rfl, e1, e2⟩
          obtain ⟨r, ll, rfl, hr, ell⟩ := lotAt e1
          obtain ⟨dt, dtt, brt, eqt⟩ := toldAt e2
          have s5 := s4.trans (same_new (o := .tup [.ref r, x2]) nA)
          refine ⟨A2, _, rfl, SqT.of upd_same, rfl, _, _, rfl, _, _, rfl, rfl, rfl, yes_of ?_⟩
          refine ⟨_, rfl, _, rfl, r, _, rfl, .inl (SqL.of (s5 _ _ hr)), ?_⟩
          have lm : (natV ll).length = if i = 3 then 3 else 2 := by
            unfold natV
            rw [List.length_map]
            exact many ell hi
          rw [lm]
          refine ⟨k, (if i = 3 then 3 else 2), rfl, by omega, by omega, by split <;> omega, fun H6 s6 => ?_⟩
          have s26 := s5.trans s6
          have hw : waysS k (if i = 3 then 3 else 2) = (((if i = 3 then 3 * k.toNat - 2 else k.toNat) : Nat) : Int) := by
            by_cases i3 : i = 3
            · rw [if_pos i3, if_pos i3]
              show 3 * k - 2 = _
              omega
            · rw [if_neg i3, if_neg i3]
              show k = _
              omega
          refine ⟨_, rfl, (if i = 3 then 3 * k.toNat - 2 else k.toNat), x2, dt, by rw [hw]; rfl, by split <;> omega, Dt.same s26 _ _ dtt, brt, fun H7 s7 => ?_⟩
          have s27 := s26.trans s7
          have hD6 := (s6.trans s7) _ _ (by rw [upd_ne (ne_of_none h4 nA)]; exact h4)
          refine ⟨_, hD6, ?_, fun b o e => by rw [upd_ne (ne_of_none e hD)]; exact s27 _ _ e, ?_⟩
          · rw [List.length_map, List.length_map, List.length_range, sizeLine_eq]
            omega
          · rw [upd_same, List.range_succ, List.map_append, List.map_append]
            rcases eqt with ⟨i3, rfl⟩ | ⟨rfl, rfl⟩
            · rw [if_neg (show i ≠ 3 by omega)]
              show _ = some (HO.lst (_ ++ [V.bl (if i = 3 then _ else _)]))
              rw [if_neg (show i ≠ 3 by omega)]
            · rfl
        · rintro H3 ⟨s3, h3⟩
          refine ⟨D, _, rfl, SqL.of h3, ?_⟩
          obtain ⟨oid, osw⟩ := ids_ok k2 k4
          generalize hb : ((List.range 4).map fun j => if j = 3 then orderD (3 * k.toNat - 2) d3 else orderD k.toNat (idP k)).all id = b
          have eb : b = orderD (3 * k.toNat - 2) d3 := by
            rw [← hb, oid]
            cases orderD (3 * k.toNat - 2) d3 <;> rfl
          rw [eb]
          cases o3 : orderD (3 * k.toNat - 2) d3 with
          | false => exact ⟨_, rfl, iteT (q H3 (s02.trans s3))⟩
          | true =>
            refine ⟨_, rfl, iteF ?_⟩
            have ed : d3 = rowP (nums (swapL (3 * k.toNat - 2))) := by
              rcases hd3 with h | h
              · rw [h] at o3
                cases o3
              · exact h
            subst ed
            clear hb eb hD h3
            have hP3 := s3 _ _ hP
            have ha3 := s3 _ _ ha
            refine ⟨_, rfl, _, rfl, p, a, lots, xs, rfl, SqL.of hP3, SqL.of ha3, fun S hS => ?_⟩
            have pS : p ≠ S := ne_of_none hP3 hS
            refine dcT_it (walk_zip (K := K) (a := p) (b := a) (xs := lots) (ys := xs) (n := 4) (by rw [l4, lx]; rfl)) (fun i H' => Same H3 H' ∧ H' S = some (.dT (strideT.take i))) ⟨same_new hS, upd_same⟩ (fun i H' _ z => ⟨SqL.of (z.1 _ _ hP3), SqL.of (z.1 _ _ ha3)⟩) ?_ ?_
            · rintro i y H4' H4 hi ⟨s4, h4⟩ ⟨A2, x1, x2, rfl, nA, rfl, e1, e2⟩
              obtain ⟨r, ll, rfl, hr, ell⟩ := lotAt e1
              obtain ⟨dt, dtt, brt, eqt⟩ := toldAt e2
              have s5 := s4.trans (same_new (o := .tup [.ref r, x2]) nA)
              refine ⟨A2, _, rfl, SqT.of upd_same, rfl, _, _, rfl, _, _, rfl, rfl, rfl, ?_⟩
              have lm : (natV ll).length = if i = 3 then 3 else 2 := by
                unfold natV
                rw [List.length_map]
                exact many ell hi
              refine ⟨_, rfl, r, _, rfl, .inl (SqL.of (s5 _ _ (s3 _ _ hr))), rfl, ?_⟩
              rw [lm]
              have h4' : upd H4' A2 (.tup [.ref r, x2]) S = some (.dT (strideT.take i)) := by
                rw [upd_ne (ne_of_none h4 nA)]
                exact h4
              rcases eqt with ⟨i3, rfl⟩ | ⟨rfl, rfl⟩
              · rw [if_neg (show i ≠ 3 by omega)]
                obtain ⟨t, rfl, ht⟩ := dt_nats dtt
                refine ⟨_, rfl, dturnT ?_⟩
                refine ⟨_, rfl, r, _, rfl, SqL.of (s5 _ _ (s3 _ _ hr)), fun T hT => ?_⟩
                have TS : T ≠ S := fun z => by
                  rw [z, h4'] at hT
                  cases hT
                have s6 := s5.trans (same_new (o := .tup (natV ll)) hT)
                refine ⟨_, rfl, t, _, _, .int 0, rfl, rfl, SqL.of (s6 _ _ (s3 _ _ ht)), at_of (j := 0) rfl ?_, ?_⟩
                · unfold natV
                  rw [List.getElem?_map, List.getElem?_range (by omega)]
                  rfl
                · refine ⟨strideT.take i, keyL ll, T, rfl, by rw [upd_same, natV_key], by rw [upd_ne TS.symm]; exact h4', ?_, fun b o e => ?_, ?_⟩
                  · rw [List.length_take, sizeLine_eq]
                    omega
                  · rw [upd_ne (ne_of_none e hS)]
                    exact s6 _ _ e
                  · rw [upd_same, put_stride ell i3]
              · exact ⟨_, rfl, dturnF ⟨s5, h4'⟩⟩
            · rintro H4 ⟨s4, h4⟩
              have sS : H4 S = some (.dT strideT) := h4
              have s34 := s3.trans s4
              refine ⟨_, rfl, _, rfl, p, a, lots, xs, rfl, SqL.of (s4 _ _ hP3), SqL.of (s4 _ _ ha3), fun D hD => ?_⟩
              refine lc_it (walk_zip (K := K) (a := p) (b := a) (xs := lots) (ys := xs) (n := 4) (by rw [l4, lx]; rfl)) (fun i H' => Same H4 H' ∧ H' D = some (.lst (((List.range i).map fun j => decide (j ≠ 3)).map V.bl))) ⟨same_new hD, upd_same⟩ (fun i H' _ z => ⟨SqL.of (z.1 _ _ (s4 _ _ hP3)), SqL.of (z.1 _ _ (s4 _ _ ha3))⟩) ?_ ?_
              · rintro i y H5' H5 hi ⟨s5, h5⟩ ⟨A2, x1, x2, rfl, nA, rfl, e1, e2⟩
                obtain ⟨r, ll, rfl, hr, ell⟩ := lotAt e1
                obtain ⟨dt, dtt, brt, eqt⟩ := toldAt e2
                have s6 := s5.trans (same_new (o := .tup [.ref r, x2]) nA)
                have s26 := s34.trans s6
                refine ⟨A2, _, rfl, SqT.of upd_same, rfl, _, _, rfl, _, _, rfl, rfl, rfl, yes_of ?_⟩
                have fin : ∀ H7, Same (upd H5' A2 (.tup [.ref r, x2])) H7 → ∃ acc, H7 D = some (.lst acc) ∧ acc.length < sizeLine ∧ Same H4 (upd H7 D (.lst (acc ++ [V.bl (decide (i ≠ 3))]))) ∧ upd H7 D (.lst (acc ++ [V.bl (decide (i ≠ 3))])) D = some (.lst (((List.range (i + 1)).map fun j => decide (j ≠ 3)).map V.bl)) := fun H7 s7 => by
                  refine ⟨_, s7 _ _ (by rw [upd_ne (ne_of_none h5 nA)]; exact h5), ?_, fun b o e => by rw [upd_ne (ne_of_none e hD)]; exact s7 _ _ (s6 _ _ e), ?_⟩
                  · rw [List.length_map, List.length_map, List.length_range, sizeLine_eq]
                    omega
                  · rw [upd_same, List.range_succ, List.map_append, List.map_append]
                    rfl
                rcases eqt with ⟨i3, rfl⟩ | ⟨rfl, rfl⟩
                · obtain ⟨t, rfl, ht⟩ := dt_nats dtt
                  have e3 : decide (i ≠ 3) = true := decide_eq_true (by omega)
                  rw [e3] at fin
                  refine ⟨_, rfl, _, rfl, _, rfl, _, rfl, k, r, t, S, rfl, k2, k4, .inl ?_⟩
                  have eij : ∃ u v : Int, natV ll = [.int u, .int v] := by
                    match i, i3, ell with
                    | 0, _, h => cases h; exact ⟨_, _, rfl⟩
                    | 1, _, h => cases h; exact ⟨_, _, rfl⟩
                    | 2, _, h => cases h; exact ⟨_, _, rfl⟩
                  obtain ⟨u, v, euv⟩ := eij
                  rw [euv] at hr
                  exact ⟨u, v, s26 _ _ hr, s26 _ _ ht, fin⟩
                · obtain ⟨t, rfl, ht⟩ := dt_nats dtt
                  cases ell
                  exact ⟨_, rfl, _, rfl, _, rfl, _, rfl, k, r, t, S, rfl, k2, k4, .inr ⟨s26 _ _ hr, s26 _ _ ht, s6 _ _ sS, fin⟩⟩
              · rintro H5 ⟨s5, h5⟩
                exact ⟨D, _, rfl, SqL.of h5, q H5 (s34.trans s5 |> s02.trans)⟩
      · have ne : (!decide (V.int ((ds.length : Nat) : Int) = V.int ((4 : Nat) : Int))) = true := by
          rw [decide_eq_false fun z => d4 (by have := V.int.inj z; omega)]
          rfl
        rw [ne]
        exact iteT (q H2 s02)
end
end K56

namespace GL
open PySem PySem.Spec PyProof.Rows
open L2 hiding spCell
section
variable {X : Cx} {e : Expr}
end
/-! ### all but the tables of code objects -/
open LamX (ExtN Tabs)
noncomputable def noT (H : Hp) : Hp := fun b => match H b with | some (.tbl _) => none | o => o
theorem noT_of {H : Hp} {b : Addr} {o : HO} (e : H b = some o) (n : ∀ ps, o ≠ .tbl ps) : noT H b = some o := by
  unfold noT
  rw [e]
  cases o with
  | tbl ps => exact absurd rfl (n ps)
  | _ => rfl
mutual
theorem Dt.noT {K : PySem.W.Frag} {H : Hp} : ∀ {v : V} {d : PyData}, Dt K H v d → Dt K (noT H) v d
  | _, _, .non => .non
  | _, _, .bl b => .bl b
  | _, _, .int i => .int i
  | _, _, .str x => .str x
  | _, _, .lst a b => .lst (noT_of a fun ps z => by cases z) (Dts.noT b)
  | _, _, .tup a b => .tup (noT_of a fun ps z => by cases z) (Dts.noT b)
  | _, _, .dct a => .dct (noT_of a fun ps z => by cases z)
theorem Dts.noT {K : PySem.W.Frag} {H : Hp} : ∀ {vs : List V} {ds : List PyData}, Dts K H vs ds → Dts K (noT H) vs ds
  | _, _, .nil => .nil
  | _, _, .cons a b => .cons (Dt.noT a) (Dts.noT b)
end
end GL

/-! The list of what came out, through calls of lambdas. -/
namespace GL
open PySem PySem.Spec PyProof.Rows
open L2 hiding spCell
open LamX (ExtN Tabs TabS CodeO)
section
variable {H0 H H' : Hp} {D : Addr} {T : List (Addr × Str)} {n m : Nat}
end
/-! ### what the law refuses -/
end GL

/-! Texts of data are texts. -/
namespace GL
open PySem PySem.Spec PyProof.Rows
open L2 hiding spCell
theorem low_of (s : String) : PyData.strOk (s : Str) = true := by
  unfold PyData.strOk
  rw [Str.ofString_eq_toList]
  simp only [List.all_toArray, List.all_map, List.all_eq_true]
  intro c _
  have h := c.valid
  show decide (c.toNat < 0x110000) = true
  rw [decide_eq_true_eq]
  have : c.toNat.isValidChar := h
  rcases this with h | h
  · omega
  · omega
theorem low_app {a b : Str} (ha : PyData.strOk a = true) (hb : PyData.strOk b = true) : PyData.strOk (a ++ b) = true := by
  unfold PyData.strOk at ha hb ⊢
  show (a.cps ++ b.cps).all _ = true
  rw [Array.all_append, ha, hb]
  rfl
theorem low_join {s : Str} (hs : PyData.strOk s = true) : ∀ ts : List Str, (∀ t ∈ ts, PyData.strOk t = true) → PyData.strOk (Str.join s ts) = true
  | [], _ => by
    show PyData.strOk Str.empty = true
    decide +kernel
  | [x], h => h x (List.mem_singleton_self x)
  | x :: y :: r, h => low_app (low_app (h x (List.mem_cons_self ..)) hs) (low_join hs (y :: r) fun t ht => h t (List.mem_cons_of_mem _ ht))
theorem low_from : ∀ (ts : List Str) (k : Nat) (acc : Str), PyData.strOk acc = true → (∀ t ∈ ts, PyData.strOk t = true) → PyData.strOk (textFrom k acc ts) = true
  | [], _, _, h, _ => h
  | t :: r, k, acc, h, a => low_from r (k + 1) _ (low_app (low_app h (by split <;> exact low_of _)) (a t (List.mem_cons_self ..))) fun u hu => a u (List.mem_cons_of_mem _ hu)
mutual
noncomputable def texD : PyData → Bool
  | .none => true
  | .bool _ => true
  | .int _ => true
  | .str x => PyData.strOk (reprText x)
  | .list xs => texA xs
  | .tuple xs => texA xs
  | .dict kvs => kvs.isEmpty
noncomputable def texA : List PyData → Bool
  | [] => true
  | x :: xs => texD x && texA xs
end
theorem texA_of : ∀ {ds : List PyData}, (∀ d ∈ ds, texD d = true) → texA ds = true
  | [], _ => rfl
  | d :: ds, h => by
    show (texD d && texA ds) = true
    rw [h d (List.mem_cons_self ..), texA_of fun x hx => h x (List.mem_cons_of_mem _ hx)]
    rfl
mutual
theorem low_shown : ∀ d : PyData, texD d = true → PyData.strOk d.shown = true
  | .none, _ => low_of _
  | .bool b, _ => by
    cases b
    · exact low_of "False"
    · exact low_of "True"
  | .int i, _ => low_of _
  | .str x, h => h
  | .list xs, h => by
    simp only [PyData.shown, listText]
    exact low_app (low_from _ _ _ (low_of _) (low_all xs h)) (low_of _)
  | .tuple xs, h => by
    simp only [PyData.shown, tupleText]
    exact low_app (low_app (low_of _) (low_join (low_of _) _ (low_all xs h))) (by split <;> exact low_of _)
  | .dict kvs, h => by
    have e : kvs = [] := List.isEmpty_iff.mp h
    subst e
    simp only [PyData.shown, PyData.shownKv, dictText]
    exact low_app (low_app (low_of _) (low_join (low_of _) [] (by simp))) (low_of _)
theorem low_all : ∀ ds : List PyData, texA ds = true → ∀ t ∈ PyData.shownAll ds, PyData.strOk t = true
  | [], _, t, ht => by cases ht
  | d :: ds, h, t, ht => by
    obtain ⟨a, b⟩ := Bool.and_eq_true_iff.mp (show (texD d && texA ds) = true from h)
    rcases List.mem_cons.mp (show t ∈ d.shown :: PyData.shownAll ds from ht) with e | e
    · subst e
      exact low_shown d a
    · exact low_all ds b t e
end
theorem low_row (l : List Int) : texD (rowP l) = true := texA_of fun d hd => by
  obtain ⟨z, _, rfl⟩ := List.mem_map.mp hd
  rfl
theorem low_tab (kss : List (List Int)) : texD (tabP kss) = true := texA_of fun d hd => by
  obtain ⟨z, _, rfl⟩ := List.mem_map.mp hd
  exact low_row z
end GL

/-! The doors of programs: what the law tells of a call that is refused. -/
namespace GL
open PySem PySem.Spec PyProof.Rows
open L2 hiding spCell
/-- the door d refuses xs, so as E says -/
noncomputable def DoorR (K : PySem.W.Frag) (er : Str → Addr) (d : Nat) (xs : List V) (H : Hp) (E : XK) : Prop :=
  (d ≤ 14 ∧ arity d ≤ xs.length ∧ spRef d K er (xs.take (arity d)) H (fun _ _ => False) E) ∨ (d = 15 ∧ 2 ≤ xs.length ∧ spMadeP K er (xs.take 2) H (fun _ _ => False) E)
theorem DoorR.lo {K : PySem.W.Frag} {er : Str → Addr} {d : Nat} {xs : List V} {H : Hp} {E : XK} (h : DoorR K er d xs H E) (n : d ≤ 14) : arity d ≤ xs.length ∧ spRef d K er (xs.take (arity d)) H (fun _ _ => False) E := by
  rcases h with ⟨_, a, b⟩ | ⟨e, _, _⟩
  · exact ⟨a, b⟩
  · omega
theorem DoorR.hi {K : PySem.W.Frag} {er : Str → Addr} {xs : List V} {H : Hp} {E : XK} (h : DoorR K er 15 xs H E) : 2 ≤ xs.length ∧ spMadeP K er (xs.take 2) H (fun _ _ => False) E := by
  rcases h with ⟨e, _, _⟩ | ⟨_, a, b⟩
  · omega
  · exact ⟨a, b⟩
noncomputable abbrev spDoors (K : PySem.W.Frag) (er : Str → Addr) (hi : Nat) : Sp := fun vs H Q E => ∃ (d : Nat) (a : Addr) (xs : List V), vs = [.int d, .ref a] ∧ d < hi ∧ H a = some (.lst xs) ∧ DoorR K er d xs H E
noncomputable def spCalledP (K : PySem.W.Frag) (er : Str → Addr) : Sp := spDoors K er 16
noncomputable def spFirstP (K : PySem.W.Frag) (er : Str → Addr) : Sp := spDoors K er 4
noncomputable def RefP (K : PySem.W.Frag) (er : Str → Addr) (d : Nat) (xs : List V) (H : Hp) (n : Str) (v : V) : Prop := ∀ (H' : Hp) (E : XK), Same H H' → Rf er n v H' E → DoorR K er d xs H' E
noncomputable def fiveN : List Str := ["InvalidNumber", "InvalidCompany", "InvalidProgram", "InvalidLot", "InvalidWishes"]
noncomputable def fiveV (c : Str) : List V := fiveN.map fun n => .bl (decide (c = n))
noncomputable def numV (n : Nat) : List V := (List.range 5).map fun i => .bl (decide (n = i))
theorem five_num {n : Nat} {c : Str} (hc : fiveN[n]? = some c) : fiveV c = numV n := by
  have : ∀ n, n < 5 → fiveN[n]?.map fiveV = some (numV n) := by decide +kernel
  have hn : n < 5 := (List.getElem?_eq_some_iff.mp hc).1
  have h := this n hn
  rw [hc] at h
  exact Option.some.inj h
/-- small data: four of them are still shown -/
noncomputable def Sm (d : PyData) : Prop := Fit 1000000 8 d ∧ Brief d ∧ texD d = true
theorem Sm.show {d : PyData} (h : Sm d) : ShowOk d := h.1.show (by decide) (by decide)
theorem sm_args {ds : List PyData} (l : ds.length ≤ 4) (h : ∀ d ∈ ds, Sm d) : ShowOk (.list ds) := (Fit.list (fun e he => (h e he).1) l).show (by decide) (by decide)
theorem bound_two : Bound 2 = 280253 := by decide +kernel
theorem sm_of {d : PyData} (h : Nice 2 d) (t : texD d = true) : Sm d := ⟨Fit.more (B := 280253) (d := 3) (by
    have := h.shown
    rw [bound_two] at this
    exact this) (by decide) (by decide), (Nice.up h).brief, t⟩
theorem sm_all {ds : List PyData} (h : (ds.all fun d => niceB 2 d && texD d) = true) : ∀ d ∈ ds, Sm d := fun d hd => by
  obtain ⟨a, b⟩ := Bool.and_eq_true_iff.mp (List.all_eq_true.mp h d hd)
  exact sm_of (nice_of a) b
noncomputable def spTold (K : PySem.W.Frag) (er : Str → Addr) : Sp := fun vs H Q _ => ∃ (d : Nat) (a : Addr) (xs : List V) (ds : List PyData) (c : Str) (v : V) (dv : PyData), vs = [.int d, .ref a] ∧ d < 16 ∧ H a = some (.lst xs) ∧ Dts K H xs ds ∧ ShowOk (.list ds) ∧ Dt K H v dv ∧ ShowOk dv ∧ c ∈ fiveN ∧ RefP K er d xs H c v ∧
  ∀ p H', Same H H' → H p = none → H' p = some (.lst (fiveV c ++ [.str dv.shown])) → Q (.ref p) H'
noncomputable def spOnly (K : PySem.W.Frag) : Sp := fun vs H Q _ => ∃ (n : Nat) (v : V) (dv : PyData), vs = [.int n, v] ∧ n < 5 ∧ Dt K H v dv ∧ ShowOk dv ∧ ∀ p H', Same H H' → H p = none → H' p = some (.lst (numV n ++ [.str dv.shown])) → Q (.ref p) H'
/-! ### the list that is told, as data -/
noncomputable def toldD (n : Nat) (s : Str) : PyData := .list ((List.range 5).map (fun i => .bool (decide (n = i))) ++ [.str s])
theorem told_dp {K : PySem.W.Frag} {H : Hp} {p : Addr} {n : Nat} {s : Str} (h : H p = some (.lst (numV n ++ [.str s]))) : Dp K H (.ref p) (toldD n s) := .lst (SqL.of h) (.cons (.bl _) (.cons (.bl _) (.cons (.bl _) (.cons (.bl _) (.cons (.bl _) (.cons (.str _) .nil))))))
theorem told_shaped {n : Nat} {s : Str} (h : PyData.strOk s = true) : SeqAt.shaped (toldD n s) = true := by
  unfold SeqAt.shaped toldD
  simp [List.range, List.range.loop, PyData.canLay0, PyData.canLayAll0, PyData.depth, PyData.depthAll, h]
theorem told_eqv (n : Nat) (s : Str) : PyData.eqv (toldD n s) (toldD n s) = true := by
  unfold toldD
  simp [List.range, List.range.loop, PyData.eqv, PyData.eqvAll]
/-! ### one call told, and compared -/
noncomputable def ArgsP (K : PySem.W.Frag) (er : Str → Addr) (d : Nat) (H : Hp) (vs : List V) (dv : PyData) (c : Str) : Prop := ∃ ds v, Dts K H vs ds ∧ vs.length ≤ 4 ∧ (∀ e ∈ ds, Sm e) ∧ Dt K H v dv ∧ RefP K er d vs H c v
section
variable {K : PySem.W.Frag} {er : Str → Addr} {H : Hp} {c : Str} {dv : PyData} {n : Nat}
theorem RefP.later {d : Nat} {xs : List V} {v : V} {H' : Hp} (r : RefP K er d xs H c v) (s : Same H H') : RefP K er d xs H' c v := fun H2 E s2 => r H2 E (s.trans s2)
theorem ArgsP.later {d : Nat} {vs : List V} {H' : Hp} (h : ArgsP K er d H vs dv c) (s : Same H H') : ArgsP K er d H' vs dv c := by
  obtain ⟨ds, v, a, b, e, f, g⟩ := h
  exact ⟨ds, v, Dts.same s _ _ a, b, e, Dt.same s _ _ f, g.later s⟩
theorem lst_by {vs : List V} {Q : VK} (l : vs.length ≤ 1000) (h : ∀ a H', Same H H' → H' a = some (.lst vs) → Q (.ref a) H') : vs.length ≤ sizeLine ∧ ∀ p, H p = none → Q (.ref p) (upd H p (.lst vs)) :=
  ⟨Nat.le_of_lt (small1000 l), fun p hp => h p _ (same_new hp) upd_same⟩
theorem told_ne {td tb tl : TE} {σ : L2.St} {Q : VK} {d : Nat} (hd : ∀ H' (Q' : VK), Q' (.int (d : Nat)) H' → td σ H' Q')
    (hl : ∀ Q' : VK, (∀ a vs H', Same H H' → H' a = some (.lst vs) → ArgsP K er d H' vs dv c → Q' (.ref a) H') → tl σ H Q')
    (hb : ∀ H' (Q' : VK), Same H H' → (∀ v' H'', Same H' H'' → Dt K H'' v' dv → Q' v' H'') → tb σ H' Q')
    (sv : Sm dv) (cn : fiveN[n]? = some c) (d16 : d < 16) (q : ∀ H', Same H H' → Q (.bl false) H') :
    tOp (rNeD K) (tCall (spTold K er) [] E0 (tCons td (tCons tl tNil))) (tCall (spOnly K) [] E0 (tCons (tC (.int (n : Nat))) (tCons tb tNil))) σ H Q := by
  refine hd _ _ (hl _ fun a vs H1 s1 h1 A => ?_)
  obtain ⟨ds, v, dts, l4, sm, dt, rf⟩ := A
  refine ⟨d, a, vs, ds, c, v, dv, rfl, d16, h1, dts, sm_args (by rw [← dts.length]; exact l4) sm, dt, sv.show, List.mem_of_getElem? cn, rf, fun p H2 s2 np hp => ?_⟩
  refine hb _ _ (s1.trans s2) fun v' H3 s3 dt' => ?_
  refine ⟨n, v', dv, rfl, (List.getElem?_eq_some_iff.mp cn).1, dt', sv.show, fun p2 H4 s4 np2 hp2 => ?_⟩
  rw [five_num cn] at hp
  have tx := low_shown dv sv.2.2
  refine ⟨toldD n dv.shown, toldD n dv.shown, told_dp ((s3.trans s4) _ _ hp), told_dp hp2, told_shaped tx, told_shaped tx, ?_⟩
  rw [told_eqv]
  exact q _ (s1.trans (s2.trans (s3.trans s4)))
/-- the same where it is asked whether they are the same -/
theorem told_eq {td tb tl : TE} {σ : L2.St} {Q : VK} {d : Nat} (hd : ∀ H' (Q' : VK), Q' (.int (d : Nat)) H' → td σ H' Q')
    (hl : ∀ Q' : VK, (∀ a vs H', Same H H' → H' a = some (.lst vs) → ArgsP K er d H' vs dv c → Q' (.ref a) H') → tl σ H Q')
    (hb : ∀ H' (Q' : VK), Same H H' → (∀ v' H'', Same H' H'' → Dt K H'' v' dv → Q' v' H'') → tb σ H' Q')
    (sv : Sm dv) (cn : fiveN[n]? = some c) (d16 : d < 16) (q : ∀ H', Same H H' → Q (.bl true) H') :
    tOp (rEqD K) (tCall (spTold K er) [] E0 (tCons td (tCons tl tNil))) (tCall (spOnly K) [] E0 (tCons (tC (.int (n : Nat))) (tCons tb tNil))) σ H Q := by
  refine hd _ _ (hl _ fun a vs H1 s1 h1 A => ?_)
  obtain ⟨ds, v, dts, l4, sm, dt, rf⟩ := A
  refine ⟨d, a, vs, ds, c, v, dv, rfl, d16, h1, dts, sm_args (by rw [← dts.length]; exact l4) sm, dt, sv.show, List.mem_of_getElem? cn, rf, fun p H2 s2 np hp => ?_⟩
  refine hb _ _ (s1.trans s2) fun v' H3 s3 dt' => ?_
  refine ⟨n, v', dv, rfl, (List.getElem?_eq_some_iff.mp cn).1, dt', sv.show, fun p2 H4 s4 np2 hp2 => ?_⟩
  rw [five_num cn] at hp
  have tx := low_shown dv sv.2.2
  refine ⟨toldD n dv.shown, toldD n dv.shown, told_dp ((s3.trans s4) _ _ hp), told_dp hp2, told_shaped tx, told_shaped tx, ?_⟩
  rw [told_eqv]
  exact q _ (s1.trans (s2.trans (s3.trans s4)))
theorem told_list {tb tl t0 : TE} {σ : L2.St} {Q : Bool → Hp → Prop} {js : List Nat} {k : Nat}
    (hl : ∀ Q' : VK, (∀ l H', Same H H' → H' l = some (.lst (natV js)) → Q' (.ref l) H') → t0 σ H Q')
    (hk : ∀ j : Nat, wipe ((wipe σ [k]).set k (some (.int (j : Nat)))) [k] = wipe σ [k] ∧ ((wipe σ [k]).set k (some (.int (j : Nat))))[k]? = some (some (.int (j : Nat))))
    (ha : ∀ (j : Nat) (H2 : Hp) (Q' : VK), j ∈ js → Same H H2 → (∀ a vs H', Same H2 H' → H' a = some (.lst vs) → ArgsP K er j H' vs dv c → Q' (.ref a) H') → tl ((wipe σ [k]).set k (some (.int (j : Nat)))) H2 Q')
    (hb : ∀ (j : Nat) H' (Q' : VK), Same H H' → (∀ v' H'', Same H' H'' → Dt K H'' v' dv → Q' v' H'') → tb ((wipe σ [k]).set k (some (.int (j : Nat)))) H' Q')
    (sv : Sm dv) (cn : fiveN[n]? = some c) (d16 : ∀ j ∈ js, j < 16) (q : ∀ H', Same H H' → Q false H') :
    tTest (tOp (rNeNil K) (tLc (iList K t0) (gName k) (tTest (tOp (rNeD K) (tCall (spTold K er) [] E0 (tCons (tVar k) (tCons tl tNil))) (tCall (spOnly K) [] E0 (tCons (tC (.int (n : Nat))) (tCons tb tNil))))) (tVar k) [k]) (tLst tNil)) σ H Q := by
  have key : ∀ i, i < js.length → js.getD i 0 ∈ js := fun i hi => by
    rw [List.getD_eq_getElem?_getD, List.getElem?_eq_getElem hi]
    exact List.getElem_mem hi
  refine hl _ fun l H0 s0 h0 => ⟨l, rfl, ⟨_, SqL.of h0⟩, fun D hD => ?_⟩
  refine lc_it (walk_list (K := K) (a := l) (xs := natV js)) (fun i H' => Same H0 H' ∧ H' D = some (.lst [])) ⟨same_new hD, upd_same⟩ (fun i H' _ z => SqL.of (z.1 _ _ h0)) ?_ ?_
  · rintro i x H1 H2 hi' ⟨s1, h1⟩ ⟨rfl, ex⟩
    have il : i < js.length := by
      rw [natV, List.length_map] at hi'
      exact hi'
    have e2 : (natV js)[i]? = some x := ex
    unfold natV at e2
    rw [List.getElem?_map, List.getElem?_eq_getElem il] at e2
    cases e2
    have jm : js[i] ∈ js := List.getElem_mem il
    refine gName_by ⟨(hk _).1, ?_⟩
    have s01 := s0.trans s1
    refine told_ne (c := c) (dv := dv) (d := js[i]) (fun H' Q' z => ⟨_, (hk _).2, z⟩) (fun Q' z => ha _ _ Q' jm s01 z) (fun H' Q' s' z => hb _ H' Q' (s01.trans s') z) sv cn (d16 _ jm) fun H' s' => ?_
    exact ⟨_, rfl, iteF ⟨s1.trans s', s' _ _ h1⟩⟩
  · rintro H1 ⟨s1, h1⟩
    refine ⟨Nat.zero_le _, fun p hp => ?_⟩
    obtain ⟨H2, e2, s2, f2⟩ := gen H1 hp (.lst [])
    rw [e2]
    exact ⟨D, p, [], rfl, rfl, SqL.of (s2 _ _ h1), SqL.of f2, _, rfl, q _ (s0.trans (s1.trans s2))⟩
theorem told_range {tb tl : TE} {ta : TA} {σ : L2.St} {Q : Bool → Hp → Prop} {lo hi k : Nat} (l16 : lo ≤ hi) (h16 : hi ≤ 16)
    (hl : ∀ Q' : List V → Hp → Prop, Q' [.int (lo : Nat), .int (hi : Nat)] H → ta σ H Q')
    (hk : ∀ j : Nat, wipe ((wipe σ [k]).set k (some (.int (j : Nat)))) [k] = wipe σ [k] ∧ ((wipe σ [k]).set k (some (.int (j : Nat))))[k]? = some (some (.int (j : Nat))))
    (ha : ∀ (j : Nat) (H2 : Hp) (Q' : VK), lo ≤ j → j < hi → Same H H2 → (∀ a vs H', Same H2 H' → H' a = some (.lst vs) → ArgsP K er j H' vs dv c → Q' (.ref a) H') → tl ((wipe σ [k]).set k (some (.int (j : Nat)))) H2 Q')
    (hb : ∀ (j : Nat) H' (Q' : VK), Same H H' → (∀ v' H'', Same H' H'' → Dt K H'' v' dv → Q' v' H'') → tb ((wipe σ [k]).set k (some (.int (j : Nat)))) H' Q')
    (sv : Sm dv) (cn : fiveN[n]? = some c) (q : ∀ H', Same H H' → Q false H') :
    tTest (tOp (rNeNil K) (tLc (iRng2 ta) (gName k) (tTest (tOp (rNeD K) (tCall (spTold K er) [] E0 (tCons (tVar k) (tCons tl tNil))) (tCall (spOnly K) [] E0 (tCons (tC (.int (n : Nat))) (tCons tb tNil))))) (tVar k) [k]) (tLst tNil)) σ H Q := by
  refine hl _ ⟨_, _, rfl, by omega, fun D hD => ?_⟩
  rw [show (((hi : Nat) : Int) - ((lo : Nat) : Int)).toNat = hi - lo by omega]
  refine lc_it (walk_from (a := lo) (n := hi - lo)) (fun i H' => Same H H' ∧ H' D = some (.lst [])) ⟨same_new hD, upd_same⟩ (fun i H' _ z => trivial) ?_ ?_
  · rintro i x H1 H2 hi' ⟨s1, h1⟩ ⟨rfl, rfl⟩
    refine gName_by ⟨(hk _).1, ?_⟩
    refine told_ne (c := c) (dv := dv) (d := lo + i) (fun H' Q' z => ⟨_, (hk _).2, z⟩) (fun Q' z => ha _ _ Q' (by omega) (by omega) s1 z) (fun H' Q' s' z => hb _ H' Q' (s1.trans s') z) sv cn (by omega) fun H' s' => ?_
    exact ⟨_, rfl, iteF ⟨s1.trans s', s' _ _ h1⟩⟩
  · rintro H1 ⟨s1, h1⟩
    refine ⟨Nat.zero_le _, fun p hp => ?_⟩
    obtain ⟨H2, e2, s2, f2⟩ := gen H1 hp (.lst [])
    rw [e2]
    exact ⟨D, p, [], rfl, rfl, SqL.of (s2 _ _ h1), SqL.of f2, _, rfl, q _ (s1.trans s2)⟩
/-! ### why a door refuses -/
/-- a door's own checks, by the data -/
theorem refP {d : Nat} {xs : List V} {ds : List PyData} {v : V} (d14 : d ≤ 14) (l : arity d ≤ xs.length) (h : Dts K H xs ds) (br : ∀ e ∈ ds, Sm e) (r : refD (xs.take (arity d)) (ds.take (arity d)) d = some (c, v)) : RefP K er d xs H c v := fun H' E s rf => by
  refine .inl ⟨d14, l, ds.take (arity d), by rw [List.length_take]; omega, ?_, fun e he => (br e (List.mem_of_mem_take he)).2.1, c, v, r, rf⟩
  have tk : ∀ (n : Nat) (xs : List V) (ds : List PyData), Dts K H xs ds → Dts K H' (xs.take n) (ds.take n) := by
    intro n
    induction n with
    | zero => exact fun _ _ _ => .nil
    | succ n ih =>
      intro xs ds h
      cases h with
      | nil => exact .nil
      | cons a b => exact .cons (Dt.same s _ _ a) (ih _ _ b)
  exact tk _ _ _ h
end
end GL

namespace K56
open PySem PySem.Spec PyProof.Rows
open L2 hiding spCell rLen
open GL
section
variable {P : Program} {w : World} {K : PySem.W.Frag} {mg : Str → Option Value} {base : Heap}
variable {er : Str → Addr}
noncomputable abbrev sOnly : Stmt := topS 114
noncomputable abbrev nOnly : List Str := ["_law_at", "_law_value"]
theorem scOnly : FnScope nOnly ["_law_at", "_law_value"] (defScope sOnly) := ⟨rfl, rfl, rfl, by decide +kernel, rfl, by decide +kernel, by decide +kernel⟩
theorem ok_only {f : Addr} {fd : FuncData} (F : Fun K "_law_only" "_law_only" sOnly f fd) (T : Bi mg) : FnG P w K mg base CX0 2 f fd ["_law_at", "_law_value"] (spOnly K) := by
  refine FnG.mk' F scOnly (fun vs H Q E h => ?_) (fun cdv A outer s H vs Q E hgd hr h => ?_)
  · obtain ⟨n, v, dv, rfl, _⟩ := h
    rfl
  · obtain ⟨n, v, dv, rfl, n5, dt, so, q⟩ := h
    have hgd' : (A.deeper (envOfC "_law_only" (defScope sOnly) s.heap.objs.size f cdv)).guards = some [] := hgd
    refine ⟨_, (pss_one (ps_ret (pe_lst (pa_cons (pe_cmpR op_eq (pv 0) pe_int (nomark _)) (pa_cons (pe_cmpR op_eq (pv 0) pe_int (nomark _)) (pa_cons (pe_cmpR op_eq (pv 0) pe_int (nomark _)) (pa_cons (pe_cmpR op_eq (pv 0) pe_int (nomark _)) (pa_cons (pe_cmpR op_eq (pv 0) pe_int (nomark _)) (pa_cons (pe_callB (call_repD hgd' hr.units) (by rfl) T.repr (by decide +kernel) (pa_cons (pv 1) pa_nil)) pa_nil))))))))), ?_⟩
    have fin : ∀ (p : Addr) (bs : List V), bs = numV n ++ [.str dv.shown] → H p = none → Q (.ref p) (upd H p (.lst bs)) := fun p bs e np => by
      subst e
      exact q p _ (same_new np) np upd_same
    obtain rfl | rfl | rfl | rfl | rfl : n = 0 ∨ n = 1 ∨ n = 2 ∨ n = 3 ∨ n = 4 := by omega
    all_goals exact ⟨_, rfl, rfl, _, rfl, rfl, _, rfl, rfl, _, rfl, rfl, _, rfl, rfl, _, rfl, v, dv, rfl, dt, so.1, so.2.1, so.2.2, (by show 6 ≤ sizeLine; decide), fun p np => fin p _ rfl np⟩
noncomputable abbrev sFirstP : Stmt := topS 112
noncomputable abbrev nFirstP : List Str := ["_law_door", "_law_args"]
theorem scFirstP : FnScope nFirstP ["_law_door", "_law_args"] (defScope sFirstP) := ⟨rfl, rfl, rfl, by decide +kernel, rfl, by decide +kernel, by decide +kernel⟩
theorem ok_firstP {f : Addr} {fd : FuncData} (F : Fun K "_law_first" "_law_first" sFirstP f fd) (T : Bi mg) (Urun : UseX P w K mg base "run" ["kinds", "company", "program"] (spD0 K er) 7) (Ustateafter : UseX P w K mg base "state_after" ["kinds", "lot", "state", "program"] (spD2 K er) 7) (Ublocksof : UseX P w K mg base "blocks_of" ["kinds", "company", "program"] (spD1 K er) 7) (Urunoften : UseX P w K mg base "run_often" ["kinds", "company", "program", "times"] (spD3 K er) 7) : FnOk P w K mg base (L2.CX P w) 8 f fd ["_law_door", "_law_args"] (spFirstP K er) := by
  refine F.okX scFirstP (fun vs H Q E h => ?_) (fun cdv A outer s H vs Q E hr h => ?_)
  · obtain ⟨d, a, xs, rfl, _⟩ := h
    rfl
  · obtain ⟨d, a, xs, rfl, d4, ha, h⟩ := h
    refine ⟨_, (pss_cons (ps_if (pt_cmpR op_eq (pv 0) pe_int (nomark _))
        (pss_one (ps_ret (pe_useX Urun hr (takes_of rfl rfl rfl rfl) (by rfl) (pa_cons (pe_ix ix_list (pv 1) pe_int (fun _ _ => rfl)) (pa_cons (pe_ix ix_list (pv 1) pe_int (fun _ _ => rfl)) (pa_cons (pe_ix ix_list (pv 1) pe_int (fun _ _ => rfl)) pa_nil)))))) pss_nil)
      (pss_cons (ps_if (pt_cmpR op_eq (pv 0) pe_int (nomark _))
        (pss_one (ps_ret (pe_useX Ublocksof hr (takes_of rfl rfl rfl rfl) (by rfl) (pa_cons (pe_ix ix_list (pv 1) pe_int (fun _ _ => rfl)) (pa_cons (pe_ix ix_list (pv 1) pe_int (fun _ _ => rfl)) (pa_cons (pe_ix ix_list (pv 1) pe_int (fun _ _ => rfl)) pa_nil)))))) pss_nil)
      (pss_one (ps_ret (pe_ifExp (pt_cmpR op_eq (pv 0) pe_int (nomark _)) (pe_useX Ustateafter hr (takes_of rfl rfl rfl rfl) (by rfl) (pa_cons (pe_ix ix_list (pv 1) pe_int (fun _ _ => rfl)) (pa_cons (pe_ix ix_list (pv 1) pe_int (fun _ _ => rfl)) (pa_cons (pe_ix ix_list (pv 1) pe_int (fun _ _ => rfl)) (pa_cons (pe_ix ix_list (pv 1) pe_int (fun _ _ => rfl)) pa_nil))))) (pe_useX Urunoften hr (takes_of rfl rfl rfl rfl) (by rfl) (pa_cons (pe_ix ix_list (pv 1) pe_int (fun _ _ => rfl)) (pa_cons (pe_ix ix_list (pv 1) pe_int (fun _ _ => rfl)) (pa_cons (pe_ix ix_list (pv 1) pe_int (fun _ _ => rfl)) (pa_cons (pe_ix ix_list (pv 1) pe_int (fun _ _ => rfl)) pa_nil)))))))))), ?_⟩
    obtain ⟨l, h⟩ := h.lo (by omega)
    obtain rfl | rfl | rfl | rfl : d = 0 ∨ d = 1 ∨ d = 2 ∨ d = 3 := by omega
    ·
      obtain ⟨x, y, z, r, rfl⟩ : ∃ x y z r, xs = x :: y :: z :: r := by
        exact hd3 l
      replace h : spRef 0 K er [x, y, z] H (fun _ _ => False) E := h
      refine ⟨_, rfl, rfl, _, rfl, iteT ⟨_, rfl, a, _, _, x, rfl, rfl, SqL.of ha, at_of (j := 0) rfl rfl, _, rfl, a, _, _, y, rfl, rfl, SqL.of ha, at_of (j := 1) rfl rfl, _, rfl, a, _, _, z, rfl, rfl, SqL.of ha, at_of (j := 2) rfl rfl, h⟩⟩
    ·
      obtain ⟨x, y, z, r, rfl⟩ : ∃ x y z r, xs = x :: y :: z :: r := by
        exact hd3 l
      replace h : spRef 1 K er [x, y, z] H (fun _ _ => False) E := h
      refine ⟨_, rfl, rfl, _, rfl, iteF ⟨_, rfl, rfl, _, rfl, iteT ⟨_, rfl, a, _, _, x, rfl, rfl, SqL.of ha, at_of (j := 0) rfl rfl, _, rfl, a, _, _, y, rfl, rfl, SqL.of ha, at_of (j := 1) rfl rfl, _, rfl, a, _, _, z, rfl, rfl, SqL.of ha, at_of (j := 2) rfl rfl, h⟩⟩⟩
    ·
      obtain ⟨x, y, z, u, r, rfl⟩ : ∃ x y z u r, xs = x :: y :: z :: u :: r := by
        exact hd4 l
      replace h : spRef 2 K er [x, y, z, u] H (fun _ _ => False) E := h
      refine ⟨_, rfl, rfl, _, rfl, iteF ⟨_, rfl, rfl, _, rfl, iteF ⟨_, rfl, rfl, _, rfl, iteT ⟨_, rfl, a, _, _, x, rfl, rfl, SqL.of ha, at_of (j := 0) rfl rfl, _, rfl, a, _, _, y, rfl, rfl, SqL.of ha, at_of (j := 1) rfl rfl, _, rfl, a, _, _, z, rfl, rfl, SqL.of ha, at_of (j := 2) rfl rfl, _, rfl, a, _, _, u, rfl, rfl, SqL.of ha, at_of (j := 3) rfl rfl, h⟩⟩⟩⟩
    ·
      obtain ⟨x, y, z, u, r, rfl⟩ : ∃ x y z u r, xs = x :: y :: z :: u :: r := by
        exact hd4 l
      replace h : spRef 3 K er [x, y, z, u] H (fun _ _ => False) E := h
      refine ⟨_, rfl, rfl, _, rfl, iteF ⟨_, rfl, rfl, _, rfl, iteF ⟨_, rfl, rfl, _, rfl, iteF ⟨_, rfl, a, _, _, x, rfl, rfl, SqL.of ha, at_of (j := 0) rfl rfl, _, rfl, a, _, _, y, rfl, rfl, SqL.of ha, at_of (j := 1) rfl rfl, _, rfl, a, _, _, z, rfl, rfl, SqL.of ha, at_of (j := 2) rfl rfl, _, rfl, a, _, _, u, rfl, rfl, SqL.of ha, at_of (j := 3) rfl rfl, h⟩⟩⟩⟩
noncomputable abbrev sCalledP : Stmt := topS 111
noncomputable abbrev nCalledP : List Str := ["_law_door", "_law_args"]
theorem scCalledP : FnScope nCalledP ["_law_door", "_law_args"] (defScope sCalledP) := ⟨rfl, rfl, rfl, by decide +kernel, rfl, by decide +kernel, by decide +kernel⟩
theorem ok_calledP {f : Addr} {fd : FuncData} (F : Fun K "_law_called" "_law_called" sCalledP f fd) (T : Bi mg) (Ustatesof : UseX P w K mg base "states_of" ["kinds", "lot"] (spD7 K er) 7) (Uhowmanystates : UseX P w K mg base "how_many_states" ["kinds", "many"] (spHowMany K er) 7) (Uprogramsalike : UseX P w K mg base "programs_alike" ["kinds", "one", "other"] (spD4 K er) 7) (Upartingstate : UseX P w K mg base "parting_state" ["kinds", "one", "other"] (spD5 K er) 7) (Upartingcompany : UseX P w K mg base "parting_company" ["kinds", "one", "other"] (spD6 K er) 7) (Uundoneprogram : UseX P w K mg base "undone_program" ["kinds", "program"] (spD9 K er) 7) (Uroundsof : UseX P w K mg base "rounds_of" ["kinds", "program"] (spD10 K er) 7) (Ushuffleof : UseX P w K mg base "shuffle_of" ["kinds", "lot", "program"] (spD8 K er) 7) (Uistold : UseX P w K mg base "is_told" ["kinds", "many", "value"] (spToldX K er) 7) (Umadeprogram : UseX P w K mg base "made_program" ["kinds", "family"] (spMadeP K er) 7) (Uhowmanyprograms : UseX P w K mg base "how_many_programs" ["kinds", "many"] (spHowProgs K er) 7) (Ushortestprogram : UseX P w K mg base "shortest_program" ["program"] (spD14 K er) 7) (ULfirst : UseX P w K mg base "_law_first" ["_law_door", "_law_args"] (spFirstP K er) 8) : FnOk P w K mg base (L2.CX P w) 9 f fd ["_law_door", "_law_args"] (spCalledP K er) := by
  refine F.okX scCalledP (fun vs H Q E h => ?_) (fun cdv A outer s H vs Q E hr h => ?_)
  · obtain ⟨d, a, xs, rfl, _⟩ := h
    rfl
  · obtain ⟨d, a, xs, rfl, d16, ha, h⟩ := h
    refine ⟨_, (pss_cons (ps_if (pt_cmpR op_lt (pv 0) pe_int (nomark _))
        (pss_one (ps_ret (pe_useX ULfirst hr (takes_of rfl rfl rfl rfl) (by rfl) (pa_cons (pv 0) (pa_cons (pv 1) pa_nil))))) pss_nil)
      (pss_cons (ps_if (pt_cmpR op_eq (pv 0) pe_int (nomark _))
        (pss_one (ps_ret (pe_useX Uprogramsalike (hr.mono (by decide)) (takes_of rfl rfl rfl rfl) (by rfl) (pa_cons (pe_ix ix_list (pv 1) pe_int (fun _ _ => rfl)) (pa_cons (pe_ix ix_list (pv 1) pe_int (fun _ _ => rfl)) (pa_cons (pe_ix ix_list (pv 1) pe_int (fun _ _ => rfl)) pa_nil)))))) pss_nil)
      (pss_cons (ps_if (pt_cmpR op_eq (pv 0) pe_int (nomark _))
        (pss_one (ps_ret (pe_useX Upartingstate (hr.mono (by decide)) (takes_of rfl rfl rfl rfl) (by rfl) (pa_cons (pe_ix ix_list (pv 1) pe_int (fun _ _ => rfl)) (pa_cons (pe_ix ix_list (pv 1) pe_int (fun _ _ => rfl)) (pa_cons (pe_ix ix_list (pv 1) pe_int (fun _ _ => rfl)) pa_nil)))))) pss_nil)
      (pss_cons (ps_if (pt_cmpR op_eq (pv 0) pe_int (nomark _))
        (pss_one (ps_ret (pe_useX Upartingcompany (hr.mono (by decide)) (takes_of rfl rfl rfl rfl) (by rfl) (pa_cons (pe_ix ix_list (pv 1) pe_int (fun _ _ => rfl)) (pa_cons (pe_ix ix_list (pv 1) pe_int (fun _ _ => rfl)) (pa_cons (pe_ix ix_list (pv 1) pe_int (fun _ _ => rfl)) pa_nil)))))) pss_nil)
      (pss_cons (ps_if (pt_cmpR op_eq (pv 0) pe_int (nomark _))
        (pss_one (ps_ret (pe_useX Ustatesof (hr.mono (by decide)) (takes_of rfl rfl rfl rfl) (by rfl) (pa_cons (pe_ix ix_list (pv 1) pe_int (fun _ _ => rfl)) (pa_cons (pe_ix ix_list (pv 1) pe_int (fun _ _ => rfl)) pa_nil))))) pss_nil)
      (pss_cons (ps_if (pt_cmpR op_eq (pv 0) pe_int (nomark _))
        (pss_one (ps_ret (pe_useX Ushuffleof (hr.mono (by decide)) (takes_of rfl rfl rfl rfl) (by rfl) (pa_cons (pe_ix ix_list (pv 1) pe_int (fun _ _ => rfl)) (pa_cons (pe_ix ix_list (pv 1) pe_int (fun _ _ => rfl)) (pa_cons (pe_ix ix_list (pv 1) pe_int (fun _ _ => rfl)) pa_nil)))))) pss_nil)
      (pss_cons (ps_if (pt_cmpR op_eq (pv 0) pe_int (nomark _))
        (pss_one (ps_ret (pe_useX Uundoneprogram (hr.mono (by decide)) (takes_of rfl rfl rfl rfl) (by rfl) (pa_cons (pe_ix ix_list (pv 1) pe_int (fun _ _ => rfl)) (pa_cons (pe_ix ix_list (pv 1) pe_int (fun _ _ => rfl)) pa_nil))))) pss_nil)
      (pss_cons (ps_if (pt_cmpR op_eq (pv 0) pe_int (nomark _))
        (pss_one (ps_ret (pe_useX Uroundsof (hr.mono (by decide)) (takes_of rfl rfl rfl rfl) (by rfl) (pa_cons (pe_ix ix_list (pv 1) pe_int (fun _ _ => rfl)) (pa_cons (pe_ix ix_list (pv 1) pe_int (fun _ _ => rfl)) pa_nil))))) pss_nil)
      (pss_cons (ps_if (pt_cmpR op_eq (pv 0) pe_int (nomark _))
        (pss_one (ps_ret (pe_useX Uhowmanystates (hr.mono (by decide)) (takes_of rfl rfl rfl rfl) (by rfl) (pa_cons (pe_ix ix_list (pv 1) pe_int (fun _ _ => rfl)) (pa_cons (pe_ix ix_list (pv 1) pe_int (fun _ _ => rfl)) pa_nil))))) pss_nil)
      (pss_cons (ps_if (pt_cmpR op_eq (pv 0) pe_int (nomark _))
        (pss_one (ps_ret (pe_useX Uhowmanyprograms (hr.mono (by decide)) (takes_of rfl rfl rfl rfl) (by rfl) (pa_cons (pe_ix ix_list (pv 1) pe_int (fun _ _ => rfl)) (pa_cons (pe_ix ix_list (pv 1) pe_int (fun _ _ => rfl)) pa_nil))))) pss_nil)
      (pss_cons (ps_if (pt_cmpR op_eq (pv 0) pe_int (nomark _))
        (pss_one (ps_ret (pe_useX Uistold (hr.mono (by decide)) (takes_of rfl rfl rfl rfl) (by rfl) (pa_cons (pe_ix ix_list (pv 1) pe_int (fun _ _ => rfl)) (pa_cons (pe_ix ix_list (pv 1) pe_int (fun _ _ => rfl)) (pa_cons (pe_ix ix_list (pv 1) pe_int (fun _ _ => rfl)) pa_nil)))))) pss_nil)
      (pss_one (ps_ret (pe_ifExp (pt_cmpR op_eq (pv 0) pe_int (nomark _)) (pe_useX Ushortestprogram (hr.mono (by decide)) (takes_of rfl rfl rfl rfl) (by rfl) (pa_cons (pe_ix ix_list (pv 1) pe_int (fun _ _ => rfl)) pa_nil)) (pe_useX Umadeprogram (hr.mono (by decide)) (takes_of rfl rfl rfl rfl) (by rfl) (pa_cons (pe_ix ix_list (pv 1) pe_int (fun _ _ => rfl)) (pa_cons (pe_ix ix_list (pv 1) pe_int (fun _ _ => rfl)) pa_nil))))))))))))))))), ?_⟩
    by_cases d4 : d < 4
    · refine ⟨_, rfl, _, _, rfl, rfl, _, rfl, ?_⟩
      refine ite2 (fun _ => ⟨_, rfl, _, rfl, d, a, xs, rfl, d4, ha, h⟩) (fun z => absurd (decide_eq_true (by omega)) z)
    obtain rfl | rfl | rfl | rfl | rfl | rfl | rfl | rfl | rfl | rfl | rfl | rfl : d = 4 ∨ d = 5 ∨ d = 6 ∨ d = 7 ∨ d = 8 ∨ d = 9 ∨ d = 10 ∨ d = 11 ∨ d = 12 ∨ d = 13 ∨ d = 14 ∨ d = 15 := by omega
    ·
      obtain ⟨l, h⟩ := h.lo (by decide)
      obtain ⟨x, y, z, r, rfl⟩ : ∃ x y z r, xs = x :: y :: z :: r := by
        exact hd3 l
      replace h : spRef 4 K er [x, y, z] H (fun _ _ => False) E := h
      refine ⟨_, rfl, _, _, rfl, rfl, _, rfl, iteF ?_⟩
      refine ⟨_, rfl, rfl, _, rfl, iteT ?_⟩
      exact ⟨_, rfl, a, _, _, x, rfl, rfl, SqL.of ha, at_of (j := 0) rfl rfl, _, rfl, a, _, _, y, rfl, rfl, SqL.of ha, at_of (j := 1) rfl rfl, _, rfl, a, _, _, z, rfl, rfl, SqL.of ha, at_of (j := 2) rfl rfl, h⟩
    ·
      obtain ⟨l, h⟩ := h.lo (by decide)
      obtain ⟨x, y, z, r, rfl⟩ : ∃ x y z r, xs = x :: y :: z :: r := by
        exact hd3 l
      replace h : spRef 5 K er [x, y, z] H (fun _ _ => False) E := h
      refine ⟨_, rfl, _, _, rfl, rfl, _, rfl, iteF ?_⟩
      refine ⟨_, rfl, rfl, _, rfl, iteF ?_⟩
      refine ⟨_, rfl, rfl, _, rfl, iteT ?_⟩
      exact ⟨_, rfl, a, _, _, x, rfl, rfl, SqL.of ha, at_of (j := 0) rfl rfl, _, rfl, a, _, _, y, rfl, rfl, SqL.of ha, at_of (j := 1) rfl rfl, _, rfl, a, _, _, z, rfl, rfl, SqL.of ha, at_of (j := 2) rfl rfl, h⟩
    ·
      obtain ⟨l, h⟩ := h.lo (by decide)
      obtain ⟨x, y, z, r, rfl⟩ : ∃ x y z r, xs = x :: y :: z :: r := by
        exact hd3 l
      replace h : spRef 6 K er [x, y, z] H (fun _ _ => False) E := h
      refine ⟨_, rfl, _, _, rfl, rfl, _, rfl, iteF ?_⟩
      refine ⟨_, rfl, rfl, _, rfl, iteF ?_⟩
      refine ⟨_, rfl, rfl, _, rfl, iteF ?_⟩
      refine ⟨_, rfl, rfl, _, rfl, iteT ?_⟩
      exact ⟨_, rfl, a, _, _, x, rfl, rfl, SqL.of ha, at_of (j := 0) rfl rfl, _, rfl, a, _, _, y, rfl, rfl, SqL.of ha, at_of (j := 1) rfl rfl, _, rfl, a, _, _, z, rfl, rfl, SqL.of ha, at_of (j := 2) rfl rfl, h⟩
    ·
      obtain ⟨l, h⟩ := h.lo (by decide)
      obtain ⟨x, y, r, rfl⟩ : ∃ x y r, xs = x :: y :: r := by
        exact hd2 l
      replace h : spRef 7 K er [x, y] H (fun _ _ => False) E := h
      refine ⟨_, rfl, _, _, rfl, rfl, _, rfl, iteF ?_⟩
      refine ⟨_, rfl, rfl, _, rfl, iteF ?_⟩
      refine ⟨_, rfl, rfl, _, rfl, iteF ?_⟩
      refine ⟨_, rfl, rfl, _, rfl, iteF ?_⟩
      refine ⟨_, rfl, rfl, _, rfl, iteT ?_⟩
      exact ⟨_, rfl, a, _, _, x, rfl, rfl, SqL.of ha, at_of (j := 0) rfl rfl, _, rfl, a, _, _, y, rfl, rfl, SqL.of ha, at_of (j := 1) rfl rfl, h⟩
    ·
      obtain ⟨l, h⟩ := h.lo (by decide)
      obtain ⟨x, y, z, r, rfl⟩ : ∃ x y z r, xs = x :: y :: z :: r := by
        exact hd3 l
      replace h : spRef 8 K er [x, y, z] H (fun _ _ => False) E := h
      refine ⟨_, rfl, _, _, rfl, rfl, _, rfl, iteF ?_⟩
      refine ⟨_, rfl, rfl, _, rfl, iteF ?_⟩
      refine ⟨_, rfl, rfl, _, rfl, iteF ?_⟩
      refine ⟨_, rfl, rfl, _, rfl, iteF ?_⟩
      refine ⟨_, rfl, rfl, _, rfl, iteF ?_⟩
      refine ⟨_, rfl, rfl, _, rfl, iteT ?_⟩
      exact ⟨_, rfl, a, _, _, x, rfl, rfl, SqL.of ha, at_of (j := 0) rfl rfl, _, rfl, a, _, _, y, rfl, rfl, SqL.of ha, at_of (j := 1) rfl rfl, _, rfl, a, _, _, z, rfl, rfl, SqL.of ha, at_of (j := 2) rfl rfl, h⟩
    ·
      obtain ⟨l, h⟩ := h.lo (by decide)
      obtain ⟨x, y, r, rfl⟩ : ∃ x y r, xs = x :: y :: r := by
        exact hd2 l
      replace h : spRef 9 K er [x, y] H (fun _ _ => False) E := h
      refine ⟨_, rfl, _, _, rfl, rfl, _, rfl, iteF ?_⟩
      refine ⟨_, rfl, rfl, _, rfl, iteF ?_⟩
      refine ⟨_, rfl, rfl, _, rfl, iteF ?_⟩
      refine ⟨_, rfl, rfl, _, rfl, iteF ?_⟩
      refine ⟨_, rfl, rfl, _, rfl, iteF ?_⟩
      refine ⟨_, rfl, rfl, _, rfl, iteF ?_⟩
      refine ⟨_, rfl, rfl, _, rfl, iteT ?_⟩
      exact ⟨_, rfl, a, _, _, x, rfl, rfl, SqL.of ha, at_of (j := 0) rfl rfl, _, rfl, a, _, _, y, rfl, rfl, SqL.of ha, at_of (j := 1) rfl rfl, h⟩
    ·
      obtain ⟨l, h⟩ := h.lo (by decide)
      obtain ⟨x, y, r, rfl⟩ : ∃ x y r, xs = x :: y :: r := by
        exact hd2 l
      replace h : spRef 10 K er [x, y] H (fun _ _ => False) E := h
      refine ⟨_, rfl, _, _, rfl, rfl, _, rfl, iteF ?_⟩
      refine ⟨_, rfl, rfl, _, rfl, iteF ?_⟩
      refine ⟨_, rfl, rfl, _, rfl, iteF ?_⟩
      refine ⟨_, rfl, rfl, _, rfl, iteF ?_⟩
      refine ⟨_, rfl, rfl, _, rfl, iteF ?_⟩
      refine ⟨_, rfl, rfl, _, rfl, iteF ?_⟩
      refine ⟨_, rfl, rfl, _, rfl, iteF ?_⟩
      refine ⟨_, rfl, rfl, _, rfl, iteT ?_⟩
      exact ⟨_, rfl, a, _, _, x, rfl, rfl, SqL.of ha, at_of (j := 0) rfl rfl, _, rfl, a, _, _, y, rfl, rfl, SqL.of ha, at_of (j := 1) rfl rfl, h⟩
    ·
      obtain ⟨l, h⟩ := h.lo (by decide)
      obtain ⟨x, y, r, rfl⟩ : ∃ x y r, xs = x :: y :: r := by
        exact hd2 l
      replace h : spRef 11 K er [x, y] H (fun _ _ => False) E := h
      refine ⟨_, rfl, _, _, rfl, rfl, _, rfl, iteF ?_⟩
      refine ⟨_, rfl, rfl, _, rfl, iteF ?_⟩
      refine ⟨_, rfl, rfl, _, rfl, iteF ?_⟩
      refine ⟨_, rfl, rfl, _, rfl, iteF ?_⟩
      refine ⟨_, rfl, rfl, _, rfl, iteF ?_⟩
      refine ⟨_, rfl, rfl, _, rfl, iteF ?_⟩
      refine ⟨_, rfl, rfl, _, rfl, iteF ?_⟩
      refine ⟨_, rfl, rfl, _, rfl, iteF ?_⟩
      refine ⟨_, rfl, rfl, _, rfl, iteT ?_⟩
      exact ⟨_, rfl, a, _, _, x, rfl, rfl, SqL.of ha, at_of (j := 0) rfl rfl, _, rfl, a, _, _, y, rfl, rfl, SqL.of ha, at_of (j := 1) rfl rfl, .inl h⟩
    ·
      obtain ⟨l, h⟩ := h.lo (by decide)
      obtain ⟨x, y, r, rfl⟩ : ∃ x y r, xs = x :: y :: r := by
        exact hd2 l
      replace h : spRef 12 K er [x, y] H (fun _ _ => False) E := h
      refine ⟨_, rfl, _, _, rfl, rfl, _, rfl, iteF ?_⟩
      refine ⟨_, rfl, rfl, _, rfl, iteF ?_⟩
      refine ⟨_, rfl, rfl, _, rfl, iteF ?_⟩
      refine ⟨_, rfl, rfl, _, rfl, iteF ?_⟩
      refine ⟨_, rfl, rfl, _, rfl, iteF ?_⟩
      refine ⟨_, rfl, rfl, _, rfl, iteF ?_⟩
      refine ⟨_, rfl, rfl, _, rfl, iteF ?_⟩
      refine ⟨_, rfl, rfl, _, rfl, iteF ?_⟩
      refine ⟨_, rfl, rfl, _, rfl, iteF ?_⟩
      refine ⟨_, rfl, rfl, _, rfl, iteT ?_⟩
      exact ⟨_, rfl, a, _, _, x, rfl, rfl, SqL.of ha, at_of (j := 0) rfl rfl, _, rfl, a, _, _, y, rfl, rfl, SqL.of ha, at_of (j := 1) rfl rfl, .inl h⟩
    ·
      obtain ⟨l, h⟩ := h.lo (by decide)
      obtain ⟨x, y, z, r, rfl⟩ : ∃ x y z r, xs = x :: y :: z :: r := by
        exact hd3 l
      replace h : spRef 13 K er [x, y, z] H (fun _ _ => False) E := h
      refine ⟨_, rfl, _, _, rfl, rfl, _, rfl, iteF ?_⟩
      refine ⟨_, rfl, rfl, _, rfl, iteF ?_⟩
      refine ⟨_, rfl, rfl, _, rfl, iteF ?_⟩
      refine ⟨_, rfl, rfl, _, rfl, iteF ?_⟩
      refine ⟨_, rfl, rfl, _, rfl, iteF ?_⟩
      refine ⟨_, rfl, rfl, _, rfl, iteF ?_⟩
      refine ⟨_, rfl, rfl, _, rfl, iteF ?_⟩
      refine ⟨_, rfl, rfl, _, rfl, iteF ?_⟩
      refine ⟨_, rfl, rfl, _, rfl, iteF ?_⟩
      refine ⟨_, rfl, rfl, _, rfl, iteF ?_⟩
      refine ⟨_, rfl, rfl, _, rfl, iteT ?_⟩
      exact ⟨_, rfl, a, _, _, x, rfl, rfl, SqL.of ha, at_of (j := 0) rfl rfl, _, rfl, a, _, _, y, rfl, rfl, SqL.of ha, at_of (j := 1) rfl rfl, _, rfl, a, _, _, z, rfl, rfl, SqL.of ha, at_of (j := 2) rfl rfl, .inl h⟩
    ·
      obtain ⟨l, h⟩ := h.lo (by decide)
      obtain ⟨x, r, rfl⟩ : ∃ x r, xs = x :: r := by
        exact hd1 l
      replace h : spRef 14 K er [x] H (fun _ _ => False) E := h
      refine ⟨_, rfl, _, _, rfl, rfl, _, rfl, iteF ?_⟩
      refine ⟨_, rfl, rfl, _, rfl, iteF ?_⟩
      refine ⟨_, rfl, rfl, _, rfl, iteF ?_⟩
      refine ⟨_, rfl, rfl, _, rfl, iteF ?_⟩
      refine ⟨_, rfl, rfl, _, rfl, iteF ?_⟩
      refine ⟨_, rfl, rfl, _, rfl, iteF ?_⟩
      refine ⟨_, rfl, rfl, _, rfl, iteF ?_⟩
      refine ⟨_, rfl, rfl, _, rfl, iteF ?_⟩
      refine ⟨_, rfl, rfl, _, rfl, iteF ?_⟩
      refine ⟨_, rfl, rfl, _, rfl, iteF ?_⟩
      refine ⟨_, rfl, rfl, _, rfl, iteF ?_⟩
      refine ⟨_, rfl, rfl, _, rfl, iteT ?_⟩
      exact ⟨_, rfl, a, _, _, x, rfl, rfl, SqL.of ha, at_of (j := 0) rfl rfl, h⟩
    ·
      obtain ⟨l, h⟩ := h.hi
      obtain ⟨x, y, r, rfl⟩ : ∃ x y r, xs = x :: y :: r := by
        exact hd2 l
      replace h : spMadeP K er [x, y] H (fun _ _ => False) E := h
      refine ⟨_, rfl, _, _, rfl, rfl, _, rfl, iteF ?_⟩
      refine ⟨_, rfl, rfl, _, rfl, iteF ?_⟩
      refine ⟨_, rfl, rfl, _, rfl, iteF ?_⟩
      refine ⟨_, rfl, rfl, _, rfl, iteF ?_⟩
      refine ⟨_, rfl, rfl, _, rfl, iteF ?_⟩
      refine ⟨_, rfl, rfl, _, rfl, iteF ?_⟩
      refine ⟨_, rfl, rfl, _, rfl, iteF ?_⟩
      refine ⟨_, rfl, rfl, _, rfl, iteF ?_⟩
      refine ⟨_, rfl, rfl, _, rfl, iteF ?_⟩
      refine ⟨_, rfl, rfl, _, rfl, iteF ?_⟩
      refine ⟨_, rfl, rfl, _, rfl, iteF ?_⟩
      refine ⟨_, rfl, rfl, _, rfl, iteF ?_⟩
      exact ⟨_, rfl, a, _, _, x, rfl, rfl, SqL.of ha, at_of (j := 0) rfl rfl, _, rfl, a, _, _, y, rfl, rfl, SqL.of ha, at_of (j := 1) rfl rfl, h⟩
noncomputable abbrev sTold : Stmt := topS 113
noncomputable abbrev nTold : List Str := ["_law_door", "_law_args", "_law_caught", "_law_kept", "error", "_law_kinds"]
theorem scTold : FnScope nTold ["_law_door", "_law_args"] (defScope sTold) := ⟨rfl, rfl, rfl, by decide +kernel, rfl, by decide +kernel, by decide +kernel⟩
theorem ok_told {f : Addr} {fd : FuncData} (F : Fun K "_law_told" "_law_told" sTold f fd) (T : Bi mg) (ER : Errs fiveN K mg er) (ULcalled : UseX P w K mg base "_law_called" ["_law_door", "_law_args"] (spCalledP K er) 9) : FnG P w K mg base CX0 10 f fd ["_law_door", "_law_args"] (spTold K er) := by
  refine FnG.mk' F scTold (fun vs H Q E h => ?_) (fun cdv A outer s H vs Q E hgd hr h => ?_)
  · obtain ⟨d, a, xs, ds, c, v, dv, rfl, _⟩ := h
    rfl
  · obtain ⟨d, a, xs, ds, c, v, dv, rfl, d16, ha, hx, so, dt, sv, cm, rf, q⟩ := h
    have hgd' : (A.deeper (envOfC "_law_told" (defScope sTold) s.heap.objs.size f cdv)).guards = some [] := hgd
    refine ⟨_, (pss_cons (ps_par (i := 2) (j := 3) rfl scTold.nd rfl rfl (by decide) rfl rfl (pa_cons pe_non (pa_cons (pe_callB (call_repD hgd' hr.units) (by rfl) T.repr (by decide +kernel) (pa_cons (pv 1) pa_nil)) pa_nil)) (by rfl))
      (pss_cons (ps_try_keep (i := 4) rfl rfl scTold.nd rfl rfl ⟨rfl, by decide, .inl ER.tie⟩ rfl takes0
        (fun W pn xe tk _ => (pss_one (ps_expr (pe_useS ULcalled hr tk (by rfl) (pa_cons (pv 0) (pa_cons (pv 1) pa_nil))))))
        (fun a oe cls d pn hz hf => (pss_one (ps_set (i := 2) scTold.nd rfl (Or.inl rfl) (pv 4)))))
      (pss_cons (ps_if (PW.pt (pw_or (pt_cmpR op_isN (pv 2) pe_non (nomark _)) (pw_or (pt_cmpR op_ne (pe_callB (call_repD hgd' hr.units) (by rfl) T.repr (by decide +kernel) (pa_cons (pv 1) pa_nil)) (pv 3) (nomark _)) (pw_or1 (pt_not (pt_val (pe_callB call_isX (by rfl) T.isinstance (by decide +kernel) (pa_cons (pv 2) (pa_cons (pe_bltn (v := .ty "ValueError") (by rfl) ER.vN (by decide +kernel) rfl) pa_nil)))))))))
        (pss_one (ps_ret pe_non)) pss_nil)
      (pss_cons (ps_set (i := 5) scTold.nd rfl (Or.inl rfl) (pe_lst (pa_cons (pe_callB call_isX (by rfl) T.isinstance (by decide +kernel) (pa_cons (pv 2) (pa_cons (pe_glob (v := .ref (er "InvalidNumber")) rfl (ER.mg (by decide)) rfl) pa_nil))) (pa_cons (pe_callB call_isX (by rfl) T.isinstance (by decide +kernel) (pa_cons (pv 2) (pa_cons (pe_glob (v := .ref (er "InvalidCompany")) rfl (ER.mg (by decide)) rfl) pa_nil))) (pa_cons (pe_callB call_isX (by rfl) T.isinstance (by decide +kernel) (pa_cons (pv 2) (pa_cons (pe_glob (v := .ref (er "InvalidProgram")) rfl (ER.mg (by decide)) rfl) pa_nil))) pa_nil)))))
      (pss_one (ps_ret (pe_op op_cat (pv 5) (pe_lst (pa_cons (pe_callB call_isX (by rfl) T.isinstance (by decide +kernel) (pa_cons (pv 2) (pa_cons (pe_glob (v := .ref (er "InvalidLot")) rfl (ER.mg (by decide)) rfl) pa_nil))) (pa_cons (pe_callB call_isX (by rfl) T.isinstance (by decide +kernel) (pa_cons (pv 2) (pa_cons (pe_glob (v := .ref (er "InvalidWishes")) rfl (ER.mg (by decide)) rfl) pa_nil))) (pa_cons (pe_callB (call_repD hgd' hr.units) (by rfl) T.repr (by decide +kernel) (pa_cons (pe_valX (pv 2)) pa_nil)) pa_nil))))))))))), ?_⟩
    have hd1 : Dt K H (.ref a) (.list ds) := .lst ha hx
    refine ⟨_, rfl, _, _, rfl, hd1, so.1, so.2.1, so.2.2, _, _, rfl, ?_⟩
    refine ⟨_, rfl, _, rfl, d, a, xs, rfl, d16, ha, rf H _ (Same.refl _) ?_⟩
    intro H2 e s2 ne he
    refine ⟨true, ER.exm _ cm, (fun z => by cases z), fun _ x nx => ⟨_, rfl, fun nx2 => ?_⟩⟩
    obtain ⟨fI, EC⟩ := ER.own _ cm
    obtain ⟨H3, e3, s3, f3⟩ := gen H2 nx (Exn (.ref (er c)) (some e) x)
    show _
    rw [e3]
    clear e3
    have he3 := s3 _ _ he
    have s03 := s2.trans s3
    have hd3 : Dt K H3 (.ref a) (.list ds) := .lst (s03 _ _ ha) (Dts.same s03 _ _ hx)
    refine ⟨_, rfl, rfl, _, rfl, iteF ?_⟩
    refine ⟨_, rfl, _, _, rfl, hd3, so.1, so.2.1, so.2.2, _, rfl, rfl, _, rfl, ?_⟩
    refine ite2 (fun z => absurd z (by simp)) (fun _ => ?_)
    refine ⟨_, rfl, x, er c, fI, c, some e, _, .type "ValueError", true, rfl, f3, ⟨e, _, rfl, he3⟩, EC, (fun _ r => r), ER.val _ cm, _, rfl, iteF ?_⟩
    refine ⟨_, rfl, x, er c, fI, c, some e, _, .ref (er "InvalidNumber"), _, rfl, f3, ⟨e, _, rfl, he3⟩, EC, (fun _ r => r), ER.kit _ cm "InvalidNumber" (by decide), _, rfl, x, er c, fI, c, some e, _, .ref (er "InvalidCompany"), _, rfl, f3, ⟨e, _, rfl, he3⟩, EC, (fun _ r => r), ER.kit _ cm "InvalidCompany" (by decide), _, rfl, x, er c, fI, c, some e, _, .ref (er "InvalidProgram"), _, rfl, f3, ⟨e, _, rfl, he3⟩, EC, (fun _ r => r), ER.kit _ cm "InvalidProgram" (by decide), (by show 3 ≤ sizeLine; decide), fun p1 hp1 => ?_⟩
    obtain ⟨H4, e4, s4, f4⟩ := gen H3 hp1 (.lst [.bl (decide (c = "InvalidNumber")), .bl (decide (c = "InvalidCompany")), .bl (decide (c = "InvalidProgram"))])
    rw [e4]
    have f34 := s4 _ _ f3
    have he4 := s4 _ _ he3
    have s04 := s03.trans s4
    refine ⟨_, rfl, _, rfl, x, er c, fI, c, some e, _, .ref (er "InvalidLot"), _, rfl, f34, ⟨e, _, rfl, he4⟩, EC, (fun _ r => r), ER.kit _ cm "InvalidLot" (by decide), _, rfl, x, er c, fI, c, some e, _, .ref (er "InvalidWishes"), _, rfl, f34, ⟨e, _, rfl, he4⟩, EC, (fun _ r => r), ER.kit _ cm "InvalidWishes" (by decide), _, rfl, x, er c, fI, e, c, v, rfl, EC, f34, he4, v, dv, rfl, dt.same s04, sv.1, sv.2.1, sv.2.2, (by show 3 ≤ sizeLine; decide), fun p2 hp2 => ?_⟩
    obtain ⟨H5, e5, s5, f5⟩ := gen H4 hp2 (.lst [.bl (decide (c = "InvalidLot")), .bl (decide (c = "InvalidWishes")), .str dv.shown])
    rw [e5]
    refine ⟨p1, p2, _, _, rfl, rfl, s5 _ _ f4, f5, (by show 6 ≤ sizeLine; decide), fun p3 hp3 => ?_⟩
    exact q p3 _ ((s04.trans s5).trans (same_new hp3)) ((s04.trans s5).free hp3) upd_same
end
end K56

/-! Companies made by parts that are split (the programs' laws). -/
namespace GL
open PySem PySem.Spec PyProof.Rows
open L2 hiding spCell
noncomputable def spTied : Sp := fun vs H Q _ => ∃ (R a b : Addr) (rs : List Addr) (kss : List (List Int)) (la lb : List Nat) (k c : Int), vs = [.ref R, .ref a, .ref b, .int c] ∧ Tab H R rs kss ∧ Fine k kss ∧ kss.length ≤ 50 ∧ H a = some (.lst (natV la)) ∧ H b = some (.lst (natV lb)) ∧
  (∀ x ∈ la, x < kss.length) ∧ (∀ y ∈ lb, y < kss.length) ∧ (∀ x ∈ la, ∀ y ∈ lb, x ≠ y) ∧ 0 ≤ c ∧ c < k ∧ ∀ p H', Same H H' → CoN H H' k p kss.length → Q (.ref p) H'
noncomputable def spCompS : Sp := fun vs H Q _ => ∃ (g : Addr) (k : Int) (m n : Nat), vs = [.ref g, .int k, .int m] ∧ 2 ≤ k ∧ k ≤ 9 ∧ 1 ≤ m ∧ m ≤ 20 ∧ Gen H g (n + 20000) ∧ ∀ (p : Addr) (H' : Hp), But g H H' → Gen H' g n → CoN H H' k p m → Q (.ref p) H'
/-- turns, each a couple of numbers in order -/
noncomputable def turnP (t : Nat × Nat) : PyData := .tuple [.int (t.1 : Nat), .int (t.2 : Nat)]
noncomputable def turnV (t : Nat × Nat) : List V := [.int (t.1 : Nat), .int (t.2 : Nat)]
noncomputable def progP (ts : List (Nat × Nat)) : PyData := .list (ts.map turnP)
/-- at p a list of turns at as, all new -/
structure Prg (H0 H : Hp) (p : Addr) (as : List Addr) (ts : List (Nat × Nat)) : Prop where
  top : H p = some (.lst (as.map V.ref))
  len : as.length = ts.length
  row : ∀ (i : Nat) (a : Addr) (t : Nat × Nat), as[i]? = some a → ts[i]? = some t → H a = some (.tup (turnV t))
  newP : H0 p = none
  newA : ∀ a ∈ as, H0 a = none
/-- turns among n people -/
noncomputable def Turns (n : Nat) (ts : List (Nat × Nat)) : Prop := ∀ t ∈ ts, t.1 < t.2 ∧ t.2 < n
noncomputable def spProgM : Sp := fun vs H Q _ => ∃ (g : Addr) (m b n : Nat), vs = [.ref g, .int m, .int b] ∧ 1 ≤ m ∧ m ≤ 40 ∧ b ≤ 40 ∧ Gen H g (n + 1000) ∧ ∀ (p : Addr) (as : List Addr) (ts : List (Nat × Nat)) (H' : Hp), But g H H' → Gen H' g n → ts.length ≤ b → Turns m ts → Prg H H' p as ts → Q (.ref p) H'
noncomputable def spLawProg (K : PySem.W.Frag) : Sp := fun vs H Q _ => ∃ (x : V) (ts : List (Nat × Nat)), vs = [x] ∧ Dt K H x (progP ts) ∧ Turns 40 ts ∧ ∀ H', Same H H' → Q (.bl true) H'
theorem Prg.dts {K : PySem.W.Frag} {H0 H : Hp} {p : Addr} {as : List Addr} {ts : List (Nat × Nat)} (h : Prg H0 H p as ts) : Dts K H (as.map V.ref) (ts.map turnP) := dts_get (by rw [List.length_map, List.length_map, h.len]) fun i v d a b => by
  rw [List.getElem?_map] at a b
  cases ea : as[i]? with
  | none =>
    rw [ea] at a
    cases a
  | some x =>
    cases et : ts[i]? with
    | none =>
      rw [et] at b
      cases b
    | some t =>
      rw [ea] at a
      rw [et] at b
      cases a
      cases b
      exact .tup (h.row i x t ea et) (.cons (.int _) (.cons (.int _) .nil))
end GL

namespace K56
open PySem PySem.Spec PyProof.Rows
open L2 hiding spCell rLen
open GL
section
variable {P : Program} {w : World} {K : PySem.W.Frag} {mg : Str → Option Value} {base : Heap}
variable {er : Str → Addr}
noncomputable abbrev sTied : Stmt := topS 109
noncomputable abbrev nTied : List Str := ["_law_rows", "_law_lot", "_law_others", "_law_kind", "_law_found", "_law_row", "_law_one", "_law_other"]
theorem scTied : FnScope nTied ["_law_rows", "_law_lot", "_law_others", "_law_kind"] (defScope sTied) := ⟨rfl, rfl, rfl, by decide +kernel, rfl, by decide +kernel, by decide +kernel⟩
theorem ok_tied {f : Addr} {fd : FuncData} (F : Fun K "_law_tied" "_law_tied" sTied f fd) (T : Bi mg) : FnOk P w K mg base CX0 2 f fd ["_law_rows", "_law_lot", "_law_others", "_law_kind"] spTied := by
  refine F.ok scTied (fun vs H Q E h => ?_) (fun cdv A outer s H vs Q E hr h => ?_)
  · obtain ⟨R, a, b, rs, kss, la, lb, k, c, rfl, _⟩ := h
    rfl
  · obtain ⟨R, a, b, rs, kss, la, lb, k, c, rfl, t, f, n50, ha, hb, ia, ib, dis, c0, c1, q⟩ := h
    refine ⟨_, (pss_cons (ps_setLc (i := 4) (own := [("_law_row", 5)]) (g := (gName 5)) (tt := tYes) (te := (tCB (rLstL K) (tCons (tVar 5) tNil))) rfl scTied.nd rfl rfl (sw_true rfl rfl rfl (by decide +kernel)) (pi_list (pv 0))
          (blkOk_by (N := nTied) (sc := (defScope sTied)) (by decide +kernel)) (fun _ _ _ _ _ => (pg_name (i := 5) scTied.nd rfl (Or.inl rfl))) (fun _ _ _ _ _ => by exact pts_nil)
          (fun _ _ _ _ _ => by exact (pe_callTy call_lstL (by rfl) T.list PyProof.Rows.boot_list (pa_cons (pv 5) pa_nil))))
      (pss_cons (ps_for PassesOwn.never rfl (pi_list (pv 1)) (pg_name (i := 6) scTied.nd rfl (Or.inl rfl))
        (pss_one (ps_for PassesOwn.never rfl (pi_list (pv 2)) (pg_name (i := 7) scTied.nd rfl (Or.inl rfl))
          (pss_one (ps_asg (pv 3)
              (pg_sub (pe_ix ix_list (pv 4) (pe_callB (call_max2 rfl) (by rfl) T.max (by decide +kernel) (pa_cons (pv 6) (pa_cons (pv 7) pa_nil))) (fun _ _ => rfl)) (pe_callB (call_min2 rfl) (by rfl) T.min (by decide +kernel) (pa_cons (pv 6) (pa_cons (pv 7) pa_nil))) set_list))))))
      (pss_one (ps_ret (pv 4))))), ?_⟩
    have lr : (rs.map V.ref).length = kss.length := by rw [List.length_map, t.len]
    refine ⟨_, rfl, R, rfl, ⟨_, SqL.of t.top⟩, fun D hD => ?_⟩
    refine lc_objs (walk_list (K := K) (a := R) (xs := rs.map V.ref)) (fun i => .lst ((kss.getD i []).map V.int)) hD (by rw [lr]; exact Nat.le_of_lt (small1000 (by omega))) (fun H' s => SqL.of (s _ _ t.top)) ?_ ?_
    · rintro i x H1 H2 N hi s1 ⟨rfl, ex⟩ hN
      rw [lr] at hi
      obtain ⟨r, ks, er', ek, hr'⟩ := t.at hi
      have ex' : (rs.map V.ref)[i]? = some x := ex
      rw [List.getElem?_map, er'] at ex'
      cases ex'
      refine gName_by ⟨rfl, ?_⟩
      refine ⟨_, rfl, r, _, rfl, SqL.of (s1 _ _ hr'), fun p hp => ?_⟩
      refine hN _ p (same_new hp) hp ?_
      rw [upd_same, List.getD_eq_getElem?_getD, ek]
      rfl
    · intro H1 qs s1 O
      rw [lr] at O
      have t1 := O.tab rfl
      have ha1 := s1 _ _ ha
      have hb1 := s1 _ _ hb
      refine ⟨_, rfl, a, rfl, ⟨_, SqL.of ha1⟩, ?_⟩
      refine for_list (K := K) (a := a) (xs := natV la) (fun i σ H' => ∃ (y z : Option V) (ls : List (List Int)), σ = [some (.ref R), some (.ref a), some (.ref b), some (.int c), some (.ref D), none, y, z] ∧ Same H H' ∧ Tab H' D qs ls ∧ Fine k ls ∧ ls.length = kss.length)
        ⟨_, _, kss, rfl, s1, t1, f, rfl⟩ (fun i σ H' _ z => by
          obtain ⟨_, _, _, _, s', _⟩ := z
          exact SqL.of (s' _ _ ha)) ?_ ?_
      · rintro i x σ H2 hi ⟨y, z, ls, rfl, s2, t2, f2, l2⟩
        obtain ⟨u, eu, um⟩ : ∃ u : Nat, x = .int (u : Nat) ∧ u ∈ la := by
          unfold natV at hi
          rw [List.getElem?_map] at hi
          cases e : la[i]? with
          | none =>
            rw [e] at hi
            cases hi
          | some u =>
            rw [e] at hi
            cases hi
            exact ⟨u, rfl, List.mem_of_getElem? e⟩
        subst eu
        refine gName_by ?_
        refine ⟨_, rfl, b, rfl, ⟨_, SqL.of (s2 _ _ hb)⟩, ?_⟩
        refine for_list (K := K) (a := b) (xs := natV lb) (fun j σ H' => ∃ (z : Option V) (ls : List (List Int)), σ = [some (.ref R), some (.ref a), some (.ref b), some (.int c), some (.ref D), none, some (.int (u : Nat)), z] ∧ Same H H' ∧ Tab H' D qs ls ∧ Fine k ls ∧ ls.length = kss.length)
          ⟨_, ls, rfl, s2, t2, f2, l2⟩ (fun i σ H' _ z => by
            obtain ⟨_, _, _, s', _⟩ := z
            exact SqL.of (s' _ _ hb)) ?_ ?_
        · rintro j x σ H3 hj ⟨z, ls, rfl, s3, t3, f3, l3⟩
          obtain ⟨v, ev, vm⟩ : ∃ v : Nat, x = .int (v : Nat) ∧ v ∈ lb := by
            unfold natV at hj
            rw [List.getElem?_map] at hj
            cases e : lb[j]? with
            | none =>
              rw [e] at hj
              cases hj
            | some u =>
              rw [e] at hj
              cases hj
              exact ⟨u, rfl, List.mem_of_getElem? e⟩
          subst ev
          refine gName_by ?_
          have un := ia u um
          have vn := ib v vm
          have uv := dis u um v vm
          obtain ⟨hi', lo', hlo, hhi, emax, emin⟩ : ∃ hi' lo' : Nat, lo' < hi' ∧ hi' < ls.length ∧ (if ((v : Nat) : Int) > ((u : Nat) : Int) then ((v : Nat) : Int) else ((u : Nat) : Int)) = ((hi' : Nat) : Int) ∧ (if ((v : Nat) : Int) < ((u : Nat) : Int) then ((v : Nat) : Int) else ((u : Nat) : Int)) = ((lo' : Nat) : Int) := by
            by_cases h : u < v
            · exact ⟨v, u, h, by omega, by rw [if_pos (by omega)], by rw [if_neg (by omega)]⟩
            · exact ⟨u, v, by omega, by omega, by rw [if_neg (by omega)], by rw [if_pos (by omega)]⟩
          obtain ⟨r, ks, er', ek, hr'⟩ := t3.at hhi
          have lk : ks.length = hi' := (f3 _ _ ek).1
          have rm := List.mem_of_getElem? er'
          have rH : H r = none := O.new r rm
          refine ⟨_, rfl, _, rfl, _, rfl, _, rfl, _, _, rfl, ?_⟩
          rw [emax]
          refine ⟨D, _, _, _, rfl, rfl, SqL.of t3.top, at_of (j := hi') rfl (by rw [List.getElem?_map, er']; rfl), _, rfl, _, rfl, _, _, rfl, ?_⟩
          rw [emin]
          refine ⟨r, _, _, lo', rfl, rfl, hr', ?_, ?_⟩
          · rw [List.length_map]
            exact ixN_nat (by omega)
          · refine ⟨_, setT ls hi' lo' c, rfl, fun b o e => ?_, t3.put er' ek O.out, setT_fine f3 hhi c0 c1, by rw [setT_len]; exact l3⟩
            rw [upd_ne (ne_of_none e rH)]
            exact s3 _ _ e
        · rintro σ H3 ⟨z, ls, rfl, s3, t3, f3, l3⟩
          exact ⟨_, _, ls, rfl, s3, t3, f3, l3⟩
      · rintro σ H2 ⟨y, z, ls, rfl, s2, t2, f2, l2⟩
        exact ⟨_, rfl, q D H2 s2 ⟨qs, ls, t2, l2, f2, O.out, hD, O.new⟩⟩
noncomputable abbrev sProgM : Stmt := topS 110
noncomputable abbrev nProgM : List Str := ["_law_generator_here", "_law_size", "_law_most", "_law_found", "_law_turn", "_law_high"]
theorem scProgM : FnScope nProgM ["_law_generator_here", "_law_size", "_law_most"] (defScope sProgM) := ⟨rfl, rfl, rfl, by decide +kernel, rfl, by decide +kernel, by decide +kernel⟩
theorem ok_progM {f : Addr} {fd : FuncData} (F : Fun K "_law_program" "_law_program" sProgM f fd) (T : Bi mg) (ULrandom : Use P w K mg base "_law_random" ["_law_generator_here", "_law_limit"] spRandom 2) : FnOk P w K mg base CX0 3 f fd ["_law_generator_here", "_law_size", "_law_most"] spProgM := by
  refine F.ok scProgM (fun vs H Q E h => ?_) (fun cdv A outer s H vs Q E hr h => ?_)
  · obtain ⟨g, m, b, n, rfl, _⟩ := h
    rfl
  · obtain ⟨g, m, b, n, rfl, m1, m40, b40, G, q⟩ := h
    refine ⟨_, (pss_cons (ps_set (i := 3) scProgM.nd rfl (Or.inl rfl) (pe_lst pa_nil))
      (pss_cons (ps_for PassesOwn.never rfl (pi_range1 (by rfl) T.range (pa_cons (pe_ifExp (pt_cmpR op_gt (pv 1) pe_int (nomark _)) (pe_use ULrandom hr (by rfl) (pa_cons (pv 0) (pa_cons (pe_op op_add (pv 2) pe_int) pa_nil))) pe_int) pa_nil)) (pg_name (i := 4) scProgM.nd rfl (Or.inl rfl))
        (pss_cons (ps_set (i := 5) scProgM.nd rfl (Or.inl rfl) (pe_op op_add pe_int (pe_use ULrandom hr (by rfl) (pa_cons (pv 0) (pa_cons (pe_op op_sub (pv 1) pe_int) pa_nil)))))
        (pss_one (ps_expr (pe_bm PySem.F.plainAttrs_list PySem.F.slot_list_append PySem.F.type_list_append mt_append (pv 3) (pa_cons (pe_tup (pa_cons (pe_use ULrandom hr (by rfl) (pa_cons (pv 0) (pa_cons (pv 5) pa_nil))) (pa_cons (pv 5) pa_nil))) pa_nil))))))
      (pss_one (ps_ret (pv 3))))), ?_⟩
    refine ⟨Nat.zero_le _, fun D hD => ?_⟩
    obtain ⟨H1, e1, s1, f1⟩ := gen H hD (.lst [])
    rw [e1]
    clear e1
    have G1 := G.same s1
    have gD : D ≠ g := (G.ne hD).symm
    have out : ∀ (b' : Nat) (σ : L2.St) (H' : Hp), b' ≤ b → (∃ (y z : Option V) (as : List Addr) (ts : List (Nat × Nat)), σ = [some (.ref g), some (.int (m : Nat)), some (.int (b : Nat)), some (.ref D), y, z] ∧ But g H H' ∧ Gen H' g (n + 10 * (50 - b')) ∧ Prg H H' D as ts ∧ ts.length = b' ∧ Turns m ts) → σ[3]? = some (some (.ref D)) ∧ Q (.ref D) H' := by
      rintro b' σ H' hb ⟨y, z, as, ts, rfl, bt, G', pr, lt, tn⟩
      exact ⟨rfl, q D as ts H' bt (G'.less (by omega)) (by omega) tn pr⟩
    have pr0 : Prg H H1 D [] [] := ⟨f1, rfl, fun i a t h => by simp at h, hD, by simp⟩
    refine ⟨_, rfl, _, _, rfl, rfl, _, rfl, ?_⟩
    by_cases mm : 1 < m
    · refine ite2 (fun _ => ?_) (fun z => absurd (decide_eq_true (by omega)) z)
      refine ⟨_, rfl, _, rfl, _, _, rfl, rfl, g, ((b : Nat) : Int) + 1, n + 600, rfl, by omega, by omega, G1.less (by omega), fun r H2 r0 r1 G2 b2 => ?_⟩
      obtain ⟨r, rfl⟩ : ∃ u : Nat, r = (u : Int) := ⟨r.toNat, by omega⟩
      refine ⟨_, rfl, by omega, by omega, ?_⟩
      rw [Int.toNat_natCast]
      refine for_it (walk_nat (n := r)) (fun i σ H' => ∃ (y z : Option V) (as : List Addr) (ts : List (Nat × Nat)), σ = [some (.ref g), some (.int (m : Nat)), some (.int (b : Nat)), some (.ref D), y, z] ∧ But g H H' ∧ Gen H' g (n + 10 * (50 - i)) ∧ Prg H H' D as ts ∧ ts.length = i ∧ Turns m ts)
        ⟨_, _, [], [], rfl, (But.of s1).trans b2, G2.less (by omega), ⟨b2 _ _ f1 gD, rfl, fun i a t h => by simp at h, hD, by simp⟩, rfl, fun t ht => by cases ht⟩ (fun _ _ _ _ _ => trivial) ?_ ?_
      · rintro i v σ H3' H3 hi ⟨y, z, as, ts, rfl, bt, G3, pr, lt, tn⟩ ⟨rfl, rfl⟩
        refine gName_by ?_
        refine ⟨_, rfl, _, rfl, _, _, rfl, rfl, g, ((m : Nat) : Int) - 1, n + 10 * (50 - (i + 1)) + 5, rfl, by omega, by omega, G3.less (by omega), fun h H4 h0 h1 G4 b4 => ⟨_, _, rfl, rfl, ?_⟩⟩
        refine ⟨_, rfl, .inl ⟨rfl, _, SqL.of (b4 _ _ pr.top gD)⟩, ?_⟩
        refine ⟨_, rfl, _, rfl, g, 1 + h, n + 10 * (50 - (i + 1)), rfl, by omega, by omega, G4, fun l H5 l0 l1 G5 b5 => ?_⟩
        obtain ⟨l, rfl⟩ : ∃ u : Nat, l = (u : Int) := ⟨l.toNat, by omega⟩
        obtain ⟨hh, eh⟩ : ∃ u : Nat, 1 + h = (u : Int) := ⟨(1 + h).toNat, by omega⟩
        refine ⟨_, rfl, (by show 2 ≤ sizeLine; decide), fun T hT => ?_⟩
        obtain ⟨H6, e6, s6, f6⟩ := gen H5 hT (.tup [.int (l : Nat), .int (1 + h)])
        rw [e6]
        have b36 : But g H3 H6 := (b4.trans b5).trans (But.of s6)
        have G6 := G5.same s6
        have TH : H T = none := but_free ((bt.trans b4).trans b5) G5 hT
        have top6 := b36 _ _ pr.top gD
        have DT : D ≠ T := fun z => by
          have z2 := (b4.trans b5) _ _ pr.top gD
          rw [z, hT] at z2
          cases z2
        refine ⟨D, _, _, rfl, rfl, top6, (by rw [List.length_map, pr.len, sizeLine_eq]; omega), ?_⟩
        refine ⟨_, _, as ++ [T], ts ++ [(l, hh)], rfl, fun b o e nb => ?_, G6.other gD, ⟨?_, ?_, ?_, hD, ?_⟩, ?_, ?_⟩
        · rw [upd_ne (ne_of_none e hD)]
          exact (bt.trans b36) _ _ e nb
        · rw [upd_same, List.map_append]
          rfl
        · rw [List.length_append, List.length_append, pr.len]
          rfl
        · intro x a' t h1 h2
          have key : ∀ o, H3 a' = some o → a' ≠ g → a' ≠ D → upd H6 D (.lst (as.map V.ref ++ [V.ref T])) a' = some o := fun o e n1 n2 => by
            rw [upd_ne n2]
            exact b36 _ _ e n1
          by_cases xl : x < as.length
          · rw [List.getElem?_append_left xl] at h1
            rw [List.getElem?_append_left (by rw [← pr.len]; exact xl)] at h2
            have am := List.mem_of_getElem? h1
            have aH := pr.newA a' am
            refine key _ (pr.row x a' t h1 h2) (fun z => G.ne aH z.symm) fun z => ?_
            have z2 := pr.row x a' t h1 h2
            rw [z, pr.top] at z2
            cases z2
          · rw [List.getElem?_append_right (by omega)] at h1
            rw [List.getElem?_append_right (by rw [← pr.len]; omega)] at h2
            have x0 : x - as.length = 0 := by
              have := (List.getElem?_eq_some_iff.mp h1).1
              simp at this
              omega
            rw [x0] at h1
            rw [← pr.len, x0] at h2
            cases h1
            cases h2
            rw [upd_ne DT.symm, f6, eh]
            rfl
        · intro a' ha'
          rcases List.mem_append.mp ha' with h | h
          · exact pr.newA a' h
          · rw [List.mem_singleton] at h
            rw [h]
            exact TH
        · rw [List.length_append, lt]
          rfl
        · intro t ht
          rcases List.mem_append.mp ht with h | h
          · exact tn t h
          · rw [List.mem_singleton] at h
            rw [h]
            exact ⟨by show l < hh; omega, by show hh < m; omega⟩
      · rintro σ H' z
        obtain ⟨z1, z2⟩ := out r σ H' (by omega) z
        exact ⟨_, z1, z2⟩
    · refine ite2 (fun z => absurd (of_decide_eq_true z) (by omega)) (fun _ => ?_)
      refine ⟨_, rfl, by decide, by decide, ?_⟩
      refine for_it (walk_range (lo := 0) (n := (0 : Int).toNat)) (fun i σ H' => σ = [some (.ref g), some (.int (m : Nat)), some (.int (b : Nat)), some (.ref D), none, none] ∧ H' = H1) ⟨rfl, rfl⟩ (fun _ _ _ _ _ => trivial) ?_ ?_
      · intro i y σ H2 H3 hi
        exact absurd hi (Nat.not_lt_zero i)
      · rintro σ H2 ⟨rfl, rfl⟩
        obtain ⟨z1, z2⟩ := out 0 [some (.ref g), some (.int (m : Nat)), some (.int (b : Nat)), some (.ref D), none, none] H2 (by omega) ⟨_, _, [], [], rfl, But.of s1, G1.less (by omega), pr0, rfl, fun t ht => by cases ht⟩
        exact ⟨_, z1, z2⟩
noncomputable abbrev sLawProg : Stmt := topS 115
noncomputable abbrev nLawProg : List Str := ["_law_value", "_law_turn", "_law_person"]
theorem scLawProg : FnScope nLawProg ["_law_value"] (defScope sLawProg) := ⟨rfl, rfl, rfl, by decide +kernel, rfl, by decide +kernel, by decide +kernel⟩
theorem ok_lawProg {f : Addr} {fd : FuncData} (F : Fun K "_law_is_program" "_law_is_program" sLawProg f fd) (T : Bi mg) : FnOk P w K mg base CX0 2 f fd ["_law_value"] (spLawProg K) := by
  refine F.ok scLawProg (fun vs H Q E h => ?_) (fun cdv A outer s H vs Q E hr h => ?_)
  · obtain ⟨x, ts, rfl, _⟩ := h
    rfl
  · obtain ⟨x, ts, rfl, dx, tn, q⟩ := h
    refine ⟨_, (pss_cons (ps_if (pt_not (pt_val (pe_callB call_isi (by rfl) T.isinstance (by decide +kernel) (pa_cons (pv 0) (pa_cons (pe_bltn (v := .ty "list") (by rfl) T.list (by decide +kernel) rfl) pa_nil)))))
        (pss_one (ps_ret pe_bl)) pss_nil)
      (pss_cons (ps_for PassesOwn.never rfl (pi_list (pv 0)) (pg_name (i := 1) scLawProg.nd rfl (Or.inl rfl))
        (pss_cons (ps_if (PW.pt (pw_or (pt_not (pt_val (pe_callB call_isi (by rfl) T.isinstance (by decide +kernel) (pa_cons (pv 1) (pa_cons (pe_bltn (v := .ty "tuple") (by rfl) T.tuple (by decide +kernel) rfl) pa_nil))))) (pw_or1 (pt_cmpR op_ne (pe_callB call_len_seq (by rfl) T.len PySem.boot_len (pa_cons (pv 1) pa_nil)) pe_int (nomark _)))))
          (pss_one (ps_ret pe_bl)) pss_nil)
        (pss_one (ps_if (PW.pt (pw_or (pt_cmpR (op_neNil hr.units) (pe_lc (own := [("_law_person", 2)]) (g := (gName 2)) (tt := (tOr (tNot (tB (tCB (rIsi K) (tCons (tVar 2) (tCons (tC (.ty "int")) tNil))))) (tB (tCB (rIsi K) (tCons (tVar 2) (tCons (tC (.ty "bool")) tNil)))))) (te := (tVar 2)) rfl scLawProg.nd (pi_tup (pv 1))
            (blkOk_by (N := nLawProg) (sc := (defScope sLawProg)) (by decide +kernel)) (fun _ _ _ _ _ => (pg_name (i := 2) scLawProg.nd rfl (Or.inl rfl))) (fun _ _ _ _ _ => by exact (pts_one (PW.pt (pw_or (pt_not (pt_val (pe_callB call_isi (by rfl) T.isinstance (by decide +kernel) (pa_cons (pv 2) (pa_cons (pe_bltn (v := .ty "int") (by rfl) T.int (by decide +kernel) rfl) pa_nil))))) (pw_or1 (pt_val (pe_callB call_isi (by rfl) T.isinstance (by decide +kernel) (pa_cons (pv 2) (pa_cons (pe_bltn (v := .ty "bool") (by rfl) T.bool (by decide +kernel) rfl) pa_nil)))))))))
            (fun _ _ _ _ _ => by exact (pv 2))) (pe_lst pa_nil) (nomark _)) (pw_or1 (pt_not (pt_chain3 op_le op_lt op_le pe_int (pe_ix ix_tup (pv 1) pe_int (fun _ _ => rfl)) (pe_ix ix_tup (pv 1) pe_int (fun _ _ => rfl)) pe_int)))))
          (pss_one (ps_ret pe_bl)) pss_nil))))
      (pss_one (ps_ret pe_bl)))), ?_⟩
    obtain ⟨a, xs, rfl, ha, hx⟩ := dt_list dx
    refine ⟨_, rfl, _, _, _, _, _, rfl, .ty "list", dx.ty, kit_list (progP ts), _, rfl, iteF ?_⟩
    refine ⟨_, rfl, a, rfl, ⟨_, SqL.of ha⟩, ?_⟩
    refine for_list (K := K) (a := a) (xs := xs) (fun i σ H' => ∃ y z : Option V, σ = [some (.ref a), y, z] ∧ Same H H') ⟨_, _, rfl, Same.refl _⟩ (fun i σ H' _ z => by
        obtain ⟨_, _, _, s'⟩ := z
        exact SqL.of (s' _ _ ha)) ?_ ?_
    · rintro i y σ H1 hi ⟨y0, z0, rfl, s1⟩
      obtain ⟨d, ed, dy⟩ := hx.get hi
      rw [List.getElem?_map] at ed
      cases et : ts[i]? with
      | none =>
        rw [et] at ed
        cases ed
      | some t =>
        rw [et] at ed
        cases ed
        obtain ⟨h1, h2⟩ := tn t (List.mem_of_getElem? et)
        replace dy := dy.same s1
        have dty := dy.ty
        cases dy with
        | @tup p ys _ hp hy =>
          have ey : ys = [.int (t.1 : Nat), .int (t.2 : Nat)] := vals_of (ns := [((t.1 : Nat) : Int), ((t.2 : Nat) : Int)]) hy
          subst ey
          ·
            refine gName_by ?_
            refine ⟨_, rfl, _, _, _, _, _, rfl, .ty "tuple", dty, kit_tuple (turnP t), _, rfl, iteF ?_⟩
            refine ⟨_, rfl, p, _, rfl, .inr (SqT.of hp), rfl, _, rfl, iteF ?_⟩
            refine ⟨_, rfl, p, rfl, ⟨_, SqT.of hp⟩, fun D hD => ?_⟩
            refine lc_it (walk_tup (K := K) (a := p) (xs := [.int (t.1 : Nat), .int (t.2 : Nat)])) (fun i H' => Same H1 H' ∧ H' D = some (.lst [])) ⟨same_new hD, upd_same⟩ (fun i H' _ z => SqT.of (z.1 _ _ hp)) ?_ ?_
            · rintro j x H2 H3 hj ⟨s2, h2⟩ ⟨rfl, ex⟩
              obtain ⟨z, rfl⟩ : ∃ z : Int, x = .int z := by
                match j, hj, ex with
                | 0, _, ex => exact ⟨_, (Option.some.inj ex).symm⟩
                | 1, _, ex => exact ⟨_, (Option.some.inj ex).symm⟩
              refine gName_by ⟨rfl, ?_⟩
              refine ⟨_, rfl, _, _, _, _, _, rfl, .ty "int", (Dt.int (K := K) (H := H3) z).ty, kit_int (.int z), _, rfl, iteF ?_⟩
              refine ⟨_, rfl, _, _, _, _, _, rfl, .ty "bool", (Dt.int (K := K) (H := H3) z).ty, kit_bool (.int z), _, rfl, iteF ?_⟩
              exact ⟨s2, h2⟩
            · rintro H2 ⟨s2, h2⟩
              refine ⟨Nat.zero_le _, fun l hl => ?_⟩
              obtain ⟨H3, e3, s3, f3⟩ := gen H2 hl (.lst [])
              rw [e3]
              have hp3 := (s2.trans s3) _ _ hp
              refine ⟨D, l, [], rfl, rfl, SqL.of (s3 _ _ h2), SqL.of f3, _, rfl, iteF ?_⟩
              refine ⟨_, rfl, p, _, _, _, rfl, rfl, SqT.of hp3, at_of (j := 0) rfl rfl, _, _, rfl, rfl, _, rfl, ?_⟩
              refine ite2 (fun _ => ?_) (fun z => absurd (decide_eq_true (by omega)) z)
              refine ⟨_, rfl, p, _, _, _, rfl, rfl, SqT.of hp3, at_of (j := 1) rfl rfl, _, _, rfl, rfl, _, rfl, ?_⟩
              refine ite2 (fun _ => ?_) (fun z => absurd (decide_eq_true (by omega)) z)
              refine ⟨_, _, rfl, rfl, _, rfl, ?_⟩
              rw [decide_eq_true (show ((t.2 : Nat) : Int) ≤ 39 by omega)]
              exact iteF ⟨_, _, rfl, s1.trans (s2.trans s3)⟩
    · rintro σ H1 ⟨y0, z0, rfl, s1⟩
      exact q _ s1
end
end K56

namespace GL
open PySem PySem.Spec PyProof.Rows
open L2 hiding spCell
/-- the parts still to be split -/
structure Pts (H : Hp) (P : Addr) (qs : List (Addr × List Nat)) (m : Nat) : Prop where
  top : H P = some (.lst (qs.map fun q => .ref q.1))
  row : ∀ q ∈ qs, H q.1 = some (.lst (natV q.2))
  out : ∀ q ∈ qs, q.1 ≠ P
  ok : ∀ q ∈ qs, q.2 ≠ [] ∧ q.2.Nodup ∧ ∀ x ∈ q.2, x < m
noncomputable def wts (qs : List (Addr × List Nat)) : Nat := (qs.map fun q => 2 * q.2.length - 1).sum
theorem wts_app (a b : List (Addr × List Nat)) : wts (a ++ b) = wts a + wts b := by
  unfold wts
  rw [List.map_append, List.sum_append]
/-- a company, apart from P -/
structure CoP (H0 H : Hp) (k : Int) (R : Addr) (m : Nat) (P : Addr) : Prop where
  ex : ∃ rs kss, Tab H R rs kss ∧ kss.length = m ∧ Fine k kss ∧ R ∉ rs ∧ H0 R = none ∧ (∀ r ∈ rs, H0 r = none) ∧ P ≠ R ∧ P ∉ rs
theorem CoP.same {H0 H H' : Hp} {k : Int} {R P : Addr} {m : Nat} (c : CoP H0 H k R m P) (s : Same H H') : CoP H0 H' k R m P := by
  obtain ⟨rs, kss, t, a, b, c, d, e, f, g⟩ := c.ex
  exact ⟨rs, kss, t.same s, a, b, c, d, e, f, g⟩
theorem CoP.put {H0 H H' : Hp} {k : Int} {R P : Addr} {m : Nat} (c : CoP H0 H k R m P) (s : But P H H') : CoP H0 H' k R m P := by
  obtain ⟨rs, kss, t, a, b, c, d, e, f, g⟩ := c.ex
  exact ⟨rs, kss, t.but s (Ne.symm f) g, a, b, c, d, e, f, g⟩
end GL
namespace GL
open PySem PySem.Spec PyProof.Rows
open L2 hiding spCell
theorem cut_from (xs : List V) (i : Nat) : cutV xs (some ((i : Nat) : Int)) none = xs.drop i := by
  unfold cutV
  rw [HT.sIx_none, HT.sIx_nat]
  by_cases h : i ≤ xs.length
  · rw [Nat.min_eq_left h]
    exact List.take_of_length_le (by rw [List.length_drop]; exact Nat.le_refl _)
  · rw [Nat.min_eq_right (by omega), List.drop_of_length_le (i := i) (by omega), List.drop_of_length_le (Nat.le_refl _)]
    simp
theorem cut_upto (xs : List V) (i : Nat) : cutV xs none (some ((i : Nat) : Int)) = xs.take i := by
  unfold cutV
  rw [HT.sIx_none, HT.sIx_nat]
  by_cases h : i ≤ xs.length
  · rw [Nat.min_eq_left h]
    rfl
  · rw [Nat.min_eq_right (by omega), List.take_of_length_le (l := xs) (i := i) (by omega)]
    exact List.take_of_length_le (by rw [List.length_drop]; omega)
theorem natV_drop (l : List Nat) (i : Nat) : (natV l).drop i = natV (l.drop i) := by
  unfold natV
  rw [List.map_drop]
theorem natV_take (l : List Nat) (i : Nat) : (natV l).take i = natV (l.take i) := by
  unfold natV
  rw [List.map_take]
theorem natV_len (l : List Nat) : (natV l).length = l.length := by
  unfold natV
  rw [List.length_map]
theorem natV_at {l : List Nat} {i : Nat} {x : V} (h : (natV l)[i]? = some x) : ∃ u : Nat, x = .int (u : Nat) ∧ l[i]? = some u := by
  unfold natV at h
  rw [List.getElem?_map] at h
  cases e : l[i]? with
  | none =>
    rw [e] at h
    cases h
  | some u =>
    rw [e] at h
    cases h
    exact ⟨u, rfl, rfl⟩
/-- the lots with somebody in them -/
noncomputable def kept (cs : List (Addr × List Nat)) : List (Addr × List Nat) := cs.filter fun q => !q.2.isEmpty
theorem kept_flat (cs : List (Addr × List Nat)) : ((kept cs).map (·.2)).flatten = (cs.map (·.2)).flatten := by
  unfold kept
  induction cs with
  | nil => rfl
  | cons c cs ih =>
    obtain ⟨a, l⟩ := c
    cases l with
    | nil =>
      rw [List.filter_cons_of_neg (by simp), ih]
      rfl
    | cons x l =>
      rw [List.filter_cons_of_pos (by simp), List.map_cons, List.flatten_cons, ih]
      rfl
theorem kept_ne {cs : List (Addr × List Nat)} {q : Addr × List Nat} (h : q ∈ kept cs) : q.2 ≠ [] := by
  have := (List.mem_filter.mp h).2
  intro e
  rw [e] at this
  cases this
theorem wts_flat : ∀ {qs : List (Addr × List Nat)}, (∀ q ∈ qs, q.2 ≠ []) → wts qs + qs.length = 2 * ((qs.map (·.2)).flatten).length
  | [], _ => rfl
  | q :: qs, h => by
    have ih := wts_flat (qs := qs) fun x hx => h x (List.mem_cons_of_mem _ hx)
    have hq : 1 ≤ q.2.length := by
      have := h q (List.mem_cons_self ..)
      cases e : q.2 with
      | nil => exact absurd e this
      | cons a l => simp
    have e : wts (q :: qs) = (2 * q.2.length - 1) + wts qs := rfl
    rw [e, List.map_cons, List.flatten_cons, List.length_append, List.length_cons]
    omega
/-- two of the lots have nobody in common -/
theorem flat_apart : ∀ {ls : List (List Nat)}, ls.flatten.Nodup → ∀ {i j : Nat} {a b : List Nat}, i < j → ls[i]? = some a → ls[j]? = some b → ∀ x ∈ a, ∀ y ∈ b, x ≠ y
  | [], _, i, j, a, b, _, ha, _ => by simp at ha
  | l :: ls, h, 0, j + 1, a, b, _, ha, hb => by
    intro x hx y hy z
    cases ha
    rw [List.flatten_cons, List.nodup_append] at h
    exact h.2.2 x hx y (List.mem_flatten.mpr ⟨b, List.mem_of_getElem? hb, hy⟩) z
  | l :: ls, h, i + 1, j + 1, a, b, ij, ha, hb => by
    rw [List.flatten_cons, List.nodup_append] at h
    exact flat_apart h.2.1 (Nat.lt_of_succ_lt_succ ij) ha hb
theorem flat_nodup {ls : List (List Nat)} (h : ls.flatten.Nodup) {a : List Nat} (m : a ∈ ls) : a.Nodup := by
  induction ls with
  | nil => cases m
  | cons l ls ih =>
    rw [List.flatten_cons, List.nodup_append] at h
    rcases List.mem_cons.mp m with e | e
    · rw [e]
      exact h.1
    · exact ih h.2.1 e
theorem CoP.coN {H0 H : Hp} {k : Int} {R P : Addr} {m : Nat} (c : CoP H0 H k R m P) : CoN H0 H k R m := by
  obtain ⟨rs, kss, t, a, b, c, d, e, f, g⟩ := c.ex
  exact ⟨rs, kss, t, a, b, c, d, e⟩
/-- a new company, made where P stood -/
theorem CoN.coP {H0 H H' : Hp} {k : Int} {R P : Addr} {m : Nat} {o : HO} (c : CoN H H' k R m) (hP : H P = some o) (f : ∀ a, H a = none → H0 a = none) : CoP H0 H' k R m P := by
  obtain ⟨rs, kss, t, a, b, c, d, e⟩ := c.ex
  refine ⟨rs, kss, t, a, b, c, f _ d, fun r hr => f _ (e r hr), fun z => ?_, fun z => ?_⟩
  · rw [z, d] at hP
    cases hP
  · rw [e P z] at hP
    cases hP
/-- the same company beside a list just made -/
theorem CoP.fresh {H0 H H' : Hp} {k : Int} {R P P2 : Addr} {m : Nat} (c : CoP H0 H k R m P) (n : H P2 = none) (s : Same H H') : CoP H0 H' k R m P2 := by
  obtain ⟨rs, kss, t, a, b, c, d, e, f, g⟩ := c.ex
  refine ⟨rs, kss, t.same s, a, b, c, d, e, fun z => ?_, fun z => ?_⟩
  · rw [z, t.top] at n
    cases n
  · obtain ⟨i, hi⟩ := List.getElem?_of_mem z
    have il : i < kss.length := by rw [← t.len]; exact (List.getElem?_eq_some_iff.mp hi).1
    obtain ⟨r, ks, h1, h2, h3⟩ := t.at il
    rw [hi] at h1
    cases h1
    rw [n] at h3
    cases h3
theorem CoP.butg {H0 H H' : Hp} {k : Int} {R P g : Addr} {m nn : Nat} (G : GL.Gen H0 g nn) (c : CoP H0 H k R m P) (b : But g H H') : CoP H0 H' k R m P := by
  obtain ⟨rs, kss, t, a, b2, c, d, e, f, h⟩ := c.ex
  exact ⟨rs, kss, t.but b (G.ne d).symm (notin_new G e), a, b2, c, d, e, f, h⟩
end GL

namespace K56
open PySem PySem.Spec PyProof.Rows
open L2 hiding spCell rLen
open GL
section
variable {P : Program} {w : World} {K : PySem.W.Frag} {mg : Str → Option Value} {base : Heap}
variable {er : Str → Addr}
noncomputable abbrev sCompS : Stmt := topS 108
noncomputable abbrev nCompS : List Str := ["_law_generator_here", "_law_kinds", "_law_size", "_law_rows", "_law_person", "_law_parts", "_law_mate", "_law_part", "_law_lots", "_law_kind", "_law_lot", "_law_at", "_law_other"]
theorem scCompS : FnScope nCompS ["_law_generator_here", "_law_kinds", "_law_size"] (defScope sCompS) := ⟨rfl, rfl, rfl, by decide +kernel, rfl, by decide +kernel, by decide +kernel⟩
theorem ok_compS {f : Addr} {fd : FuncData} (F : Fun K "_law_company" "_law_company" sCompS f fd) (T : Bi mg) (ULrandom : Use P w K mg base "_law_random" ["_law_generator_here", "_law_limit"] spRandom 2) (ULtied : Use P w K mg base "_law_tied" ["_law_rows", "_law_lot", "_law_others", "_law_kind"] spTied 2) : FnOk P w K mg base CX0 4 f fd ["_law_generator_here", "_law_kinds", "_law_size"] spCompS := by
  refine F.ok scCompS (fun vs H Q E h => ?_) (fun cdv A outer s H vs Q E hr h => ?_)
  · obtain ⟨g, k, m, n, rfl, _⟩ := h
    rfl
  · obtain ⟨g, k, m, n, rfl, k2, k9, m1, m20, G, q⟩ := h
    refine ⟨_, (pss_cons (ps_setLc (i := 3) (own := [("_law_person", 4)]) (g := (gName 4)) (tt := tYes) (te := (tOp rRep (tLst (tCons (tC (.int 0)) tNil)) (tVar 4))) rfl scCompS.nd rfl rfl (sw_true rfl rfl rfl (by decide +kernel)) (pi_range1 (by rfl) T.range (pa_cons (pv 2) pa_nil))
          (blkOk_by (N := nCompS) (sc := (defScope sCompS)) (by decide +kernel)) (fun _ _ _ _ _ => (pg_name (i := 4) scCompS.nd rfl (Or.inl rfl))) (fun _ _ _ _ _ => by exact pts_nil)
          (fun _ _ _ _ _ => by exact (pe_op op_rep (pe_lst (pa_cons pe_int pa_nil)) (pv 4))))
      (pss_cons (ps_set (i := 5) scCompS.nd rfl (Or.inl rfl) (pe_lst (pa_cons (pe_listRg rfl (by rfl) T.list (prg_1 (by rfl) T.range (pv 2))) pa_nil)))
      (pss_cons (ps_if (pt_cmpR op_eq (pe_use ULrandom (hr.mono (by decide)) (by rfl) (pa_cons (pv 0) (pa_cons pe_int pa_nil))) pe_int (nomark _))
        (pss_one (ps_ret (pe_lc (own := [("_law_person", 4)]) (g := (gName 4)) (tt := tYes) (te := (tLc (iRng1 (tCons (tVar 4) tNil)) (gName 6) tYes (tCall spRandom [] E0 (tCons (tVar 0) (tCons (tVar 1) tNil))) [6])) rfl scCompS.nd (pi_range1 (by rfl) T.range (pa_cons (pv 2) pa_nil))
            (blkOk_by (N := nCompS) (sc := (defScope sCompS)) (by decide +kernel)) (fun _ _ _ _ _ => (pg_name (i := 4) scCompS.nd rfl (Or.inl rfl))) (fun _ _ _ _ _ => by exact pts_nil)
            (fun _ _ _ _ _ => by exact (pe_lc (own := [("_law_mate", 6)]) (g := (gName 6)) (tt := tYes) (te := (tCall spRandom [] E0 (tCons (tVar 0) (tCons (tVar 1) tNil)))) rfl scCompS.nd (pi_range1 (by rfl) T.range (pa_cons (pv 4) pa_nil))
            (blkOk_by (N := nCompS) (sc := (relS (wC (wX (wS (wB (wS (defBody sCompS) 2) 0) 0) 0)) (defScope sCompS))) (by decide +kernel)) (fun _ _ _ _ _ => (pg_name (i := 6) scCompS.nd rfl (Or.inl rfl))) (fun _ _ _ _ _ => by exact pts_nil)
            (fun _ _ _ _ _ => by exact (pe_use ULrandom (hr.mono (by decide)) (by rfl) (pa_cons (pv 0) (pa_cons (pv 1) pa_nil))))))))) pss_nil)
      (pss_cons (ps_while PassesOwn.never (pt_cmpR (op_neNil hr.units) (pv 5) (pe_lst pa_nil) (nomark _))
        (pss_cons (ps_set (i := 7) scCompS.nd rfl (Or.inl rfl) (pe_bm0 PySem.F.plainAttrs_list PySem.F.slot_list_pop PySem.F.type_list_pop mt_pop (pv 5)))
        (pss_one (ps_if (pt_cmpR op_gt (pe_callB call_len_seq (by rfl) T.len PySem.boot_len (pa_cons (pv 7) pa_nil)) pe_int (nomark _))
          (pss_cons (ps_asg (pe_tup (pa_cons (pe_lst (pa_cons (pe_lst pa_nil) (pa_cons (pe_lst pa_nil) (pa_cons (pe_lst pa_nil) pa_nil)))) (pa_cons (pe_use ULrandom (hr.mono (by decide)) (by rfl) (pa_cons (pv 0) (pa_cons (pv 1) pa_nil))) pa_nil)))
              (pg_tup rfl (pgs_cons (pg_name (i := 8) scCompS.nd rfl (Or.inr rfl)) (pgs_cons (pg_name (i := 9) scCompS.nd rfl (Or.inl rfl)) pgs_nil))))
          (pss_cons (ps_for PassesOwn.never rfl (pi_list (pv 7)) (pg_name (i := 4) scCompS.nd rfl (Or.inl rfl))
            (pss_one (ps_expr (pe_bm PySem.F.plainAttrs_list PySem.F.slot_list_append PySem.F.type_list_append mt_append (pe_ix ix_list (pv 8) (pe_use ULrandom (hr.mono (by decide)) (by rfl) (pa_cons (pv 0) (pa_cons pe_int pa_nil))) (fun _ _ => rfl)) (pa_cons (pv 4) pa_nil)))))
          (pss_cons (ps_set (i := 8) scCompS.nd rfl (Or.inr rfl) (pe_lc (own := [("_law_lot", 10)]) (g := (gName 10)) (tt := (tTest (tOp (rNeNil K) (tVar 10) (tLst tNil)))) (te := (tVar 10)) rfl scCompS.nd (pi_list (pv 8))
            (blkOk_by (N := nCompS) (sc := (defScope sCompS)) (by decide +kernel)) (fun _ _ _ _ _ => (pg_name (i := 10) scCompS.nd rfl (Or.inl rfl))) (fun _ _ _ _ _ => by exact (pts_one (pt_cmpR (op_neNil hr.units) (pv 10) (pe_lst pa_nil) (nomark _))))
            (fun _ _ _ _ _ => by exact (pv 10))))
          (pss_cons (ps_for PassesOwn.never rfl (pi_enum (by rfl) T.enumerate (pa_cons (pv 8) pa_nil)) (pg_tup rfl (pgs_cons (pg_name (i := 11) scCompS.nd rfl (Or.inl rfl)) (pgs_cons (pg_name (i := 10) scCompS.nd rfl (Or.inl rfl)) pgs_nil)))
            (pss_one (ps_for PassesOwn.never rfl (pi_list (pe_slice sl_list (pv 8) (po_some (pe_op op_add (pv 11) pe_int)) po_none)) (pg_name (i := 12) scCompS.nd rfl (Or.inl rfl))
              (pss_one (ps_set (i := 3) scCompS.nd rfl (Or.inl rfl) (pe_use ULtied (hr.mono (by decide)) (by rfl) (pa_cons (pv 3) (pa_cons (pv 10) (pa_cons (pv 12) (pa_cons (pv 9) pa_nil))))))))))
          (pss_cons (ps_set (i := 5) scCompS.nd rfl (Or.inl rfl) (pe_op op_cat (pv 5) (pe_lc (own := [("_law_lot", 10)]) (g := (gName 10)) (tt := (tTest (tOp (rI0 fun i j => .bl (decide (j < i))) (tCB (rLen K) (tCons (tVar 8) tNil)) (tC (.int 1))))) (te := (tVar 10)) rfl scCompS.nd (pi_list (pv 8))
            (blkOk_by (N := nCompS) (sc := (defScope sCompS)) (by decide +kernel)) (fun _ _ _ _ _ => (pg_name (i := 10) scCompS.nd rfl (Or.inl rfl))) (fun _ _ _ _ _ => by exact (pts_one (pt_cmpR op_gt (pe_callB call_len_seq (by rfl) T.len PySem.boot_len (pa_cons (pv 8) pa_nil)) pe_int (nomark _))))
            (fun _ _ _ _ _ => by exact (pv 10)))))
          (pss_one (ps_if (pt_cmpR op_eq (pe_callB call_len_seq (by rfl) T.len PySem.boot_len (pa_cons (pv 8) pa_nil)) pe_int (nomark _))
            (pss_cons (ps_set (i := 3) scCompS.nd rfl (Or.inl rfl) (pe_use ULtied (hr.mono (by decide)) (by rfl) (pa_cons (pv 3) (pa_cons (pe_slice sl_list (pv 7) po_none (po_some pe_int)) (pa_cons (pe_slice sl_list (pv 7) (po_some pe_int) po_none) (pa_cons (pv 9) pa_nil))))))
            (pss_one (ps_expr (pe_bm PySem.F.plainAttrs_list PySem.F.slot_list_append PySem.F.type_list_append mt_append (pv 5) (pa_cons (pe_slice sl_list (pv 7) (po_some pe_int) po_none) pa_nil))))) pss_nil))))))) pss_nil))))
      (pss_one (ps_ret (pv 3))))))), ?_⟩
    refine ⟨_, rfl, m, rfl, by omega, by omega, fun R0 hR0 => ?_⟩
    rw [Int.toNat_natCast]
    refine lc_objs (walk_nat (n := m)) (fun i => .lst ((((List.range m).map fun i => List.replicate i (0 : Int)).getD i []).map V.int)) hR0 (Nat.le_of_lt (small1000 (by omega))) (fun _ _ => trivial) ?_ ?_
    · rintro i x H1' H1 N hi s1 ⟨rfl, rfl⟩ hN
      refine gName_by ⟨rfl, one_le, fun l hl => ?_⟩
      obtain ⟨H2, e2, s2, f2⟩ := gen H1 hl (.lst [.int 0])
      rw [e2]
      refine ⟨_, rfl, l, _, _, rfl, rfl, f2, by omega, by omega, ?_, fun p hp => ?_⟩
      · rw [sizeLine_eq, List.length_singleton, Int.toNat_natCast]
        omega
      · have e : (List.replicate ((i : Nat) : Int).toNat [V.int 0]).flatten = List.replicate i (V.int 0) := by
          rw [Int.toNat_natCast]
          exact rep_self i (V.int 0)
        rw [e]
        refine hN _ p (s2.trans (same_new hp)) (s2.free hp) ?_
        rw [upd_same, List.getD_eq_getElem?_getD, List.getElem?_map, List.getElem?_range hi]
        show _ = some (HO.lst ((List.replicate i (0 : Int)).map V.int))
        rw [List.map_replicate]
    intro H1 rs0 s1 O
    have t1 := O.tab (by rw [List.length_map, List.length_range])
    have f1 : Fine k ((List.range m).map fun i => List.replicate i (0 : Int)) := fun i ks e => by
      rw [List.getElem?_map] at e
      by_cases hi : i < m
      · rw [List.getElem?_range hi] at e
        cases e
        refine ⟨List.length_replicate, fun z hz => ?_⟩
        rw [List.mem_replicate] at hz
        omega
      · rw [List.getElem?_eq_none (by rw [List.length_range]; omega)] at e
        cases e
    have c1 : CoN H H1 k R0 m := ⟨rs0, _, t1, by rw [List.length_map, List.length_range], f1, O.out, hR0, O.new⟩
    refine ⟨_, rfl, _, rfl, RgOk.of_le (by omega) (by omega) (by omega) (by omega), fun a0 ha0 => ?_⟩
    rw [rg_nat]
    obtain ⟨H2, e2, s2, f2⟩ := gen H1 ha0 (.lst (natV (List.range m)))
    rw [e2]
    clear e2
    refine ⟨one_le, fun P0 hP0 => ?_⟩
    obtain ⟨H3, e3, s3, f3⟩ := gen H2 hP0 (.lst [.ref a0])
    rw [e3]
    clear e3
    have s13 := s2.trans s3
    have s03 := s1.trans s13
    have G3 := G.same s03
    have c3 : CoP H H3 k R0 m P0 := by
      obtain ⟨rs, kss, t, x1, x2, x3, x4, x5⟩ := c1.ex
      refine (show CoP H H2 k R0 m a0 from ?_).fresh hP0 s3
      refine ⟨rs, kss, t.same s2, x1, x2, x3, x4, x5, fun z => ?_, fun z => ?_⟩
      · rw [z, t.top] at ha0
        cases ha0
      · obtain ⟨i, hi⟩ := List.getElem?_of_mem z
        have il : i < kss.length := by rw [← t.len]; exact (List.getElem?_eq_some_iff.mp hi).1
        obtain ⟨r, ks, h1, h2, h3⟩ := t.at il
        rw [hi] at h1
        cases h1
        rw [ha0] at h3
        cases h3
    have p3 : Pts H3 P0 [(a0, List.range m)] m := by
      refine ⟨f3, fun q hq => ?_, fun q hq => ?_, fun q hq => ?_⟩
      all_goals
        rw [List.mem_singleton] at hq
        subst hq
      · exact s3 _ _ f2
      · intro z
        have z : a0 = P0 := z
        rw [← z, f2] at hP0
        cases hP0
      · refine ⟨fun z => ?_, List.nodup_range, fun x hx => List.mem_range.mp hx⟩
        have := congrArg List.length z
        rw [List.length_range] at this
        simp at this
        omega
    have hP00 : H P0 = none := s1.free (s2.free hP0)
    have ha00 : H a0 = none := s1.free ha0
    refine ⟨_, rfl, g, 4, n + 19995, rfl, by decide, by decide, G3, fun r H4 r0 r1 G4 b4 => ⟨rfl, _, rfl, ite2 (fun c => ?_) (fun c => ?_)⟩⟩
    · -- drawn ties
      have b04 : But g H H4 := (But.of s03).trans b4
      refine ⟨_, rfl, m, rfl, by omega, by omega, fun D hD => ?_⟩
      have hD0 : H D = none := but_free b04 G4 hD
      have gD : D ≠ g := (G.ne hD0).symm
      refine lc_it (walk_range (lo := 0) (n := (m : Int).toNat)) (fun i H' => But g H H' ∧ Gen H' g (n + 19000 - 250 * i) ∧ ∃ rs kss, Tab H' D rs kss ∧ kss.length = i ∧ Fine k kss ∧ D ∉ rs ∧ ∀ r ∈ rs, H r = none)
        ⟨b04.trans (But.new hD), (G4.new hD).less (by omega), [], [], ⟨upd_same, rfl, fun i r ks h => by simp at h, List.nodup_nil⟩, rfl, Fine.nil, by simp, by simp⟩ (fun _ _ _ _ => trivial) ?_ ?_
      · rintro i y H' H'' hi ⟨bt, G', rs, kss, t, lk, fine, nD, nR⟩ ⟨rfl, rfl⟩
        have gr : g ∉ rs := notin_new G nR
        refine ⟨rfl, yes_of ?_⟩
        refine ⟨_, rfl, (0 + (i : Int)), rfl, by omega, by omega, fun D2 hD2 => ?_⟩
        have gD2 : D2 ≠ g := (G'.ne hD2).symm
        refine lc_it (walk_range (lo := 0) (n := (0 + (i : Int)).toNat)) (fun j H5 => But g H'' H5 ∧ Gen H5 g (n + 19000 - 250 * i - 5 * j) ∧ ∃ ks : List Int, H5 D2 = some (.lst (ks.map V.int)) ∧ ks.length = j ∧ ∀ z ∈ ks, 0 ≤ z ∧ z < k)
          ⟨But.new hD2, G'.new hD2, [], upd_same, rfl, by simp⟩ (fun _ _ _ _ => trivial) ?_ ?_
        · rintro j y H5 H6 hj ⟨b5, G5, ks, h5, l5, bb⟩ ⟨rfl, rfl⟩
          refine ⟨rfl, yes_of ?_⟩
          refine ⟨_, rfl, _, rfl, g, k, n + 19000 - 250 * i - 5 * (j + 1), rfl, by omega, by omega, G5.less (by omega), fun r2 H7 q0 q1 G7 b7 => ⟨_, b7 _ _ h5 gD2, ?_, ?_, G7.other gD2, ks ++ [r2], ?_, ?_, ?_⟩⟩
          · rw [List.length_map]
            exact small1000 (by omega)
          · intro b o e nb
            rw [upd_ne (ne_of_none e hD2)]
            exact b7 b o (b5 b o e nb) nb
          · rw [upd_same, List.map_append]
            rfl
          · rw [List.length_append, l5]
            rfl
          · intro z hz
            rcases List.mem_append.mp hz with hz | hz
            · exact bb z hz
            · rw [List.mem_singleton] at hz
              subst hz
              exact ⟨q0, by omega⟩
        · rintro H5 ⟨b5, G5, ks, h5, l5, bb⟩
          obtain ⟨t2, n2⟩ := t.push nD (H4 := H5) (fun r hr o e => b5 r o e fun z => gr (by rw [← z]; exact hr)) hD2 h5
          refine ⟨_, b5 _ _ t.top gD, ?_, ?_, (G5.less (by omega)).other gD, _, _, t2, ?_, fine.push (by omega) bb, n2, ?_⟩
          · rw [List.length_map, t.len]
            exact small1000 (by omega)
          · intro b o e nb
            rw [upd_ne (ne_of_none e hD0)]
            exact b5 b o (bt b o e nb) nb
          · rw [List.length_append, lk]
            rfl
          · intro r hr
            rcases List.mem_append.mp hr with hr | hr
            · exact nR r hr
            · rw [List.mem_singleton] at hr
              subst hr
              exact but_free bt G' hD2
      · rintro H' ⟨bt, G', rs, kss, t, lk, fine, nD, nR⟩
        exact q D H' bt (G'.less (by omega)) ⟨rs, kss, t, by omega, fine, nD, hD0, nR⟩
    · -- parts that are split
      have gR : ∀ {b : Addr}, H b = none → b ≠ g := fun e => (G.ne e).symm
      refine ⟨fun mu σ H' => ∃ (R P : Addr) (y4 y7 y8 y9 y10 y11 y12 : Option V) (qs : List (Addr × List Nat)), σ = [some (.ref g), some (.int k), some (.int (m : Nat)), some (.ref R), y4, some (.ref P), none, y7, y8, y9, y10, y11, y12] ∧ But g H H' ∧ Gen H' g (n + 400 * mu) ∧ CoP H H' k R m P ∧ Pts H' P qs m ∧ wts qs = mu ∧ H P = none ∧ (∀ q ∈ qs, H q.1 = none) ∧ mu ≤ 40, ⟨_, R0, P0, _, _, _, _, _, _, _, [(a0, List.range m)], rfl, (But.of s03).trans b4, ?_, c3.butg G b4, ?_, rfl, hP00, ?_, ?_⟩, ?_⟩
      · refine G4.less ?_
        show n + 400 * (2 * (List.range m).length - 1 + 0) ≤ _
        rw [List.length_range]
        omega
      · exact ⟨b4 _ _ p3.top (gR hP00), fun q hq => b4 _ _ (p3.row q hq) (by
          rw [List.mem_singleton] at hq
          subst hq
          exact gR ha00), p3.out, p3.ok⟩
      · intro q hq
        rw [List.mem_singleton] at hq
        subst hq
        exact ha00
      · show 2 * (List.range m).length - 1 + 0 ≤ 40
        rw [List.length_range]
        omega
      rintro mu σ H5 ⟨R, P, y4, y7, y8, y9, y10, y11, y12, qs, rfl, b5, G5, c5, p5, wm, hP, hq, mu40⟩
      refine ⟨_, rfl, Nat.zero_le _, fun e0 he0 => ?_⟩
      obtain ⟨H6, e6, s6, f6⟩ := gen H5 he0 (.lst [])
      rw [e6]
      clear e6
      refine ⟨P, e0, _, rfl, rfl, SqL.of (s6 _ _ p5.top), SqL.of f6, _, rfl, ?_⟩
      rcases List.eq_nil_or_concat qs with rfl | ⟨qs, qq, rfl⟩
      · refine iteF ?_
        exact ⟨_, rfl, q R H6 (b5.trans (But.of s6)) ((G5.same s6).less (by omega)) (c5.same s6).coN⟩
      rw [List.concat_eq_append] at *
      have ne : (!((qs ++ [qq]).map fun q => V.ref q.1).isEmpty) = true := by
        rw [List.map_append]
        cases qs <;> rfl
      rw [ne]
      refine iteT ⟨_, fun _ _ h => h, ?_⟩
      have qm : qq ∈ qs ++ [qq] := List.mem_append_right _ (List.mem_singleton_self _)
      obtain ⟨q0, qnd, qlt⟩ := p5.ok qq qm
      have hqq := p5.row qq qm
      have nqq := p5.out qq qm
      have nqH := hq qq qm
      have w6 : wts qs + (2 * qq.2.length - 1) = mu := by
        rw [← wm, wts_app]
        rfl
      have ql : qq.2.length ≤ 20 := by omega
      have q1 : 1 ≤ qq.2.length := by
        cases e : qq.2 with
        | nil => exact absurd e q0
        | cons x l => simp
      have top6 := s6 _ _ p5.top
      have epop : ((qs ++ [qq]).map fun q => V.ref q.1)[((qs ++ [qq]).map fun q => V.ref q.1).length - 1]? = some (.ref qq.1) := by
        rw [List.length_map, List.getElem?_map, List.length_append]
        show ((qs ++ [qq])[qs.length + 1 - 1]?).map _ = _
        rw [Nat.add_sub_cancel, List.getElem?_append_right (Nat.le_refl _), Nat.sub_self]
        rfl
      have edrop : ((qs ++ [qq]).map fun q => V.ref q.1).dropLast = qs.map fun q => V.ref q.1 := by
        rw [List.map_append]
        exact List.dropLast_concat
      refine ⟨_, rfl, .inl ⟨rfl, _, SqL.of top6⟩, P, _, _, rfl, rfl, top6, epop, ?_⟩
      rw [edrop]
      obtain ⟨H7, e7⟩ : ∃ H7, upd H6 P (.lst (qs.map fun q => V.ref q.1)) = H7 := ⟨_, rfl⟩
      rw [e7]
      have P7 : But P H6 H7 := by
        rw [← e7]
        exact But.put
      have gP : g ≠ P := G.ne hP
      have b7 : But g H H7 := fun b o e nb => P7 _ _ (s6 _ _ (b5 _ _ e nb)) (ne_of_none e hP)
      have G7 : Gen H7 g (n + 400 * mu) := by
        rw [← e7]
        exact (G5.same s6).other gP.symm
      have c7 : CoP H H7 k R m P := (c5.same s6).put P7
      have top7 : H7 P = some (.lst (qs.map fun q => V.ref q.1)) := by rw [← e7, upd_same]
      have row7 : ∀ q ∈ qs ++ [qq], H7 q.1 = some (.lst (natV q.2)) := fun q hq' => P7 _ _ (s6 _ _ (p5.row q hq')) (p5.out q hq')
      clear e7
      have mem : ∀ {q}, q ∈ qs → q ∈ qs ++ [qq] := fun h => List.mem_append_left _ h
      have hqq7 := row7 qq qm
      refine ⟨_, rfl, qq.1, _, rfl, .inl (SqL.of hqq7), _, _, rfl, rfl, _, rfl, ?_⟩
      rw [natV_len]
      by_cases big : 1 < qq.2.length
      rotate_left
      · refine ite2 (fun z => absurd (of_decide_eq_true z) (by omega)) (fun _ => ?_)
        exact ⟨wts qs, by omega, R, P, _, _, _, _, _, _, _, qs, rfl, b7, G7.less (by omega), c7, ⟨top7, fun q h => row7 q (mem h), fun q h => p5.out q (mem h), fun q h => p5.ok q (mem h)⟩, rfl, hP, fun q h => hq q (mem h), by omega⟩
      refine ite2 (fun _ => ?_) (fun z => absurd (decide_eq_true (by omega)) z)
      refine ⟨Nat.zero_le _, fun A0 hA0 => ?_⟩
      obtain ⟨H8, e8, s8, f8⟩ := gen H7 hA0 (.lst [])
      rw [e8]
      clear e8
      refine ⟨Nat.zero_le _, fun A1 hA1 => ?_⟩
      obtain ⟨H9, e9, s9, f9⟩ := gen H8 hA1 (.lst [])
      rw [e9]
      clear e9
      refine ⟨Nat.zero_le _, fun A2 hA2 => ?_⟩
      obtain ⟨H10, e10, s10, f10⟩ := gen H9 hA2 (.lst [])
      rw [e10]
      clear e10
      refine ⟨(by show 3 ≤ sizeLine; decide), fun L hL => ?_⟩
      obtain ⟨H11, e11, s11, f11⟩ := gen H10 hL (.lst [.ref A0, .ref A1, .ref A2])
      rw [e11]
      clear e11
      have s711 := s8.trans (s9.trans (s10.trans s11))
      have G11 := G7.same s711
      have b11 := b7.trans (But.of s711)
      have hA1' := s8.free hA1
      have hA2' := s8.free (s9.free hA2)
      have hL' := s8.free (s9.free (s10.free hL))
      have h0A : H A0 = none := but_free b7 G7 hA0
      have h1A : H A1 = none := but_free b7 G7 hA1'
      have h2A : H A2 = none := but_free b7 G7 hA2'
      have h0L : H L = none := but_free b7 G7 hL'
      have n01 : A0 ≠ A1 := fun z => by
        rw [← z, f8] at hA1
        cases hA1
      have n02 : A0 ≠ A2 := fun z => by
        rw [← z, s9 _ _ f8] at hA2
        cases hA2
      have n12 : A1 ≠ A2 := fun z => by
        rw [← z, f9] at hA2
        cases hA2
      have n0L : A0 ≠ L := fun z => by
        rw [← z, s10 _ _ (s9 _ _ f8)] at hL
        cases hL
      have n1L : A1 ≠ L := fun z => by
        rw [← z, s10 _ _ f9] at hL
        cases hL
      have n2L : A2 ≠ L := fun z => by
        rw [← z, f10] at hL
        cases hL
      refine ⟨_, rfl, _, rfl, g, k, n + 400 * mu - 5, rfl, by omega, by omega, G11.less (by omega), fun kd H12 kd0 kd1 G12 b12 => ?_⟩
      refine ⟨(by show 2 ≤ sizeLine; decide), fun t2 ht2 => ?_⟩
      obtain ⟨H13, e13, s13', f13⟩ := gen H12 ht2 (.tup [.ref L, .int kd])
      rw [e13]
      clear e13
      refine ⟨t2, _, rfl, SqT.of f13, rfl, _, _, rfl, _, _, rfl, rfl, ?_⟩
      have b13 : But g H11 H13 := b12.trans (But.of s13')
      have G13 := G12.same s13'
      have B13 := b11.trans b13
      have c13 : CoP H H13 k R m P := (c7.same s711).butg G b13
      have top13 := b13 _ _ (s711 _ _ top7) gP.symm
      have row13 : ∀ q ∈ qs ++ [qq], H13 q.1 = some (.lst (natV q.2)) := fun q h => b13 _ _ (s711 _ _ (row7 q h)) (gR (hq q h))
      have gA : ∀ {b : Addr}, H b = none → b ≠ g := gR
      have a0 := b13 _ _ (s11 _ _ (s10 _ _ (s9 _ _ f8))) (gA h0A)
      have a1 := b13 _ _ (s11 _ _ (s10 _ _ f9)) (gA h1A)
      have a2 := b13 _ _ (s11 _ _ f10) (gA h2A)
      have aL := b13 _ _ f11 (gA h0L)
      have C13 : But g H7 H13 := (But.of s711).trans b13
      have nd0 : A0 ≠ g := gA h0A
      have nd1 : A1 ≠ g := gA h1A
      have nd2 : A2 ≠ g := gA h2A
      have ndL : L ≠ g := gA h0L
      refine ⟨_, rfl, qq.1, rfl, ⟨_, SqL.of (row13 qq qm)⟩, ?_⟩
      have ll : (natV qq.2).length = qq.2.length := natV_len _
      refine for_list (K := K) (a := qq.1) (xs := natV qq.2) (fun i σ H' => ∃ (y4 : Option V) (c0 c1 c2 : List Nat), σ = [some (.ref g), some (.int k), some (.int (m : Nat)), some (.ref R), y4, some (.ref P), none, some (.ref qq.1), some (.ref L), some (.int kd), y10, y11, y12] ∧ But g H7 H' ∧ Gen H' g (n + 400 * mu - 5 - 5 * i) ∧ H' A0 = some (.lst (natV c0)) ∧ H' A1 = some (.lst (natV c1)) ∧ H' A2 = some (.lst (natV c2)) ∧ H' L = some (.lst [.ref A0, .ref A1, .ref A2]) ∧ (c0 ++ c1 ++ c2).Perm (qq.2.take i))
        ⟨_, [], [], [], rfl, C13, G13.less (by omega), a0, a1, a2, aL, by simp⟩ (fun i σ H' _ z => by
          obtain ⟨_, _, _, _, _, bt, _⟩ := z
          exact SqL.of (bt _ _ hqq7 (gR nqH))) ?_ ?_
      · rintro i x σ H14 hi ⟨y4, c0, c1, c2, rfl, b14, G14, h0, h1, h2, hL14, pm⟩
        obtain ⟨u, rfl, eu⟩ := natV_at hi
        have il : i < qq.2.length := (List.getElem?_eq_some_iff.mp eu).1
        have pl : c0.length + c1.length + c2.length ≤ 20 := by
          have := pm.length_eq
          rw [List.length_append, List.length_append, List.length_take] at this
          omega
        have et : qq.2.take (i + 1) = qq.2.take i ++ [u] := by
          rw [List.take_add_one, eu]
          rfl
        refine gName_by ?_
        refine ⟨_, rfl, _, rfl, g, 3, n + 400 * mu - 5 - 5 * (i + 1), rfl, by decide, by decide, G14.less (by omega), fun r H15 r0 r1 G15 b15 => ?_⟩
        have B15 := b14.trans b15
        have g0 := b15 _ _ h0 nd0
        have g1 := b15 _ _ h1 nd1
        have g2 := b15 _ _ h2 nd2
        have gL := b15 _ _ hL14 ndL
        obtain rfl | rfl | rfl : r = 0 ∨ r = 1 ∨ r = 2 := by omega
        · refine ⟨L, _, _, _, rfl, rfl, SqL.of gL, at_of (j := 0) rfl rfl, .inl ⟨rfl, _, SqL.of g0⟩, _, rfl, A0, _, _, rfl, rfl, g0, (by rw [natV_len, sizeLine_eq]; omega), ?_⟩
          refine ⟨_, c0 ++ [u], c1, c2, rfl, fun b o e nb => ?_, G15.other nd0, ?_, ?_, ?_, ?_, ?_⟩
          · rw [upd_ne (ne_of_none e hA0)]
            exact B15 _ _ e nb
          · rw [upd_same]
            unfold natV
            rw [List.map_append]
            rfl
          · rw [upd_ne n01.symm]
            exact g1
          · rw [upd_ne n02.symm]
            exact g2
          · rw [upd_ne n0L.symm]
            exact gL
          · rw [et, List.perm_iff_count]
            intro z
            have := (List.perm_iff_count.mp pm) z
            simp only [List.count_append] at this ⊢
            omega
        · refine ⟨L, _, _, _, rfl, rfl, SqL.of gL, at_of (j := 1) rfl rfl, .inl ⟨rfl, _, SqL.of g1⟩, _, rfl, A1, _, _, rfl, rfl, g1, (by rw [natV_len, sizeLine_eq]; omega), ?_⟩
          refine ⟨_, c0, c1 ++ [u], c2, rfl, fun b o e nb => ?_, G15.other nd1, ?_, ?_, ?_, ?_, ?_⟩
          · rw [upd_ne (ne_of_none e hA1')]
            exact B15 _ _ e nb
          · rw [upd_ne n01]
            exact g0
          · rw [upd_same]
            unfold natV
            rw [List.map_append]
            rfl
          · rw [upd_ne n12.symm]
            exact g2
          · rw [upd_ne n1L.symm]
            exact gL
          · rw [et, List.perm_iff_count]
            intro z
            have := (List.perm_iff_count.mp pm) z
            simp only [List.count_append] at this ⊢
            omega
        · refine ⟨L, _, _, _, rfl, rfl, SqL.of gL, at_of (j := 2) rfl rfl, .inl ⟨rfl, _, SqL.of g2⟩, _, rfl, A2, _, _, rfl, rfl, g2, (by rw [natV_len, sizeLine_eq]; omega), ?_⟩
          refine ⟨_, c0, c1, c2 ++ [u], rfl, fun b o e nb => ?_, G15.other nd2, ?_, ?_, ?_, ?_, ?_⟩
          · rw [upd_ne (ne_of_none e hA2')]
            exact B15 _ _ e nb
          · rw [upd_ne n02]
            exact g0
          · rw [upd_ne n12]
            exact g1
          · rw [upd_same]
            unfold natV
            rw [List.map_append]
            rfl
          · rw [upd_ne n2L.symm]
            exact gL
          · rw [et, List.perm_iff_count]
            intro z
            have := (List.perm_iff_count.mp pm) z
            simp only [List.count_append] at this ⊢
            omega
      rintro σ H14 ⟨y4, c0, c1, c2, rfl, b14, G14, h0, h1, h2, hL14, pm⟩
      rw [ll, List.take_length] at pm
      rw [ll] at G14
      obtain ⟨cs, ecs⟩ : ∃ cs, cs = [(A0, c0), (A1, c1), (A2, c2)] := ⟨_, rfl⟩
      have hcs : ∀ q ∈ cs, H14 q.1 = some (.lst (natV q.2)) ∧ H7 q.1 = none := fun q hq => by
        rw [ecs] at hq
        simp only [List.mem_cons, List.not_mem_nil, or_false] at hq
        rcases hq with rfl | rfl | rfl
        · exact ⟨h0, hA0⟩
        · exact ⟨h1, hA1'⟩
        · exact ⟨h2, hA2'⟩
      have hLc : H14 L = some (.lst (cs.map fun q => V.ref q.1)) := by rw [ecs]; exact hL14
      have fl : ((kept cs).map (·.2)).flatten.Perm qq.2 := by
        rw [kept_flat, ecs]
        simpa using pm
      have l3 : cs.length = 3 := by rw [ecs]; rfl
      clear ecs hL14 h0 h1 h2 pm
      -- the lots with somebody
      refine ⟨_, rfl, L, rfl, ⟨_, SqL.of hLc⟩, fun D hD => ?_⟩
      refine lc_list (K := K) (a := L) (xs := cs.map fun q => V.ref q.1) (fun i H' => Same H14 H' ∧ H' D = some (.lst ((kept (cs.take i)).map fun q => V.ref q.1))) ⟨same_new hD, upd_same⟩ (fun i H' _ z => SqL.of (z.1 _ _ hLc)) ?_ ?_
      · rintro i y H15 hi ⟨s15, h15⟩
        rw [List.getElem?_map] at hi
        cases ec : cs[i]? with
        | none =>
          rw [ec] at hi
          cases hi
        | some c =>
          rw [ec] at hi
          cases hi
          have hc := (hcs c (List.mem_of_getElem? ec)).1
          have et : cs.take (i + 1) = cs.take i ++ [c] := by
            rw [List.take_add_one, ec]
            rfl
          refine ⟨rfl, ?_⟩
          refine ⟨_, rfl, Nat.zero_le _, fun e1 he1 => ?_⟩
          obtain ⟨H16, e16, s16, f16⟩ := gen H15 he1 (.lst [])
          rw [e16]
          have s1416 := s15.trans s16
          have h16 := s16 _ _ h15
          refine ⟨c.1, e1, _, rfl, rfl, SqL.of (s1416 _ _ hc), SqL.of f16, _, rfl, ?_⟩
          have ee : (natV c.2).isEmpty = c.2.isEmpty := by
            unfold natV
            cases c.2 <;> rfl
          rw [ee]
          cases hb : c.2.isEmpty with
          | true =>
            refine iteF ⟨s1416, ?_⟩
            rw [h16, et]
            unfold kept
            rw [List.filter_append, List.filter_cons_of_neg (by rw [hb]; decide)]
            simp
          | false =>
            refine iteT ⟨_, rfl, _, h16, ?_, fun b o e => ?_, ?_⟩
            · rw [List.length_map, sizeLine_eq]
              have := List.length_filter_le (fun q : Addr × List Nat => !q.2.isEmpty) (cs.take i)
              rw [List.length_take] at this
              unfold kept
              omega
            · rw [upd_ne (ne_of_none e hD)]
              exact s1416 _ _ e
            · rw [upd_same, et]
              unfold kept
              rw [List.filter_append, List.filter_cons_of_pos (by rw [hb]; decide), List.map_append]
              rfl
      rintro H15 ⟨s15, h15⟩
      rw [List.length_map, List.take_length] at h15
      obtain ⟨sel, esel⟩ : ∃ sel, sel = kept cs := ⟨_, rfl⟩
      rw [← esel] at h15 fl
      have sl3 : sel.length ≤ 3 := by
        rw [esel, ← l3]
        exact List.length_filter_le _ _
      have selc : ∀ q ∈ sel, H15 q.1 = some (.lst (natV q.2)) ∧ H7 q.1 = none ∧ q.2 ≠ [] := fun q hq' => by
        rw [esel] at hq'
        obtain ⟨z1, z2⟩ := hcs q (List.mem_filter.mp hq').1
        exact ⟨s15 _ _ z1, z2, kept_ne hq'⟩
      clear esel hcs hLc
      have fnd : ((sel.map (·.2)).flatten).Nodup := (fl.nodup_iff).mpr qnd
      have B15 : But g H7 H15 := b14.trans (But.of s15)
      have G15 := G14.same s15
      have c15 : CoP H H15 k R m P := c7.butg G B15
      have selm : ∀ q ∈ sel, ∀ x ∈ q.2, x < m := fun q h x hx => qlt x (fl.mem_iff.mp (List.mem_flatten.mpr ⟨q.2, List.mem_map_of_mem (f := (·.2)) h, hx⟩))
      refine ⟨_, rfl, D, _, rfl, SqL.of h15, ?_⟩
      refine for_it (walk_enum (K := K) (a := D) (xs := sel.map fun q => V.ref q.1)) (fun i σ H' => ∃ (R' : Addr) (y10 y11 y12 : Option V), σ = [some (.ref g), some (.int k), some (.int (m : Nat)), some (.ref R'), y4, some (.ref P), none, some (.ref qq.1), some (.ref D), some (.int kd), y10, y11, y12] ∧ Same H15 H' ∧ CoP H H' k R' m P)
        ⟨R, _, _, _, rfl, Same.refl _, c15⟩ (fun i σ H' _ z => by
          obtain ⟨_, _, _, _, _, s', _⟩ := z
          exact SqL.of (s' _ _ h15)) ?_ ?_
      · rintro i y σ H16 H17 hi ⟨R', y10, y11, y12, rfl, s16, c16⟩ ⟨T2, x1, x2, rfl, nT, rfl, e1, e2⟩
        rw [List.length_map] at hi
        have e1' : x1 = .int (i : Nat) := (Option.some.inj e1).symm
        subst e1'
        obtain ⟨a1, ea1⟩ : ∃ a1, sel[i]? = some a1 := ⟨_, List.getElem?_eq_getElem hi⟩
        have e2' : x2 = .ref a1.1 := by
          have z : (sel.map fun q => V.ref q.1)[i]? = some x2 := e2
          rw [List.getElem?_map, ea1] at z
          exact (Option.some.inj z).symm
        subst e2'
        obtain ⟨z1, z2, z3⟩ := selc a1 (List.mem_of_getElem? ea1)
        refine ⟨T2, _, rfl, SqT.of upd_same, rfl, _, _, rfl, _, _, rfl, rfl, ?_⟩
        obtain ⟨H17, e17, s17, f17⟩ := gen H16 nT (.tup [.int (i : Nat), .ref a1.1])
        show _
        rw [e17]
        clear e17
        have s1517 := s16.trans s17
        refine ⟨_, rfl, _, rfl, _, _, rfl, rfl, _, rfl, D, _, rfl, SqL.of (s1517 _ _ h15), fun S hS => ?_⟩
        rw [show ((i : Nat) : Int) + 1 = ((i + 1 : Nat) : Int) by omega, cut_from, ← List.map_drop]
        obtain ⟨H18, e18, s18, f18⟩ := gen H17 hS (.lst ((sel.drop (i + 1)).map fun q => V.ref q.1))
        rw [e18]
        clear e18
        have s1518 := s1517.trans s18
        refine ⟨S, rfl, ⟨_, SqL.of f18⟩, ?_⟩
        refine for_list (K := K) (a := S) (xs := (sel.drop (i + 1)).map fun q => V.ref q.1) (fun j σ H' => ∃ (R' : Addr) (y12 : Option V), σ = [some (.ref g), some (.int k), some (.int (m : Nat)), some (.ref R'), y4, some (.ref P), none, some (.ref qq.1), some (.ref D), some (.int kd), some (.ref a1.1), some (.int (i : Nat)), y12] ∧ Same H18 H' ∧ CoP H H' k R' m P)
          ⟨R', _, rfl, Same.refl _, (c16.same s17).same s18⟩ (fun i σ H' _ z => by
            obtain ⟨_, _, _, s', _⟩ := z
            exact SqL.of (s' _ _ f18)) ?_ ?_
        · rintro j x σ H19 hj ⟨R'', y12, rfl, s19, c19⟩
          rw [List.getElem?_map, List.getElem?_drop] at hj
          cases ea2 : sel[i + 1 + j]? with
          | none =>
            rw [ea2] at hj
            cases hj
          | some a2 =>
            rw [ea2] at hj
            cases hj
            obtain ⟨w1, w2, w3⟩ := selc a2 (List.mem_of_getElem? ea2)
            have s1519 := s1518.trans s19
            have h1 : (sel.map (·.2))[i]? = some a1.2 := by rw [List.getElem?_map, ea1]; rfl
            have h2 : (sel.map (·.2))[i + 1 + j]? = some a2.2 := by rw [List.getElem?_map, ea2]; rfl
            obtain ⟨rs, kss, tb, lk, fk, oR, hR, nR, pR, pr⟩ := c19.ex
            refine gName_by ?_
            refine ⟨_, rfl, _, rfl, _, rfl, _, rfl, R'', a1.1, a2.1, rs, kss, a1.2, a2.2, k, kd, rfl, tb, fk, by omega, s1519 _ _ z1, s1519 _ _ w1, ?_, ?_, flat_apart fnd (by omega) h1 h2, kd0, kd1, fun p H20 s20 c20 => ?_⟩
            · rw [lk]
              exact selm a1 (List.mem_of_getElem? ea1)
            · rw [lk]
              exact selm a2 (List.mem_of_getElem? ea2)
            · rw [lk] at c20
              have hP19 : H19 P = some (.lst (qs.map fun q => V.ref q.1)) := s1519 _ _ (B15 _ _ top7 gP.symm)
              exact ⟨p, _, rfl, s19.trans s20, c20.coP hP19 fun a ha => but_free (b7.trans (B15.trans (But.of s1519))) (G15.same s1519) ha⟩
        · rintro σ H19 ⟨R'', y12, rfl, s19, c19⟩
          exact ⟨R'', _, _, _, rfl, s1518.trans s19, c19⟩
      rintro σ H16 ⟨R', y10, y11, y12, rfl, s16, c16⟩
      have B16 := B15.trans (But.of s16)
      have G16 := G15.same s16
      have h16 := s16 _ _ h15
      have top16 := B16 _ _ top7 gP.symm
      refine ⟨_, rfl, _, rfl, D, rfl, ⟨_, SqL.of h16⟩, fun D2 hD2 => ?_⟩
      obtain ⟨more, emore⟩ : ∃ more : List (Addr × List Nat), more = if 1 < sel.length then sel else [] := ⟨_, rfl⟩
      refine lc_list (K := K) (a := D) (xs := sel.map fun q => V.ref q.1) (fun i H' => Same H16 H' ∧ H' D2 = some (.lst ((more.take i).map fun q => V.ref q.1))) ⟨same_new hD2, upd_same⟩ (fun i H' _ z => SqL.of (z.1 _ _ h16)) ?_ ?_
      · rintro i y H17 hi ⟨s17, h17⟩
        rw [List.getElem?_map] at hi
        cases ec : sel[i]? with
        | none =>
          rw [ec] at hi
          cases hi
        | some c =>
          rw [ec] at hi
          cases hi
          refine ⟨rfl, ?_⟩
          refine ⟨_, rfl, D, _, rfl, .inl (SqL.of (s17 _ _ h16)), _, _, rfl, rfl, _, rfl, ?_⟩
          rw [List.length_map]
          by_cases b1 : 1 < sel.length
          · rw [if_pos b1] at emore
            subst emore
            refine ite2 (fun _ => ?_) (fun z => absurd (decide_eq_true (by omega)) z)
            refine ⟨_, rfl, _, h17, ?_, fun b o e => ?_, ?_⟩
            · rw [List.length_map, List.length_take, sizeLine_eq]
              omega
            · rw [upd_ne (ne_of_none e hD2)]
              exact s17 _ _ e
            · rw [upd_same, List.take_add_one, ec, List.map_append]
              rfl
          · rw [if_neg b1] at emore
            subst emore
            refine ite2 (fun z => absurd (of_decide_eq_true z) (by omega)) (fun _ => ⟨s17, ?_⟩)
            rw [h17, List.take_nil, List.take_nil]
      rintro H17 ⟨s17, h17⟩
      have lmore : more.take ((sel.map fun q => V.ref q.1).length) = more := by
        refine List.take_of_length_le ?_
        rw [List.length_map, emore]
        split <;> simp
      rw [lmore] at h17
      have qslen : qs.length ≤ 40 := by
        have z := wts_flat (qs := qs) fun q h => (p5.ok q (mem h)).1
        have : ∀ l : List (Addr × List Nat), (∀ q ∈ l, q.2 ≠ []) → l.length ≤ wts l := by
          intro l
          induction l with
          | nil => intro _; exact Nat.le_refl _
          | cons a l ih =>
            intro h
            have h1 := ih fun x hx => h x (List.mem_cons_of_mem _ hx)
            have h2 : 1 ≤ a.2.length := by
              have := h a (List.mem_cons_self ..)
              cases e : a.2 with
              | nil => exact absurd e this
              | cons x y => simp
            show l.length + 1 ≤ (2 * a.2.length - 1) + wts l
            omega
        have := this qs fun q h => (p5.ok q (mem h)).1
        omega
      have mlen : more.length ≤ 3 := by
        rw [emore]
        split
        · exact sl3
        · exact Nat.zero_le _
      refine ⟨P, D2, _, _, rfl, rfl, s17 _ _ top16, h17, ?_, fun P2 hP2 => ?_⟩
      · rw [List.length_map, List.length_map, sizeLine_eq]
        omega
      rw [← List.map_append]
      obtain ⟨H18, e18, s18, f18⟩ := gen H17 hP2 (.lst ((qs ++ more).map fun q => V.ref q.1))
      rw [e18]
      clear e18
      have s1518 := s16.trans (s17.trans s18)
      have B18 := B15.trans (But.of s1518)
      have G18 := G15.same s1518
      have c18 : CoP H H18 k R' m P2 := (c16.same s17).fresh hP2 s18
      have hP2H : H P2 = none := but_free (b7.trans (B16.trans (But.of s17))) (G16.same s17) hP2
      have mrow : ∀ q ∈ qs ++ more, H18 q.1 = some (.lst (natV q.2)) ∧ q.1 ≠ P2 ∧ (q.2 ≠ [] ∧ q.2.Nodup ∧ ∀ x ∈ q.2, x < m) ∧ H q.1 = none := fun q h => by
        have ne : ∀ {o}, H17 q.1 = some o → q.1 ≠ P2 := fun e z => by
          rw [z, hP2] at e
          cases e
        rcases List.mem_append.mp h with h | h
        · have z := (B16.trans (But.of s17)) _ _ (row7 q (mem h)) (gR (hq q (mem h)))
          exact ⟨s18 _ _ z, ne z, p5.ok q (mem h), hq q (mem h)⟩
        · have hs : q ∈ sel := by
            rw [emore] at h
            split at h
            · exact h
            · cases h
          obtain ⟨z1, z2, z3⟩ := selc q hs
          have z := (s16.trans s17) _ _ z1
          exact ⟨s18 _ _ z, ne z, ⟨z3, flat_nodup fnd (List.mem_map_of_mem (f := (·.2)) hs), selm q hs⟩, but_free b7 G7 z2⟩
      have pts : Pts H18 P2 (qs ++ more) m := ⟨f18, fun q h => (mrow q h).1, fun q h => (mrow q h).2.1, fun q h => (mrow q h).2.2.1⟩
      have wsel : wts sel + sel.length = 2 * qq.2.length := by
        rw [wts_flat fun q h => (selc q h).2.2, fl.length_eq]
      refine ⟨_, rfl, D, _, rfl, .inl (SqL.of (s17 _ _ h16 |> s18 _ _)), rfl, _, rfl, ?_⟩
      rw [List.length_map]
      by_cases one : sel.length = 1
      rotate_left
      · refine ite2 (fun z => absurd (of_decide_eq_true z) fun z2 => one (by have := V.int.inj z2; omega)) (fun _ => ?_)
        have wm : wts (qs ++ more) < mu := by
          rw [wts_app, emore]
          split
          · omega
          · show wts qs + 0 < mu
            omega
        exact ⟨wts (qs ++ more), wm, R', P2, _, _, _, _, _, _, _, qs ++ more, rfl, b7.trans B18, G18.less (by omega), c18, pts, rfl, hP2H, fun q h => (mrow q h).2.2.2, by omega⟩
      refine ite2 (fun _ => ?_) (fun z => absurd (decide_eq_true (by rw [one]; rfl)) z)
      have em : more = [] := by
        rw [emore, if_neg (by omega)]
      subst em
      rw [List.append_nil] at *
      have part18 : H18 qq.1 = some (.lst (natV qq.2)) := B18 _ _ hqq7 (gR nqH)
      refine ⟨_, rfl, _, rfl, _, rfl, qq.1, _, rfl, SqL.of part18, fun S1 hS1 => ?_⟩
      have ec1 : cutV (natV qq.2) none (some 1) = natV (qq.2.take 1) := (cut_upto _ 1).trans (natV_take ..)
      have ec2 : cutV (natV qq.2) (some 1) none = natV (qq.2.drop 1) := (cut_from _ 1).trans (natV_drop ..)
      rw [ec1]
      obtain ⟨H19, e19, s19, f19⟩ := gen H18 hS1 (.lst (natV (qq.2.take 1)))
      rw [e19]
      clear e19
      refine ⟨_, rfl, _, rfl, qq.1, _, rfl, SqL.of (s19 _ _ part18), fun S2 hS2 => ?_⟩
      rw [ec2]
      obtain ⟨H20, e20, s20, f20⟩ := gen H19 hS2 (.lst (natV (qq.2.drop 1)))
      rw [e20]
      clear e20
      have s1820 := s19.trans s20
      obtain ⟨rs, kss, tb, lk, fk, oR, hR, nR, pR, pr⟩ := (c18.same s1820).ex
      have nd2 : (qq.2.take 1 ++ qq.2.drop 1).Nodup := by
        rw [List.take_append_drop]
        exact qnd
      have nd3 := List.nodup_append.mp nd2
      refine ⟨_, rfl, R', S1, S2, rs, kss, qq.2.take 1, qq.2.drop 1, k, kd, rfl, tb, fk, by omega, s20 _ _ f19, f20, ?_, ?_, fun x hx y hy => nd3.2.2 x hx y hy, kd0, kd1, fun p H21 s21 c21 => ?_⟩
      · rw [lk]
        exact fun x hx => qlt x (List.mem_of_mem_take hx)
      · rw [lk]
        exact fun x hx => qlt x (List.mem_of_mem_drop hx)
      rw [lk] at c21
      have s1821 := s1820.trans s21
      have cc : CoP H H21 k p m P2 := c21.coP (s1820 _ _ f18) fun a ha => but_free (b7.trans (B18.trans (But.of s1820))) (G18.same s1820) ha
      have top21 := s1821 _ _ f18
      refine ⟨_, rfl, .inl ⟨rfl, _, SqL.of top21⟩, _, rfl, _, rfl, qq.1, _, rfl, SqL.of (s1821 _ _ part18), fun S3 hS3 => ?_⟩
      rw [ec2]
      obtain ⟨H22, e22, s22, f22⟩ := gen H21 hS3 (.lst (natV (qq.2.drop 1)))
      rw [e22]
      clear e22
      have s1822 := s1821.trans s22
      have top22 := s22 _ _ top21
      have nS3 : S3 ≠ P2 := fun z => by
        rw [z, top21] at hS3
        cases hS3
      have hS3H : H S3 = none := but_free (b7.trans (B18.trans (But.of s1821))) (G18.same s1821) hS3
      refine ⟨P2, _, _, rfl, rfl, top22, (by rw [List.length_map, sizeLine_eq]; omega), ?_⟩
      have eP : (qs.map fun q => V.ref q.1) ++ [V.ref S3] = (qs ++ [(S3, qq.2.drop 1)]).map fun q => V.ref q.1 := by
        rw [List.map_append]
        rfl
      rw [eP]
      obtain ⟨H23, e23⟩ : ∃ H23, upd H22 P2 (.lst ((qs ++ [(S3, qq.2.drop 1)]).map fun q => V.ref q.1)) = H23 := ⟨_, rfl⟩
      rw [e23]
      have P23 : But P2 H22 H23 := by
        rw [← e23]
        exact But.put
      have wn : wts (qs ++ [(S3, qq.2.drop 1)]) < mu := by
        rw [wts_app]
        show wts qs + (2 * (qq.2.drop 1).length - 1 + 0) < mu
        rw [List.length_drop]
        omega
      have nP2g : P2 ≠ g := gR hP2H
      have row23 : ∀ q ∈ qs ++ [(S3, qq.2.drop 1)], H23 q.1 = some (.lst (natV q.2)) ∧ q.1 ≠ P2 ∧ (q.2 ≠ [] ∧ q.2.Nodup ∧ ∀ x ∈ q.2, x < m) ∧ H q.1 = none := fun q h => by
        rcases List.mem_append.mp h with h | h
        · obtain ⟨z1, z2, z3, z4⟩ := mrow q h
          exact ⟨P23 _ _ (s1822 _ _ z1) z2, z2, z3, z4⟩
        · rw [List.mem_singleton] at h
          subst h
          refine ⟨P23 _ _ f22 nS3, nS3, ⟨fun z => ?_, nd3.2.1, fun x hx => qlt x (List.mem_of_mem_drop hx)⟩, hS3H⟩
          have := congrArg List.length z
          rw [List.length_drop] at this
          simp at this
          omega
      refine ⟨wts (qs ++ [(S3, qq.2.drop 1)]), wn, p, P2, _, _, _, _, _, _, _, qs ++ [(S3, qq.2.drop 1)], rfl, ?_, ?_, (cc.same s22).put P23, ⟨by rw [← e23, upd_same], fun q h => (row23 q h).1, fun q h => (row23 q h).2.1, fun q h => (row23 q h).2.2.1⟩, rfl, hP2H, fun q h => (row23 q h).2.2.2, by omega⟩
      · intro b o e nb
        exact P23 _ _ (s1822 _ _ (B18 _ _ (b7 _ _ e nb) nb)) (ne_of_none e hP2H)
      · rw [← e23]
        exact ((G18.same s1822).less (by omega)).other nP2g
end
end K56

namespace GL
open PySem PySem.Spec PyProof.Rows
open L2 hiding spCell
open LamX (ExtN Tabs TabS CodeO)
section
variable {w : Nat} {k : Int} {x y z u : V} {dc d3 d4 : PyData}
end
/-! ### data -/
end GL
namespace GL
open PySem PySem.Spec PyProof.Rows
open L2 hiding spCell
open LamX (ExtN Tabs TabS CodeO)
end GL
namespace GL
open PySem PySem.Spec PyProof.Rows
open L2 hiding spCell
mutual
/-- no list of n items within -/
noncomputable def noLen (n : Nat) : PyData → Bool
  | .list ds => !decide (ds.length = n) && noLenA n ds
  | .tuple ds => noLenA n ds
  | _ => true
noncomputable def noLenA (n : Nat) : List PyData → Bool
  | [] => true
  | d :: ds => noLen n d && noLenA n ds
end
mutual
theorem Dt.wo {K : PySem.W.Frag} {H : Hp} {a : Addr} {xs : List V} (ha : H a = some (.lst xs)) : ∀ (d : PyData) (v : V), noLen xs.length d = true → Dt K H v d → Dt K (GL.hid H a) v d
  | .none, _, _, h => by cases h; exact .non
  | .bool b, _, _, h => by cases h; exact .bl b
  | .int i, _, _, h => by cases h; exact .int i
  | .str x, _, _, h => by cases h; exact .str x
  | .list ds, _, p, h => by
    simp only [noLen, Bool.and_eq_true, Bool.not_eq_true', decide_eq_false_iff_not] at p
    cases h with
    | @lst b ys _ e q =>
      have ne : b ≠ a := fun z => by
        rw [z, ha] at e
        cases e
        exact p.1 q.length.symm
      exact .lst (hid_in e ne) (Dts.wo ha ds _ p.2 q)
  | .tuple ds, _, p, h => by
    simp only [noLen] at p
    cases h with
    | @tup b ys _ e q =>
      have ne : b ≠ a := fun z => by
        rw [z, ha] at e
        cases e
      exact .tup (hid_in e ne) (Dts.wo ha ds _ p q)
  | .dict kvs, _, _, h => by
    cases h with
    | @dct b e =>
      have ne : b ≠ a := fun z => by
        rw [z, ha] at e
        cases e
      exact .dct (hid_in e ne)
theorem Dts.wo {K : PySem.W.Frag} {H : Hp} {a : Addr} {xs : List V} (ha : H a = some (.lst xs)) : ∀ (ds : List PyData) (vs : List V), noLenA xs.length ds = true → Dts K H vs ds → Dts K (GL.hid H a) vs ds
  | [], _, _, h => by cases h; exact .nil
  | d :: ds, _, p, h => by
    simp only [noLenA, Bool.and_eq_true] at p
    cases h with
    | cons a b => exact .cons (Dt.wo ha d _ p.1 a) (Dts.wo ha ds _ p.2 b)
end
end GL
namespace GL
open PySem PySem.Spec PyProof.Rows
open L2 hiding spCell
end GL
namespace GL
open PySem PySem.Spec PyProof.Rows
open L2 hiding spCell
section
variable {X : Cx} {ps : List Str} {sp : Sp} {x : Str} {p pos : Pos} {k : Nat}
end
end GL

namespace GL
open PySem PySem.Spec PyProof.Rows
open L2 hiding spCell
theorem dts_take {K : PySem.W.Frag} {H : Hp} : ∀ (n : Nat) {xs : List V} {ds : List PyData}, Dts K H xs ds → Dts K H (xs.take n) (ds.take n)
  | 0, _, _, _ => by
    rw [List.take_zero, List.take_zero]
    exact .nil
  | n + 1, _, _, .nil => .nil
  | n + 1, _, _, .cons a b => .cons a (dts_take n b)
theorem dts_drop {K : PySem.W.Frag} {H : Hp} : ∀ (n : Nat) {xs : List V} {ds : List PyData}, Dts K H xs ds → Dts K H (xs.drop n) (ds.drop n)
  | 0, _, _, h => h
  | n + 1, _, _, .nil => .nil
  | n + 1, _, _, .cons a b => dts_drop n b
/-- turns that are none -/
noncomputable def oddT : List PyData := [.tuple [.int 1, .int 0], .tuple [.int 0, .int 0], .tuple [.int (-1), .int 1], .tuple [.int 0, .int 40], .tuple [.int 0, .bool true], .tuple [.bool false, .int 1], .list [.int 0, .int 1], .tuple [.int 0], .tuple [.int 0, .int 1, .int 1], .none, .tuple [.int 0, .none], .tuple [.str "0", .int 1], .tuple [.int 1, .int 1], .tuple [.int 39, .int 40]]
noncomputable def bentA (ts : List (Nat × Nat)) : List PyData := [.none, .tuple [], .tuple (ts.map turnP), .dict [], .int 5, .str "turn", .list [progP ts], .list [.none], .list [.list []]]
noncomputable def bentB (ts : List (Nat × Nat)) (u : Nat) (o : PyData) : PyData := .list ((ts.map turnP).take u ++ [o] ++ (ts.map turnP).drop u)
noncomputable def bentD (ts : List (Nat × Nat)) (u : Nat) : List PyData := bentA ts ++ oddT.map (bentB ts u)
noncomputable def spBentP (K : PySem.W.Frag) : Sp := fun vs H Q _ => ∃ (g p : Addr) (xs : List V) (ts : List (Nat × Nat)) (n : Nat), vs = [.ref g, .ref p] ∧ Gen H g (n + 5) ∧ p ≠ g ∧ H p = some (.lst xs) ∧ Dts K (GL.hid H g) xs (ts.map turnP) ∧ ts.length ≤ 10 ∧
  ∀ (r : Addr) (ys : List V) (u : Nat) (H' : Hp), But g H H' → Gen H' g n → H' r = some (.lst ys) → Dts K H' ys (bentD ts u) → Q (.ref r) H'
theorem bentB_len (ts : List (Nat × Nat)) (u : Nat) (o : PyData) : ((ts.map turnP).take u ++ [o] ++ (ts.map turnP).drop u).length = ts.length + 1 := by
  rw [List.length_append, List.length_append, List.length_take, List.length_drop, List.length_map, List.length_singleton]
  omega
theorem bad_turn {ts : List (Nat × Nat)} {u : Nat} {o : PyData} (h : cplD 40 o = false) : progD (bentB ts u o) = false := by
  show ((ts.map turnP).take u ++ [o] ++ (ts.map turnP).drop u).all (cplD 40) = false
  rw [List.all_eq_false]
  exact ⟨o, by simp, by rw [h]; decide⟩
theorem turn_nice {t : Nat × Nat} (h : t.1 < t.2 ∧ t.2 < 40) : Nice 1 (turnP t) := Nice.tuple (by show 2 ≤ 50; decide) fun e he => by
  simp only [List.mem_cons, List.not_mem_nil, or_false] at he
  rcases he with rfl | rfl
  · refine Nice.leaf ?_
    show ((t.1 : Nat) : Int).natAbs < 2 ^ 100
    omega
  · refine Nice.leaf ?_
    show ((t.2 : Nat) : Int).natAbs < 2 ^ 100
    omega
theorem turns_nice {ts : List (Nat × Nat)} (h : Turns 40 ts) : ∀ d ∈ ts.map turnP, Nice 1 d := fun d hd => by
  obtain ⟨t, ht, rfl⟩ := List.mem_map.mp hd
  exact turn_nice (h t ht)
theorem prog_nice {ts : List (Nat × Nat)} (h : Turns 40 ts) (l : ts.length ≤ 50) : Nice 2 (progP ts) := Nice.list (by rw [List.length_map]; exact l) (turns_nice h)
theorem tex_turns (ts : List (Nat × Nat)) : texA (ts.map turnP) = true := texA_of fun d hd => by
  obtain ⟨t, _, rfl⟩ := List.mem_map.mp hd
  rfl
theorem prog_sm {ts : List (Nat × Nat)} (h : Turns 40 ts) (l : ts.length ≤ 50) : Sm (progP ts) := sm_of (prog_nice h l) (tex_turns ts)
theorem bent_ok {ts : List (Nat × Nat)} (h : Turns 40 ts) (l : ts.length ≤ 10) (u : Nat) : ∀ d ∈ bentD ts u, progD d = false ∧ Sm d := by
  intro d hd
  rcases List.mem_append.mp hd with hd | hd
  · simp only [bentA, List.mem_cons, List.not_mem_nil, or_false] at hd
    rcases hd with rfl | rfl | rfl | rfl | rfl | rfl | rfl | rfl | rfl
    · exact ⟨rfl, sm_of (nice_of (by decide +kernel)) (by decide +kernel)⟩
    · exact ⟨rfl, sm_of (nice_of (by decide +kernel)) (by decide +kernel)⟩
    · exact ⟨rfl, sm_of (Nice.tuple (by rw [List.length_map]; omega) (turns_nice h)) (tex_turns ts)⟩
    · exact ⟨rfl, sm_of (nice_of (by decide +kernel)) (by decide +kernel)⟩
    · exact ⟨rfl, sm_of (nice_of (by decide +kernel)) (by decide +kernel)⟩
    · exact ⟨rfl, sm_of (nice_of (by decide +kernel)) (by decide +kernel)⟩
    · refine ⟨by show (([progP ts] : List PyData).all (cplD 40)) = false; rfl, ?_, fun ds e => by cases e; exact (by decide : 1 ≤ 1000), ?_⟩
      · have f2 : Fit 280253 3 (progP ts) := by
          have := (prog_nice h (by omega)).shown
          rw [bound_two] at this
          exact this
        exact (Fit.list (n := 1) (ds := [progP ts]) (fun e he => by
          rw [List.mem_singleton] at he
          rw [he]
          exact f2) (Nat.le_refl 1)).more (by decide) (by decide)
      · show (texA (ts.map turnP) && true) = true
        rw [tex_turns]
        rfl
    · exact ⟨by decide +kernel, sm_of (nice_of (by decide +kernel)) (by decide +kernel)⟩
    · exact ⟨by decide +kernel, sm_of (nice_of (by decide +kernel)) (by decide +kernel)⟩
  · obtain ⟨o, ho, rfl⟩ := List.mem_map.mp hd
    have ok : ∀ o ∈ oddT, (cplD 40 o = false ∧ niceB 1 o = true) ∧ texD o = true := by
      have : oddT.all (fun o => (!cplD 40 o && niceB 1 o) && texD o) = true := by decide +kernel
      intro o ho
      have z := List.all_eq_true.mp this o ho
      simpa using z
    obtain ⟨⟨c, nb⟩, tx⟩ := ok o ho
    refine ⟨bad_turn c, sm_of (Nice.list (by rw [bentB_len]; omega) fun e he => ?_) (texA_of fun e he => ?_)⟩
    · rcases List.mem_append.mp he with he | he
      · rcases List.mem_append.mp he with he | he
        · exact turns_nice h e (List.mem_of_mem_take he)
        · rw [List.mem_singleton] at he
          rw [he]
          exact nice_of nb
      · exact turns_nice h e (List.mem_of_mem_drop he)
    · rcases List.mem_append.mp he with he | he
      · rcases List.mem_append.mp he with he | he
        · obtain ⟨t, _, rfl⟩ := List.mem_map.mp (List.mem_of_mem_take he)
          rfl
        · rw [List.mem_singleton] at he
          rw [he]
          exact tx
      · obtain ⟨t, _, rfl⟩ := List.mem_map.mp (List.mem_of_mem_drop he)
        rfl
end GL
namespace GL
open PySem PySem.Spec PyProof.Rows
open L2 hiding spCell
theorem newH_hid {H1 H2 : Hp} {D : Addr} {o : HO} (h : H1 D = some o) : Same (newH H1 H2) (GL.hid H2 D) := fun b u e => hid_in (newH_le _ _ e) fun z => by
  rw [z, newH_old h] at e
  cases e
end GL

namespace K56
open PySem PySem.Spec PyProof.Rows
open L2 hiding spCell rLen
open GL
section
variable {P : Program} {w : World} {K : PySem.W.Frag} {mg : Str → Option Value} {base : Heap}
variable {er : Str → Addr}
noncomputable abbrev sBentP : Stmt := topS 116
noncomputable abbrev nBentP : List Str := ["_law_generator_here", "_law_program_here", "_law_at", "_law_found", "_law_turn"]
theorem scBentP : FnScope nBentP ["_law_generator_here", "_law_program_here"] (defScope sBentP) := ⟨rfl, rfl, rfl, by decide +kernel, rfl, by decide +kernel, by decide +kernel⟩
theorem ok_bentP {f : Addr} {fd : FuncData} (F : Fun K "_law_bent" "_law_bent" sBentP f fd) (T : Bi mg) (ULrandom : Use P w K mg base "_law_random" ["_law_generator_here", "_law_limit"] spRandom 2) : FnOk P w K mg base CX0 4 f fd ["_law_generator_here", "_law_program_here"] (spBentP K) := by
  refine F.ok scBentP (fun vs H Q E h => ?_) (fun cdv A outer s H vs Q E hr h => ?_)
  · obtain ⟨g, p, xs, ts, n, rfl, _⟩ := h
    rfl
  · obtain ⟨g, p, xs, ts, n, rfl, G, pg, hp, dx, l10, q⟩ := h
    refine ⟨_, (pss_cons (ps_set (i := 2) scBentP.nd rfl (Or.inl rfl) (pe_use ULrandom (hr.mono (by decide)) (by rfl) (pa_cons (pv 0) (pa_cons (pe_op op_add (pe_callB call_len_seq (by rfl) T.len PySem.boot_len (pa_cons (pv 1) pa_nil)) pe_int) pa_nil))))
      (pss_cons (ps_set (i := 3) scBentP.nd rfl (Or.inl rfl) (pe_lst (pa_cons pe_non (pa_cons (pe_tup pa_nil) (pa_cons (pe_callTy call_tupL (by rfl) T.tuple (by decide +kernel) (pa_cons (pv 1) pa_nil)) (pa_cons pe_dnewK (pa_cons pe_int (pa_cons pe_str (pa_cons (pe_lst (pa_cons (pv 1) pa_nil)) (pa_cons (pd_list (pds_cons (pd_non pe_non) pds_nil) (fun _ => by show 1 ≤ sizeLine; decide)) (pa_cons (pd_list (pds_cons (pd_list pds_nil (fun _ => by show 0 ≤ sizeLine; decide)) pds_nil) (fun _ => by show 1 ≤ sizeLine; decide)) pa_nil)))))))))))
      (pss_cons (ps_for PassesOwn.never rfl (pi_list (pd_list (pds_cons (pd_tup (pds_cons (pd_int pe_int) (pds_cons (pd_int pe_int) pds_nil)) (fun _ => by show 2 ≤ sizeLine; decide)) (pds_cons (pd_tup (pds_cons (pd_int pe_int) (pds_cons (pd_int pe_int) pds_nil)) (fun _ => by show 2 ≤ sizeLine; decide)) (pds_cons (pd_tup (pds_cons (pd_neg (pe_un un_neg pe_int)) (pds_cons (pd_int pe_int) pds_nil)) (fun _ => by show 2 ≤ sizeLine; decide)) (pds_cons (pd_tup (pds_cons (pd_int pe_int) (pds_cons (pd_int pe_int) pds_nil)) (fun _ => by show 2 ≤ sizeLine; decide)) (pds_cons (pd_tup (pds_cons (pd_int pe_int) (pds_cons (pd_bl pe_bl) pds_nil)) (fun _ => by show 2 ≤ sizeLine; decide)) (pds_cons (pd_tup (pds_cons (pd_bl pe_bl) (pds_cons (pd_int pe_int) pds_nil)) (fun _ => by show 2 ≤ sizeLine; decide)) (pds_cons (pd_list (pds_cons (pd_int pe_int) (pds_cons (pd_int pe_int) pds_nil)) (fun _ => by show 2 ≤ sizeLine; decide)) (pds_cons (pd_tup (pds_cons (pd_int pe_int) pds_nil) (fun _ => by show 1 ≤ sizeLine; decide)) (pds_cons (pd_tup (pds_cons (pd_int pe_int) (pds_cons (pd_int pe_int) (pds_cons (pd_int pe_int) pds_nil))) (fun _ => by show 3 ≤ sizeLine; decide)) (pds_cons (pd_non pe_non) (pds_cons (pd_tup (pds_cons (pd_int pe_int) (pds_cons (pd_non pe_non) pds_nil)) (fun _ => by show 2 ≤ sizeLine; decide)) (pds_cons (pd_tup (pds_cons (pd_str pe_str) (pds_cons (pd_int pe_int) pds_nil)) (fun _ => by show 2 ≤ sizeLine; decide)) (pds_cons (pd_tup (pds_cons (pd_int pe_int) (pds_cons (pd_int pe_int) pds_nil)) (fun _ => by show 2 ≤ sizeLine; decide)) (pds_cons (pd_tup (pds_cons (pd_int pe_int) (pds_cons (pd_int pe_int) pds_nil)) (fun _ => by show 2 ≤ sizeLine; decide)) pds_nil)))))))))))))) (fun _ => by show 14 ≤ sizeLine; decide))) (pg_name (i := 4) scBentP.nd rfl (Or.inl rfl))
        (pss_one (ps_expr (pe_bm PySem.F.plainAttrs_list PySem.F.slot_list_append PySem.F.type_list_append mt_append (pv 3) (pa_cons (pe_op op_cat (pe_op op_cat (pe_slice sl_list (pv 1) po_none (po_some (pv 2))) (pe_lst (pa_cons (pv 4) pa_nil))) (pe_slice sl_list (pv 1) (po_some (pv 2)) po_none)) pa_nil)))))
      (pss_one (ps_ret (pv 3)))))), ?_⟩
    have lx : xs.length = ts.length := by rw [dx.length, List.length_map]
    refine ⟨_, rfl, _, rfl, p, _, rfl, .inl (SqL.of hp), _, _, rfl, rfl, g, ((xs.length : Nat) : Int) + 1, n, rfl, by omega, by omega, G, fun r H1 r0 r1 G1 b1 => ?_⟩
    obtain ⟨u, rfl⟩ : ∃ u : Nat, r = (u : Int) := ⟨r.toNat, by omega⟩
    have hp1 := b1 _ _ hp pg
    have dx1 : Dts K H1 xs (ts.map turnP) := Dts.same (fun b o e => b1 b o (hid_same b o e) (hid_none e)) _ _ dx
    refine ⟨Nat.zero_le _, fun e0 he0 => ?_⟩
    obtain ⟨H2, e2, s2, f2⟩ := gen H1 he0 (.tup [])
    rw [e2]
    clear e2
    refine ⟨_, rfl, p, xs, rfl, SqL.of (s2 _ _ hp1), fun t1 ht1 => ?_⟩
    obtain ⟨H3, e3, s3, f3⟩ := gen H2 ht1 (.tup xs)
    rw [e3]
    clear e3
    intro d1 hd1
    obtain ⟨H4, e4, s4, f4⟩ := gen H3 hd1 (.dK [])
    rw [e4]
    clear e4
    have s14 := s2.trans (s3.trans s4)
    refine ⟨_, rfl, one_le, fun l1 hl1 => ?_⟩
    obtain ⟨H5, e5, s5, f5⟩ := gen H4 hl1 (.lst [.ref p])
    rw [e5]
    clear e5
    refine ⟨by repeat' (first | exact trivial | exact ⟨_, rfl⟩ | refine ⟨?_, ?_⟩), fun v6 H6 s6 d6 => ?_⟩
    refine ⟨by repeat' (first | exact trivial | exact ⟨_, rfl⟩ | refine ⟨?_, ?_⟩), fun v7 H7 s7 d7 => ?_⟩
    have s57 := s6.trans s7
    have s17 := s14.trans (s5.trans s57)
    have items : Dts K H7 [.non, .ref e0, .ref t1, .ref d1, .int 5, .str "turn", .ref l1, v6, v7] (bentA ts) :=
      .cons .non (.cons (.tup ((s3.trans (s4.trans (s5.trans s57))) _ _ f2) .nil) (.cons (.tup ((s4.trans (s5.trans s57)) _ _ f3) (Dts.same s17 _ _ dx1)) (.cons (.dct ((s5.trans s57) _ _ f4)) (.cons (.int 5) (.cons (.str "turn")
        (.cons (.lst (s57 _ _ f5) (.cons (.lst (s17 _ _ hp1) (Dts.same s17 _ _ dx1)) .nil)) (.cons (Dt.same (fun b o e => s7 _ _ (newH_le b o e)) _ _ d6) (.cons (Dt.same newH_le _ _ d7) .nil))))))))
    refine ⟨(by show 9 ≤ sizeLine; decide), fun D hD => ?_⟩
    obtain ⟨H8, e8, s8, f8⟩ := gen H7 hD (.lst [.non, .ref e0, .ref t1, .ref d1, .int 5, .str "turn", .ref l1, v6, v7])
    rw [e8]
    clear e8
    refine ⟨by repeat' (first | exact trivial | exact ⟨_, rfl⟩ | refine ⟨?_, ?_⟩), fun v9 H9 s9 d9 => ?_⟩
    obtain ⟨a, zs, rfl, ha, hz⟩ := dt_list d9
    have aD : a ≠ D := fun z => by
      rw [z, newH_old f8] at ha
      cases ha
    replace ha := newH_le _ _ ha
    replace hz : Dts K (GL.hid H9 D) zs oddT := Dts.same (newH_hid f8) _ _ hz
    have s79 : Same H7 (GL.hid H9 D) := fun b o e => hid_in (s9 _ _ (s8 _ _ e)) (ne_of_none e hD)
    have f9 := s9 _ _ f8
    have hp9 : GL.hid H9 D p = some (.lst xs) := s79 _ _ (s17 _ _ hp1)
    have dx9 : Dts K (GL.hid H9 D) xs (ts.map turnP) := Dts.same (s17.trans s79) _ _ dx1
    refine ⟨a, rfl, ⟨_, SqL.of ha⟩, ?_⟩
    refine for_list (K := K) (a := a) (xs := zs) (fun i σ H' => ∃ (y : Option V) (ys : List V), σ = [some (.ref g), some (.ref p), some (.int (u : Nat)), some (.ref D), y] ∧ Same (GL.hid H9 D) H' ∧ H' D = some (.lst ys) ∧ Dts K (GL.hid H' D) ys (bentA ts ++ (oddT.take i).map (bentB ts u)))
      ⟨_, _, rfl, hid_same, f9, by
        rw [List.take_zero, List.map_nil, List.append_nil]
        exact Dts.same s79 _ _ items⟩ (fun i σ H' _ z => by
        obtain ⟨_, _, _, s', _⟩ := z
        exact SqL.of (s' _ _ (hid_in ha aD))) ?_ ?_
    · rintro i v σ H10 hi ⟨y, ys, rfl, s10, h10, dy⟩
      obtain ⟨o, eo, dto⟩ := hz.get hi
      have il : i < 14 := (List.getElem?_eq_some_iff.mp eo).1
      have ly := dy.length
      have ly2 : ys.length ≤ 30 := by
        rw [ly, List.length_append, List.length_map, List.length_take]
        show 9 + _ ≤ 30
        omega
      have et : oddT.take (i + 1) = oddT.take i ++ [o] := by
        rw [List.take_add_one, eo]
        rfl
      have sD : Same (GL.hid H9 D) (GL.hid H10 D) := fun b o e => hid_in (s10 _ _ e) (hid_none e)
      have hp10 : GL.hid H10 D p = some (.lst xs) := sD _ _ hp9
      refine gName_by ?_
      refine ⟨_, rfl, .inl ⟨rfl, _, SqL.of h10⟩, _, rfl, _, rfl, _, rfl, p, _, rfl, SqL.of (hid_same _ _ hp10), fun S1 hS1 => ?_⟩
      rw [cut_upto]
      obtain ⟨H11, e11, s11, f11⟩ := gen H10 hS1 (.lst (xs.take u))
      rw [e11]
      clear e11
      refine ⟨_, rfl, one_le, fun L1 hL1 => ?_⟩
      obtain ⟨H12, e12, s12, f12⟩ := gen H11 hL1 (.lst [v])
      rw [e12]
      clear e12
      refine ⟨S1, L1, _, _, rfl, rfl, s12 _ _ f11, f12, (by rw [List.length_take, List.length_singleton, sizeLine_eq]; omega), fun C1 hC1 => ?_⟩
      obtain ⟨H13, e13, s13, f13⟩ := gen H12 hC1 (.lst (xs.take u ++ [v]))
      rw [e13]
      clear e13
      have s1013 := s11.trans (s12.trans s13)
      refine ⟨_, rfl, _, rfl, _, rfl, p, _, rfl, SqL.of (s1013 _ _ (hid_same _ _ hp10)), fun S2 hS2 => ?_⟩
      rw [cut_from]
      obtain ⟨H14, e14, s14', f14⟩ := gen H13 hS2 (.lst (xs.drop u))
      rw [e14]
      clear e14
      refine ⟨C1, S2, _, _, rfl, rfl, s14' _ _ f13, f14, (by rw [List.length_append, List.length_take, List.length_drop, List.length_singleton, sizeLine_eq]; omega), fun C2 hC2 => ?_⟩
      obtain ⟨H15, e15, s15, f15⟩ := gen H14 hC2 (.lst (xs.take u ++ [v] ++ xs.drop u))
      rw [e15]
      clear e15
      have s1015 := s1013.trans (s14'.trans s15)
      have h15 := s1015 _ _ h10
      have CD : C2 ≠ D := fun z => by
        have z2 := (s1013.trans s14') _ _ h10
        rw [← z, hC2] at z2
        cases z2
      have hs : Same (GL.hid H10 D) (GL.hid H15 D) := hid_mono s1015
      refine ⟨D, _, _, rfl, rfl, h15, (by rw [sizeLine_eq]; omega), ?_⟩
      refine ⟨_, ys ++ [.ref C2], rfl, fun b o' e => ?_, by rw [upd_same], ?_⟩
      · rw [upd_ne (hid_none e)]
        exact s1015 _ _ (s10 _ _ e)
      · rw [hid_upd, et, List.map_append, ← List.append_assoc]
        have dxs := Dts.same (sD.trans hs) _ _ dx9
        exact Dts.app (Dts.same hs _ _ dy) (.cons (.lst (hid_in f15 CD) (Dts.app (Dts.app (dts_take u dxs) (.cons (Dt.same (sD.trans hs) _ _ dto) .nil)) (dts_drop u dxs))) .nil)
    · rintro σ H10 ⟨y, ys, rfl, s10, h10, dy⟩
      have lz : zs.length = 14 := hz.length
      rw [lz] at dy
      refine ⟨_, rfl, q D ys u H10 ?_ ?_ h10 (Dts.same hid_same _ _ dy)⟩
      · exact b1.trans (But.of fun b o e => s10 _ _ (s79 _ _ (s17 _ _ e)))
      · exact G1.same fun b o e => s10 _ _ (s79 _ _ (s17 _ _ e))
end
end K56

/-! Calls of what may raise, where it does not; by the names of the arguments. -/
namespace GL
open PySem PySem.Spec PyProof.Rows
open L2 hiding spCell
theorem passX0 {X : Cx} {P : Program} {w : World} : Passes (L2.CX P w) X E0 := fun _ _ _ _ _ _ _ h => by
  obtain ⟨a, B, H', cls, d, _, _, _, _, _, _, _, h⟩ := h
  exact h.elim
section
variable {X : Cx} {ps : List Str} {sp : Sp} {x : Str} {e : Expr} {es : List Expr} {t : TA} {p pos : Pos} {k : Nat}
theorem pe_use0X (U : UseX X.prog X.w X.K X.mg X.base x ps sp k) (hr : Room k X.A) (hg : Gl X x) (ha : PA X (e :: es) t)
    (hdb : (x == ("__debug__" : Str)) = false := by decide) (he : starEach (e :: es) X.env = (false, eval e X.env) :: starEach es X.env := by rfl) (hpl : (backTo pos (starEach es X.env)).any (·.1) = false := by rfl) :
    PE X (.Call (.Name x p) (e :: es) [] pos) (tCall sp [] E0 t) := by
  obtain ⟨f, fd, F, hm, hk, hb⟩ := U.ex
  exact pe_call F hr hg hm hk hb .nil passX0 ha hdb he hpl
end
noncomputable def gQ0 : List Value → List Value → List Value
  | [], [c] => [c]
  | _, _ => []
noncomputable def gQV0 : List V → List V → List V
  | [], [c] => [c]
  | _, _ => []
theorem gQ0_rel {vs : List V} {us : List Value} {zs : List V} {ws : List Value} (a : Vals vs us) (b : Vals zs ws) : Vals (gQV0 vs zs) (gQ0 us ws) := by
  cases a with
  | cons _ _ => exact .nil
  | nil =>
    cases b with
    | nil => exact .nil
    | cons r b =>
      cases b with
      | nil => exact .cons r .nil
      | cons _ _ => exact .nil
end GL

namespace GL
open PySem PySem.Spec PyProof.Rows
open L2 hiding spCell
/-- kinds, a company, a program of its people -/
structure RightIn (K : PySem.W.Frag) (H : Hp) (k : Int) (c p : Addr) (rs : List Addr) (kss : List (List Int)) (xs : List V) (ts : List (Nat × Nat)) : Prop where
  k2 : 2 ≤ k
  k4 : k ≤ 4
  t : Tab H c rs kss
  f : Fine k kss
  m2 : 2 ≤ kss.length
  m5 : kss.length ≤ 5
  hp : H p = some (.lst xs)
  dx : Dts K H xs (ts.map turnP)
  tn : Turns kss.length ts
  l6 : ts.length ≤ 6
section
variable {K : PySem.W.Frag} {H H' : Hp} {k : Int} {c p : Addr} {rs : List Addr} {kss : List (List Int)} {xs : List V} {ts : List (Nat × Nat)}
theorem RightIn.same (r : RightIn K H k c p rs kss xs ts) (s : Same H H') : RightIn K H' k c p rs kss xs ts := ⟨r.k2, r.k4, r.t.same s, r.f, r.m2, r.m5, s _ _ r.hp, Dts.same s _ _ r.dx, r.tn, r.l6⟩
theorem RightIn.tn40 (r : RightIn K H k c p rs kss xs ts) : Turns 40 ts := fun t ht => ⟨(r.tn t ht).1, Nat.lt_of_lt_of_le (r.tn t ht).2 (Nat.le_trans r.m5 (by decide))⟩
theorem RightIn.kd (r : RightIn K H k c p rs kss xs ts) : kindsD (.int k) = true := kinds_d r.k2 (by have := r.k4; omega)
theorem RightIn.comp (r : RightIn K H k c p rs kss xs ts) : compK (.int k) (tabP kss) = true := r.f.comp (by have := r.m2; omega) (by have := r.m5; omega)
theorem sm_int {k : Int} (a : 0 ≤ k) (b : k ≤ 1000) : Sm (.int k) := sm_of (nice_int a b) rfl
theorem sm_non : Sm .none := sm_of nice_non rfl
theorem RightIn.smk (r : RightIn K H k c p rs kss xs ts) : Sm (.int k) := sm_int (by have := r.k2; omega) (by have := r.k4; omega)
theorem RightIn.smc (r : RightIn K H k c p rs kss xs ts) : Sm (tabP kss) := sm_of (nice_tab2 r.f (by have := r.k4; omega) (by have := r.m5; omega)) (low_tab kss)
theorem RightIn.smp (r : RightIn K H k c p rs kss xs ts) : Sm (progP ts) := prog_sm r.tn40 (by have := r.l6; omega)
theorem prog_ok {ts : List (Nat × Nat)} (h : Turns 40 ts) : progD (progP ts) = true := by
  show (ts.map turnP).all (cplD 40) = true
  rw [List.all_eq_true]
  intro d hd
  obtain ⟨t, ht, rfl⟩ := List.mem_map.mp hd
  obtain ⟨a, b⟩ := h t ht
  have e : cplD 40 (turnP t) = true := by
    simp [cplD, turnP, coupleOk, cTail, below]
    omega
  exact e
theorem RightIn.dtp (r : RightIn K H k c p rs kss xs ts) : Dt K H (.ref p) (progP ts) := .lst r.hp r.dx
end
noncomputable def spRightP (K : PySem.W.Frag) (er : Str → Addr) : Sp := fun vs H Q _ => ∃ (g : Addr) (k : Int) (c p : Addr) (rs : List Addr) (kss : List (List Int)) (xs : List V) (ts : List (Nat × Nat)) (n : Nat), vs = [.ref g, .int k, .ref c, .ref p] ∧ Gen H g (n + 5) ∧ RightIn K (GL.hid H g) k c p rs kss xs ts ∧ ∀ H', But g H H' → Gen H' g n → Q (.bl true) H'
noncomputable def spRightK (K : PySem.W.Frag) (er : Str → Addr) : Sp := fun vs H Q _ => ∃ (k : Int) (c p : Addr) (rs : List Addr) (kss : List (List Int)) (xs : List V) (ts : List (Nat × Nat)), vs = [.ref c, .ref p] ∧ RightIn K H k c p rs kss xs ts ∧ ∀ H', Same H H' → Q (.bl true) H'
noncomputable def spRightL (K : PySem.W.Frag) (er : Str → Addr) : Sp := fun vs H Q _ => ∃ k : Int, vs = [.int k] ∧ 2 ≤ k ∧ k ≤ 4 ∧ ∀ H', Same H H' → Q (.bl true) H'
noncomputable def spRightN (K : PySem.W.Frag) (er : Str → Addr) : Sp := fun vs H Q _ => ∃ (k : Int) (c p : Addr) (rs : List Addr) (kss : List (List Int)) (xs : List V) (ts : List (Nat × Nat)), vs = [.int k, .ref c, .ref p] ∧ RightIn K H k c p rs kss xs ts ∧ ∀ H', Same H H' → Q (.bl true) H'
/-! ### one check, then the others -/
theorem fb0 {b : Bool} {n : Str} {v : V} {r : List (Bool × Str × V)} (h : b = false) : firstBad ((b, n, v) :: r) = some (n, v) := by
  subst h
  rfl
theorem fb1 {b : Bool} {n : Str} {v : V} {r : List (Bool × Str × V)} {o : Option (Str × V)} (h : b = true) (e : firstBad r = o) : firstBad ((b, n, v) :: r) = o := by
  subst h
  exact e
section
variable {K : PySem.W.Frag} {er : Str → Addr} {H : Hp} {c : Str} {dv : PyData}
/-- the arguments of a door, one by one -/
theorem args_by {d : Nat} {vs : List V} {ds : List PyData} {v : V} (d14 : d ≤ 14) (l : arity d ≤ vs.length) (h : Dts K H vs ds) (l4 : vs.length ≤ 4) (sm : ∀ e ∈ ds, Sm e) (dt : Dt K H v dv) (r : refD (vs.take (arity d)) (ds.take (arity d)) d = some (c, v)) : ArgsP K er d H vs dv c :=
  ⟨ds, v, h, l4, sm, dt, refP d14 l h sm r⟩
theorem sms1 {a : PyData} (ha : Sm a) : ∀ e ∈ [a], Sm e := fun e he => by
  rw [List.mem_singleton] at he
  rw [he]
  exact ha
theorem sms2 {a b : PyData} (ha : Sm a) (hb : Sm b) : ∀ e ∈ [a, b], Sm e := fun e he => by
  rcases List.mem_cons.mp he with rfl | he
  · exact ha
  · exact sms1 hb e he
theorem sms3 {a b c : PyData} (ha : Sm a) (hb : Sm b) (hc : Sm c) : ∀ e ∈ [a, b, c], Sm e := fun e he => by
  rcases List.mem_cons.mp he with rfl | he
  · exact ha
  · exact sms2 hb hc e he
theorem sms4 {a b c d : PyData} (ha : Sm a) (hb : Sm b) (hc : Sm c) (hd : Sm d) : ∀ e ∈ [a, b, c, d], Sm e := fun e he => by
  rcases List.mem_cons.mp he with rfl | he
  · exact ha
  · exact sms3 hb hc hd e he
end
end GL
namespace GL
open PySem PySem.Spec PyProof.Rows
open L2 hiding spCell
theorem lit_nums {K : PySem.W.Frag} {H : Hp} {σ : L2.St} {ok : L2.St → Prop} {f : L2.St → PyData} {js : List Nat} {Q : VK} (hok : ok σ) (hf : f σ = .list ((nums js).map PyData.int)) (h : ∀ l H', Same H H' → H' l = some (.lst (natV js)) → Q (.ref l) H') : tD K ok f σ H Q := by
  refine ⟨hok, fun v H' s d => ?_⟩
  rw [hf] at d
  obtain ⟨a, ys, rfl, ha, hy⟩ := dt_list d
  refine h a H' s ?_
  rw [newH_le _ _ ha, vals_of hy, natV_nums]
theorem lst_args {K : PySem.W.Frag} {er : Str → Addr} {H : Hp} {d : Nat} {vs : List V} {dv : PyData} {c : Str} {Q : VK} (A : ArgsP K er d H vs dv c) (h : ∀ a vs H', Same H H' → H' a = some (.lst vs) → ArgsP K er d H' vs dv c → Q (.ref a) H') : vs.length ≤ sizeLine ∧ ∀ p, H p = none → Q (.ref p) (upd H p (.lst vs)) :=
  lst_by (by obtain ⟨_, _, _, l, _⟩ := A; omega) fun a H' s f => h a vs H' s f (A.later s)
end GL
namespace GL
open PySem PySem.Spec PyProof.Rows
open L2 hiding spCell
theorem if_of {c : TT} {t u : TS} {D : Ends} {σ : L2.St} {H : Hp} (h : c σ H fun b H1 => if b = true then t D σ H1 else u D σ H1) : tIfS c t u D σ H := h
theorem or_of {t u : TT} {σ : L2.St} {H : Hp} {Q : Bool → Hp → Prop} (h : t σ H fun c H1 => if c = true then Q true H1 else u σ H1 Q) : tOr t u σ H Q := h
theorem test_of {t : TE} {σ : L2.St} {H : Hp} {Q : Bool → Hp → Prop} (h : t σ H fun x H' => ∃ k, x = .bl k ∧ Q k H') : tTest t σ H Q := h
end GL
namespace GL
open PySem PySem.Spec PyProof.Rows
open L2 hiding spCell
section
variable {K : PySem.W.Frag} {er : Str → Addr} {H : Hp}
/-- kinds that are none, at every door -/
theorem kinds_door {j : Nat} {x y z u : V} {d dy dz du : PyData} (hj : j < 14 ∨ j = 15) (dx : Dt K H x d) (d1 : Dt K H y dy) (d2 : Dt K H z dz) (d3 : Dt K H u du) (s0 : Sm d) (s1 : Sm dy) (s2 : Sm dz) (s3 : Sm du) (kf : kindsD d = false) : ArgsP K er j H [x, y, z, u] d "InvalidNumber" := by
  rcases hj with hj | rfl
  · have hd : refD ([x, y, z, u].take (arity j)) ([d, dy, dz, du].take (arity j)) j = some (("InvalidNumber" : Str), x) := by
      obtain rfl | rfl | rfl | rfl | rfl | rfl | rfl | rfl | rfl | rfl | rfl | rfl | rfl | rfl : j = 0 ∨ j = 1 ∨ j = 2 ∨ j = 3 ∨ j = 4 ∨ j = 5 ∨ j = 6 ∨ j = 7 ∨ j = 8 ∨ j = 9 ∨ j = 10 ∨ j = 11 ∨ j = 12 ∨ j = 13 := by omega
      all_goals exact fb0 kf
    refine args_by (by omega) ?_ (.cons dx (.cons d1 (.cons d2 (.cons d3 .nil)))) (by simp) (sms4 s0 s1 s2 s3) dx hd
    obtain rfl | rfl | rfl | rfl | rfl | rfl | rfl | rfl | rfl | rfl | rfl | rfl | rfl | rfl : j = 0 ∨ j = 1 ∨ j = 2 ∨ j = 3 ∨ j = 4 ∨ j = 5 ∨ j = 6 ∨ j = 7 ∨ j = 8 ∨ j = 9 ∨ j = 10 ∨ j = 11 ∨ j = 12 ∨ j = 13 := by omega
    all_goals simp [arity]
  · exact ⟨[d, dy, dz, du], x, .cons dx (.cons d1 (.cons d2 (.cons d3 .nil))), by simp, sms4 s0 s1 s2 s3, dx, fun H' E s rf => .inr ⟨rfl, by simp, x, y, d, dy, rfl, dx.same s, d1.same s, .inl ⟨kf, rf⟩⟩⟩
/-- wishes that are no family -/
theorem made_door {k : Int} {y : V} {d : PyData} (k2 : 2 ≤ k) (k4 : k ≤ 4) (dy : Dt K H y d) (s1 : Sm d) (fb : famBad k d) : ArgsP K er 15 H [.int k, y] d "InvalidWishes" :=
  ⟨[.int k, d], y, .cons (.int k) (.cons dy .nil), by simp, sms2 (sm_int (by omega) (by omega)) s1, dy, fun H' E s rf => .inr ⟨rfl, by simp, .int k, y, .int k, d, rfl, .int k, dy.same s, .inr ⟨k, rfl, k2, k4, fb, rf⟩⟩⟩
end
end GL
namespace GL
open PySem PySem.Spec PyProof.Rows
open L2 hiding spCell
theorem rows1_w {K : PySem.W.Frag} {k : Nat} (σ : L2.St) (H : Hp) (Q : VK) (q : tD K (fun σ => k < σ.length) (fun _ => rows0 41) σ H Q) :
    tOp rCat (tLst (tCons (tLst tNil) tNil)) (tLc (iRng2 (tCons (tC (.int 1)) (tCons (tC (.int 41)) tNil))) (gName k) tYes (tOp rRep (tLst (tCons (tC (.int 0)) tNil)) (tVar k)) [k]) σ H Q := by
  refine ⟨Nat.zero_le _, fun e he => ?_⟩
  obtain ⟨H1, e1, s1, f1⟩ := gen H he (.lst [])
  rw [e1]
  clear e1
  refine ⟨one_le, fun l hl => ?_⟩
  obtain ⟨H2, e2, s2, f2⟩ := gen H1 hl (.lst [.ref e])
  rw [e2]
  clear e2
  refine ⟨_, _, rfl, by decide, fun D hD => ?_⟩
  refine lc_objs (walk_from (a := 1) (n := 40)) (fun i => .lst (List.replicate (1 + i) (.int 0))) hD (by rw [sizeLine_eq]; decide) (fun _ _ => trivial) ?_ ?_
  · rintro j x H3' H3 N hj s3 ⟨rfl, rfl⟩ hN
    have lk : k < (wipe σ [k]).length := by
      simpa [wipe] using q.1
    refine gName_by ⟨?_, one_le, fun l hl => ?_⟩
    · simp [wipe]
    · obtain ⟨H4, e4, s4, f4⟩ := gen H3 hl (.lst [.int 0])
      rw [e4]
      refine ⟨_, by rw [List.getElem?_set_self lk], l, _, _, rfl, rfl, f4, by omega, by omega, ?_, fun p hp => ?_⟩
      · rw [sizeLine_eq, List.length_singleton, Int.toNat_natCast]
        omega
      · have e : (List.replicate ((1 + j : Nat) : Int).toNat [V.int 0]).flatten = List.replicate (1 + j) (V.int 0) := by
          rw [Int.toNat_natCast]
          exact rep_self _ (V.int 0)
        rw [e]
        obtain ⟨H5, e5, s5, f5⟩ := gen H4 hp (.lst (List.replicate (1 + j) (V.int 0)))
        rw [e5]
        exact hN H5 p (s4.trans s5) (s4.free hp) f5
  · intro H3 rs s3 o
    have l40 : rs.length = 40 := o.len
    refine ⟨l, D, _, _, rfl, rfl, s3 _ _ f2, o.top, by rw [List.length_map, l40, sizeLine_eq]; show 1 + 40 ≤ 16777216; decide, fun p hp => ?_⟩
    obtain ⟨H4, e4, s4, f4⟩ := gen H3 hp (.lst ([.ref e] ++ rs.map V.ref))
    rw [e4]
    have s04 := s1.trans (s2.trans (s3.trans s4))
    refine q.2 (.ref p) H4 s04 (.lst (by rw [newH_of ((s1.trans (s2.trans s3)).free hp)]; exact f4) ?_)
    have ee : (List.range 41).map (fun i => PyData.list (List.replicate i (.int 0))) = [.list []] ++ (List.range 40).map fun i => PyData.list (List.replicate (1 + i) (.int 0)) := by
      rw [List.range_succ_eq_map, List.map_cons, List.map_map]
      refine congrArg (List.cons _) (List.map_congr_left fun i _ => ?_)
      show PyData.list (List.replicate (i + 1) _) = _
      rw [Nat.add_comm]
    rw [ee]
    refine Dts.app (.cons (.lst (by rw [newH_of he]; exact (s2.trans (s3.trans s4)) _ _ f1) .nil) .nil) (dts_get (by rw [List.length_map, l40, List.length_map, List.length_range]) fun i v d a b => ?_)
    rw [List.getElem?_map] at a b
    cases er : rs[i]? with
    | none =>
      rw [er] at a
      cases a
    | some r =>
      rw [er] at a
      cases a
      have il : i < 40 := by
        have := (List.getElem?_eq_some_iff.mp er).1
        omega
      rw [List.getElem?_range il] at b
      cases b
      have rn : H r = none := (s1.trans s2).free (o.new r (List.mem_of_getElem? er))
      exact .lst (by rw [newH_of rn]; exact s4 _ _ (o.row i r er)) (dts_rep _)
theorem rep2_w {K : PySem.W.Frag} {a b c : Int} (σ : L2.St) (H : Hp) (Q : VK) (q : tD K Ok0 (fun _ => .list [.tuple [.int a, .int b, .int c], .tuple [.int a, .int b, .int c]]) σ H Q) :
    tOp rRep (tLst (tCons (tTup (tCons (tC (.int a)) (tCons (tC (.int b)) (tCons (tC (.int c)) tNil)))) tNil)) (tC (.int 2)) σ H Q := by
  refine ⟨(by show 3 ≤ sizeLine; decide), fun e he => ?_⟩
  obtain ⟨H1, e1, s1, f1⟩ := gen H he (.tup [.int a, .int b, .int c])
  rw [e1]
  clear e1
  refine ⟨one_le, fun l hl => ?_⟩
  obtain ⟨H2, e2, s2, f2⟩ := gen H1 hl (.lst [.ref e])
  rw [e2]
  clear e2
  refine ⟨l, _, _, rfl, rfl, f2, by decide, by decide, by rw [sizeLine_eq]; show 1 * 2 ≤ 16777216; decide, fun p hp => ?_⟩
  obtain ⟨H3, e3, s3, f3⟩ := gen H2 hp (.lst [.ref e, .ref e])
  have e4 : (List.replicate (2 : Int).toNat [V.ref e]).flatten = [.ref e, .ref e] := rfl
  rw [e4, e3]
  have d : Dt K (newH H H3) (.ref e) (.tuple [.int a, .int b, .int c]) := .tup (by rw [newH_of he]; exact (s2.trans s3) _ _ f1) (.cons (.int a) (.cons (.int b) (.cons (.int c) .nil)))
  exact q.2 (.ref p) H3 (s1.trans (s2.trans s3)) (.lst (by rw [newH_of ((s1.trans s2).free hp)]; exact f3) (.cons d (.cons d .nil)))
end GL
namespace GL
open PySem PySem.Spec PyProof.Rows
open L2 hiding spCell
noncomputable def wrongA (k : Int) : List PyData := [.none, .tuple [], .dict [], .int 5, .list [.tuple [.int 0, .int 2]], .list [.tuple [.int 2, .int 0, .int 1]], .list [.tuple [.int 0, .int 2, .int 0]], .list [.tuple [.int 0, .int 2, .int k]], .list [.tuple [.int 0, .int 1, .int 1]], .list [.tuple [.int 0, .int 2, .bool true]], .list [.list [.int 0, .int 2, .int 1]], .list [.tuple [.int 0, .int 2, .int 1], .tuple [.int 0, .int 5, .int 1]], .list [.tuple [.int 0, .int 2, .int 1], .tuple [.int 0, .int 2, .int 1]]]
noncomputable def wrongB : List PyData := [.list [.tuple [.bool false, .int 2, .int 1]], .list [.tuple [.int 1, .int 2, .int 1]], .list [.tuple [.int 0, .int 5, .int 1], .tuple [.int 5, .int 9, .int 1]], .list [.tuple [.int 0, .int 9, .int 1], .tuple [.int 2, .int 9, .int 1]], .list [.tuple [.none, .int 2, .int 1]], .list [.tuple [.int 0, .int 2, .int 1], .none], .list [.tuple [.list [.int 0], .int 2, .int 1]]]
noncomputable def wrongC : List PyData := [.list [.tuple [.int 0, .int 2, .str "1"]], .list [.none], .list [.tuple [.int 0, .int 2, .int 1], .tuple [.int 5, .int 7, .int 1]], .list [.tuple [.int 5, .int 9, .int 1], .tuple [.int 0, .int 2, .int 1]], .list [.tuple [.int 0, .int 0, .int 1]], .list [.tuple [.int 0, .int 2, .int 1, .int 1]], .list [.tuple [.int 0, .int 2, .none]]]
noncomputable def smB (d : PyData) : Bool := (d.showable && decide (d.shown.length ≤ 1000)) && (decide (d.depth ≤ 8) && (decide ((lotOf d).length ≤ 1000) && texD d))
theorem sm_B {d : PyData} (h : smB d = true) : Sm d := by
  unfold smB at h
  simp only [Bool.and_eq_true, decide_eq_true_eq] at h
  obtain ⟨⟨a, b⟩, c, e, f⟩ := h
  exact ⟨⟨Nat.le_trans b (by decide), a, c⟩, fun ds z => by subst z; exact e, f⟩
theorem wrong_ok {k : Int} (k2 : 2 ≤ k) (k4 : k ≤ 4) : ∀ d ∈ wrongA k ++ wrongB ++ wrongC, stateD k [.int 0, .int 2, .int 5, .int 9] d = false ∧ Sm d := by
  intro d hd
  have key : ((wrongA k ++ wrongB ++ wrongC).all fun d => (!stateD k [.int 0, .int 2, .int 5, .int 9] d) && smB d) = true := by
    obtain rfl | rfl | rfl : k = 2 ∨ k = 3 ∨ k = 4 := by omega
    all_goals decide +kernel
  have z := List.all_eq_true.mp key d hd
  simp only [Bool.and_eq_true, Bool.not_eq_true'] at z
  exact ⟨z.1, sm_B z.2⟩
end GL
namespace GL
open PySem PySem.Spec PyProof.Rows
open L2 hiding spCell
theorem RightIn.run {K : PySem.W.Frag} {H : Hp} {k : Int} {c p : Addr} {rs : List Addr} {kss : List (List Int)} {xs : List V} {ts : List (Nat × Nat)} (r : RightIn K H k c p rs kss xs ts) : runD (lenD (tabP kss)) (progP ts) = true := by
  unfold runD
  rw [prog_ok r.tn40, Bool.true_and]
  show (!(ts.map turnP).any fun t => decide ((((kss.map rowP).length : Nat) : Int) ≤ highD t)) = true
  rw [List.length_map]
  have e : ((ts.map turnP).any fun t => decide (((kss.length : Nat) : Int) ≤ highD t)) = false := by
    rw [List.any_eq_false]
    intro d hd
    obtain ⟨t, ht, rfl⟩ := List.mem_map.mp hd
    have h := (r.tn t ht).2
    have : decide (((kss.length : Nat) : Int) ≤ highD (turnP t)) = false := decide_eq_false (by show ¬ ((kss.length : Nat) : Int) ≤ ((t.2 : Nat) : Int); omega)
    rw [this]
    decide
  rw [e]
  rfl
noncomputable abbrev idK (k : Int) : PyData := rowP (nums (List.range k.toNat))
/-- the places of three people's states, the first two another way -/
noncomputable def lateL (n : Nat) : List Nat := ((List.range n).reverse.take 2) ++ (List.range n).drop 2
noncomputable def famA (k : Int) : List PyData := [.none, .list [], .tuple [], .int 5, .list [idK k, idK k, idK k], .list [idK k, idK k, idK k, idK k], .list [idK k, idK k, idK k, rowP (nums (lateL (3 * k - 2).toNat))], .list [idK k, idK k, idK k, .tuple ((nums (List.range (3 * k - 2).toNat)).map PyData.int)]]
noncomputable def famS (k : Int) : PyData := .list [idK k, idK k, idK k, rowP (nums (1 :: 0 :: (List.range (3 * k.toNat - 2)).drop 2))]
theorem fam_ok {k : Int} (k2 : 2 ≤ k) (k4 : k ≤ 4) : ∀ d ∈ famA k ++ [famS k], famBad k d ∧ Sm d := by
  have key : ((famA k ++ [famS k]).all smB) = true := by
    obtain rfl | rfl | rfl : k = 2 ∨ k = 3 ∨ k = 4 := by omega
    all_goals decide +kernel
  intro d hd
  refine ⟨?_, sm_B (List.all_eq_true.mp key d hd)⟩
  simp only [famA, List.mem_append, List.mem_cons, List.not_mem_nil, or_false] at hd
  rcases hd with (rfl | rfl | rfl | rfl | rfl | rfl | rfl | rfl) | rfl
  · exact .inl (.inl rfl)
  · exact .inl (.inr (by decide))
  · exact .inl (.inl rfl)
  · exact .inl (.inl rfl)
  · exact .inl (.inr (by show 3 ≠ 4; decide))
  · refine .inr (.inl ⟨_, rfl, fun ds e => ?_, ?_⟩)
    · cases e
      rw [List.length_map]
      unfold nums
      rw [List.length_map, List.length_range]
      omega
    · obtain rfl | rfl | rfl : k = 2 ∨ k = 3 ∨ k = 4 := by omega
      all_goals decide +kernel
  · refine .inr (.inl ⟨_, rfl, fun ds e => ?_, ?_⟩)
    · cases e
      have : (lateL (3 * k - 2).toNat).length ≤ 1000 := by
        obtain rfl | rfl | rfl : k = 2 ∨ k = 3 ∨ k = 4 := by omega
        all_goals decide +kernel
      rw [List.length_map]
      unfold nums
      rw [List.length_map]
      exact this
    · obtain rfl | rfl | rfl : k = 2 ∨ k = 3 ∨ k = 4 := by omega
      all_goals decide +kernel
  · refine .inr (.inl ⟨_, rfl, fun ds e => (by cases e), ?_⟩)
    rfl
  · exact .inr (.inr rfl)
end GL
namespace GL
open PySem PySem.Spec PyProof.Rows
open L2 hiding spCell
theorem Tab.hid {H : Hp} {c g : Addr} {rs : List Addr} {kss : List (List Int)} (t : Tab H c rs kss) (cg : c ≠ g) (gr : g ∉ rs) : Tab (GL.hid H g) c rs kss :=
  ⟨hid_in t.top cg, t.len, fun i r ks a b => hid_in (t.row i r ks a b) fun z => gr (by rw [← z]; exact List.mem_of_getElem? a), t.nd⟩
theorem Prg.hid {H0 H : Hp} {p g : Addr} {as : List Addr} {ts : List (Nat × Nat)} {n : Nat} (h : Prg H0 H p as ts) (G : Gen H0 g n) : Prg H0 (GL.hid H g) p as ts :=
  ⟨hid_in h.top (G.ne h.newP).symm, h.len, fun i a t x y => hid_in (h.row i a t x y) (G.ne (h.newA a (List.mem_of_getElem? x))).symm, h.newP, h.newA⟩
end GL

namespace K56
open PySem PySem.Spec PyProof.Rows
open L2 hiding spCell rLen
open GL
section
variable {P : Program} {w : World} {K : PySem.W.Frag} {mg : Str → Option Value} {base : Heap}
variable {er : Str → Addr}
noncomputable abbrev sRightP : Stmt := topS 117
noncomputable abbrev nRightP : List Str := ["_law_generator_here", "_law_kinds", "_law_company_here", "_law_program_here", "_law_bad", "_law_door", "_law_other", "_law_far", "_law_nine"]
theorem scRightP : FnScope nRightP ["_law_generator_here", "_law_kinds", "_law_company_here", "_law_program_here"] (defScope sRightP) := ⟨rfl, rfl, rfl, by decide +kernel, rfl, by decide +kernel, by decide +kernel⟩
theorem ok_rightP {f : Addr} {fd : FuncData} (F : Fun K "_law_programs_right" "_law_programs_right" sRightP f fd) (T : Bi mg) (Uisprogram : Use P w K mg base "is_program" ["value"] (spIsProg K) 4) (UisprogramK : UseK P w K mg base "is_program" ["value"] ["value"] gQ0 gQV0 (spIsProg K) 4) (ULtold : UseG P w K mg base "_law_told" ["_law_door", "_law_args"] (spTold K er) 10) (ULonly : UseG P w K mg base "_law_only" ["_law_at", "_law_value"] (spOnly K) 2) (ULisprogram : Use P w K mg base "_law_is_program" ["_law_value"] (spLawProg K) 2) (ULbent : Use P w K mg base "_law_bent" ["_law_generator_here", "_law_program_here"] (spBentP K) 4) : FnG P w K mg base CX0 11 f fd ["_law_generator_here", "_law_kinds", "_law_company_here", "_law_program_here"] (spRightP K er) := by
  obtain ⟨fUisprogramK, fdUisprogramK, FUisprogramK, mUisprogramK, kUisprogramK, bUisprogramK⟩ := UisprogramK
  refine FnG.mk' F scRightP (fun vs H Q E h => ?_) (fun cdv A outer s H vs Q E hgd hr h => ?_)
  · obtain ⟨g, k, c, p, rs, kss, xs, ts, n, rfl, _⟩ := h
    rfl
  · obtain ⟨g, k, c, p, rs, kss, xs, ts, n, rfl, G, r, q⟩ := h
    have hgd' : (A.deeper (envOfC "_law_programs_right" (defScope sRightP) s.heap.objs.size f cdv)).guards = some [] := hgd
    refine ⟨_, (pss_cons (ps_for PassesOwn.never rfl (pi_list (pe_use ULbent (hr.mono (by decide)) (by rfl) (pa_cons (pv 0) (pa_cons (pv 3) pa_nil)))) (pg_name (i := 4) scRightP.nd rfl (Or.inr rfl))
        (pss_cons (ps_if (PW.pt (pw_or (pt_cmpR op_notBl (pe_use Uisprogram (hr.mono (by decide)) (by rfl) (pa_cons (pv 4) pa_nil)) pe_bl (nomark _)) (pw_or1 (pt_cmpR op_notBl (pe_kws FUisprogramK (hr.mono (by decide)) (by rfl) mUisprogramK kUisprogramK bUisprogramK pass0 (pk_cons (pv 4) pk_nil)) pe_bl (nomark _)))))
          (pss_one (ps_ret pe_bl)) pss_nil)
        (pss_cons (ps_if (pt_cmpR (op_neNil hr.units) (pe_lc (own := [("_law_door", 5)]) (g := (gName 5)) (tt := (tTest (tOp (rNeD K) (tCall (spTold K er) [] E0 (tCons (tVar 5) (tCons (tLst (tCons (tVar 1) (tCons (tVar 2) (tCons (tVar 4) tNil)))) tNil))) (tCall (spOnly K) [] E0 (tCons (tC (.int 2)) (tCons (tVar 4) tNil)))))) (te := (tVar 5)) rfl scRightP.nd (pi_list (pd_list (pds_cons (pd_int pe_int) (pds_cons (pd_int pe_int) pds_nil)) (fun _ => by show 2 ≤ sizeLine; decide)))
            (blkOk_by (N := nRightP) (sc := (defScope sRightP)) (by decide +kernel)) (fun _ _ _ _ _ => (pg_name (i := 5) scRightP.nd rfl (Or.inl rfl))) (fun _ _ _ _ _ => by exact (pts_one (pt_cmpR (op_neD hr.units) (pe_useG ULtold hgd' hr (by rfl) (pa_cons (pv 5) (pa_cons (pe_lst (pa_cons (pv 1) (pa_cons (pv 2) (pa_cons (pv 4) pa_nil)))) pa_nil))) (pe_useG ULonly hgd' (hr.mono (by decide)) (by rfl) (pa_cons pe_int (pa_cons (pv 4) pa_nil))) (nomark _))))
            (fun _ _ _ _ _ => by exact (pv 5))) (pe_lst pa_nil) (nomark _))
          (pss_one (ps_ret pe_bl)) pss_nil)
        (pss_cons (ps_if (PW.pt (pw_or (pt_cmpR (op_neD hr.units) (pe_useG ULtold hgd' hr (by rfl) (pa_cons pe_int (pa_cons (pe_lst (pa_cons (pv 1) (pa_cons (pv 2) (pa_cons (pv 4) (pa_cons pe_non pa_nil))))) pa_nil))) (pe_useG ULonly hgd' (hr.mono (by decide)) (by rfl) (pa_cons pe_int (pa_cons (pv 4) pa_nil))) (nomark _)) (pw_or1 (pt_cmpR (op_neD hr.units) (pe_useG ULtold hgd' hr (by rfl) (pa_cons pe_int (pa_cons (pe_lst (pa_cons (pv 1) (pa_cons (pd_list (pds_cons (pd_int pe_int) (pds_cons (pd_int pe_int) pds_nil)) (fun _ => by show 2 ≤ sizeLine; decide)) (pa_cons (pe_lst pa_nil) (pa_cons (pv 4) pa_nil))))) pa_nil))) (pe_useG ULonly hgd' (hr.mono (by decide)) (by rfl) (pa_cons pe_int (pa_cons (pv 4) pa_nil))) (nomark _)))))
          (pss_one (ps_ret pe_bl)) pss_nil)
        (pss_cons (ps_for PassesOwn.never rfl (pi_list (pe_lst (pa_cons pe_non (pa_cons (pv 3) pa_nil)))) (pg_name (i := 6) scRightP.nd rfl (Or.inr rfl))
          (pss_one (ps_if (pt_cmpR (op_neNil hr.units) (pe_lc (own := [("_law_door", 5)]) (g := (gName 5)) (tt := (tTest (tOp (rNeD K) (tCall (spTold K er) [] E0 (tCons (tVar 5) (tCons (tLst (tCons (tVar 1) (tCons (tVar 4) (tCons (tVar 6) tNil)))) tNil))) (tCall (spOnly K) [] E0 (tCons (tC (.int 2)) (tCons (tVar 4) tNil)))))) (te := (tVar 5)) rfl scRightP.nd (pi_range2 (by rfl) T.range (pa_cons pe_int (pa_cons pe_int pa_nil)))
            (blkOk_by (N := nRightP) (sc := (defScope sRightP)) (by decide +kernel)) (fun _ _ _ _ _ => (pg_name (i := 5) scRightP.nd rfl (Or.inl rfl))) (fun _ _ _ _ _ => by exact (pts_one (pt_cmpR (op_neD hr.units) (pe_useG ULtold hgd' hr (by rfl) (pa_cons (pv 5) (pa_cons (pe_lst (pa_cons (pv 1) (pa_cons (pv 4) (pa_cons (pv 6) pa_nil)))) pa_nil))) (pe_useG ULonly hgd' (hr.mono (by decide)) (by rfl) (pa_cons pe_int (pa_cons (pv 4) pa_nil))) (nomark _))))
            (fun _ _ _ _ _ => by exact (pv 5))) (pe_lst pa_nil) (nomark _))
            (pss_one (ps_ret pe_bl)) pss_nil)))
        (pss_cons (ps_if (pt_cmpR (op_neNil hr.units) (pe_lc (own := [("_law_door", 5)]) (g := (gName 5)) (tt := (tTest (tOp (rNeD K) (tCall (spTold K er) [] E0 (tCons (tVar 5) (tCons (tLst (tCons (tVar 1) (tCons (tVar 3) (tCons (tVar 4) tNil)))) tNil))) (tCall (spOnly K) [] E0 (tCons (tC (.int 2)) (tCons (tVar 4) tNil)))))) (te := (tVar 5)) rfl scRightP.nd (pi_range2 (by rfl) T.range (pa_cons pe_int (pa_cons pe_int pa_nil)))
            (blkOk_by (N := nRightP) (sc := (defScope sRightP)) (by decide +kernel)) (fun _ _ _ _ _ => (pg_name (i := 5) scRightP.nd rfl (Or.inl rfl))) (fun _ _ _ _ _ => by exact (pts_one (pt_cmpR (op_neD hr.units) (pe_useG ULtold hgd' hr (by rfl) (pa_cons (pv 5) (pa_cons (pe_lst (pa_cons (pv 1) (pa_cons (pv 3) (pa_cons (pv 4) pa_nil)))) pa_nil))) (pe_useG ULonly hgd' (hr.mono (by decide)) (by rfl) (pa_cons pe_int (pa_cons (pv 4) pa_nil))) (nomark _))))
            (fun _ _ _ _ _ => by exact (pv 5))) (pe_lst pa_nil) (nomark _))
          (pss_one (ps_ret pe_bl)) pss_nil)
        (pss_cons (ps_if (PW.pt (pw_or (pt_cmpR (op_neNil hr.units) (pe_lc (own := [("_law_door", 5)]) (g := (gName 5)) (tt := (tTest (tOp (rNeD K) (tCall (spTold K er) [] E0 (tCons (tVar 5) (tCons (tLst (tCons (tVar 1) (tCons (tVar 4) tNil))) tNil))) (tCall (spOnly K) [] E0 (tCons (tC (.int 2)) (tCons (tVar 4) tNil)))))) (te := (tVar 5)) rfl scRightP.nd (pi_list (pd_list (pds_cons (pd_int pe_int) (pds_cons (pd_int pe_int) pds_nil)) (fun _ => by show 2 ≤ sizeLine; decide)))
            (blkOk_by (N := nRightP) (sc := (defScope sRightP)) (by decide +kernel)) (fun _ _ _ _ _ => (pg_name (i := 5) scRightP.nd rfl (Or.inl rfl))) (fun _ _ _ _ _ => by exact (pts_one (pt_cmpR (op_neD hr.units) (pe_useG ULtold hgd' hr (by rfl) (pa_cons (pv 5) (pa_cons (pe_lst (pa_cons (pv 1) (pa_cons (pv 4) pa_nil))) pa_nil))) (pe_useG ULonly hgd' (hr.mono (by decide)) (by rfl) (pa_cons pe_int (pa_cons (pv 4) pa_nil))) (nomark _))))
            (fun _ _ _ _ _ => by exact (pv 5))) (pe_lst pa_nil) (nomark _)) (pw_or1 (pt_cmpR (op_neD hr.units) (pe_useG ULtold hgd' hr (by rfl) (pa_cons pe_int (pa_cons (pe_lst (pa_cons (pv 1) (pa_cons (pd_list (pds_cons (pd_int pe_int) (pds_cons (pd_int pe_int) pds_nil)) (fun _ => by show 2 ≤ sizeLine; decide)) (pa_cons (pv 4) pa_nil)))) pa_nil))) (pe_useG ULonly hgd' (hr.mono (by decide)) (by rfl) (pa_cons pe_int (pa_cons (pv 4) pa_nil))) (nomark _)))))
          (pss_one (ps_ret pe_bl)) pss_nil)
        (pss_one (ps_if (pt_cmpR (op_neD hr.units) (pe_useG ULtold hgd' hr (by rfl) (pa_cons pe_int (pa_cons (pe_lst (pa_cons (pv 4) pa_nil)) pa_nil))) (pe_useG ULonly hgd' (hr.mono (by decide)) (by rfl) (pa_cons pe_int (pa_cons (pv 4) pa_nil))) (nomark _))
          (pss_one (ps_ret pe_bl)) pss_nil)))))))))
      (pss_cons (ps_set (i := 7) scRightP.nd rfl (Or.inr rfl) (pe_op op_cat (pv 3) (pe_lst (pa_cons (pe_tup (pa_cons pe_int (pa_cons (pe_callB call_len_seq (by rfl) T.len PySem.boot_len (pa_cons (pv 2) pa_nil)) pa_nil))) pa_nil))))
      (pss_cons (ps_if (PW.pt (pw_or (pt_cmpR (op_neNil hr.units) (pe_lc (own := [("_law_door", 5)]) (g := (gName 5)) (tt := (tTest (tOp (rNeD K) (tCall (spTold K er) [] E0 (tCons (tVar 5) (tCons (tLst (tCons (tVar 1) (tCons (tVar 2) (tCons (tVar 7) tNil)))) tNil))) (tCall (spOnly K) [] E0 (tCons (tC (.int 2)) (tCons (tVar 7) tNil)))))) (te := (tVar 5)) rfl scRightP.nd (pi_list (pd_list (pds_cons (pd_int pe_int) (pds_cons (pd_int pe_int) pds_nil)) (fun _ => by show 2 ≤ sizeLine; decide)))
            (blkOk_by (N := nRightP) (sc := (defScope sRightP)) (by decide +kernel)) (fun _ _ _ _ _ => (pg_name (i := 5) scRightP.nd rfl (Or.inl rfl))) (fun _ _ _ _ _ => by exact (pts_one (pt_cmpR (op_neD hr.units) (pe_useG ULtold hgd' hr (by rfl) (pa_cons (pv 5) (pa_cons (pe_lst (pa_cons (pv 1) (pa_cons (pv 2) (pa_cons (pv 7) pa_nil)))) pa_nil))) (pe_useG ULonly hgd' (hr.mono (by decide)) (by rfl) (pa_cons pe_int (pa_cons (pv 7) pa_nil))) (nomark _))))
            (fun _ _ _ _ _ => by exact (pv 5))) (pe_lst pa_nil) (nomark _)) (pw_or1 (pt_cmpR op_notBl (pe_use Uisprogram (hr.mono (by decide)) (by rfl) (pa_cons (pv 7) pa_nil)) pe_bl (nomark _)))))
        (pss_one (ps_ret pe_bl)) pss_nil)
      (pss_cons (ps_if (PW.pt (pw_or (pt_cmpR (op_neD hr.units) (pe_useG ULtold hgd' hr (by rfl) (pa_cons pe_int (pa_cons (pe_lst (pa_cons (pv 1) (pa_cons (pv 2) (pa_cons (pv 7) (pa_cons pe_non pa_nil))))) pa_nil))) (pe_useG ULonly hgd' (hr.mono (by decide)) (by rfl) (pa_cons pe_int (pa_cons (pv 7) pa_nil))) (nomark _)) (pw_or1 (pt_cmpR op_notBl (pe_use Uisprogram (hr.mono (by decide)) (by rfl) (pa_cons (pd_list (pds_cons (pd_tup (pds_cons (pd_int pe_int) (pds_cons (pd_int pe_int) pds_nil)) (fun _ => by show 2 ≤ sizeLine; decide)) pds_nil) (fun _ => by show 1 ≤ sizeLine; decide)) pa_nil)) pe_bl (nomark _)))))
        (pss_one (ps_ret pe_bl)) pss_nil)
      (pss_cons (ps_for PassesOwn.never rfl (pi_list (pd_list (pds_cons (pd_list (pds_cons (pd_tup (pds_cons (pd_int pe_int) (pds_cons (pd_int pe_int) pds_nil)) (fun _ => by show 2 ≤ sizeLine; decide)) (pds_cons (pd_tup (pds_cons (pd_int pe_int) (pds_cons (pd_int pe_int) pds_nil)) (fun _ => by show 2 ≤ sizeLine; decide)) pds_nil)) (fun _ => by show 2 ≤ sizeLine; decide)) (pds_cons (pd_list (pds_cons (pd_tup (pds_cons (pd_int pe_int) (pds_cons (pd_int pe_int) pds_nil)) (fun _ => by show 2 ≤ sizeLine; decide)) pds_nil) (fun _ => by show 1 ≤ sizeLine; decide)) (pds_cons (pd_list (pds_cons (pd_tup (pds_cons (pd_int pe_int) (pds_cons (pd_int pe_int) pds_nil)) (fun _ => by show 2 ≤ sizeLine; decide)) pds_nil) (fun _ => by show 1 ≤ sizeLine; decide)) (pds_cons (pd_list (pds_cons (pd_tup (pds_cons (pd_int pe_int) (pds_cons (pd_int pe_int) pds_nil)) (fun _ => by show 2 ≤ sizeLine; decide)) pds_nil) (fun _ => by show 1 ≤ sizeLine; decide)) pds_nil)))) (fun _ => by show 4 ≤ sizeLine; decide))) (pg_name (i := 4) scRightP.nd rfl (Or.inr rfl))
        (pss_one (ps_if (pt_cmpR (op_neD hr.units) (pe_useG ULtold hgd' hr (by rfl) (pa_cons pe_int (pa_cons (pe_lst (pa_cons (pv 4) pa_nil)) pa_nil))) (pe_useG ULonly hgd' (hr.mono (by decide)) (by rfl) (pa_cons pe_int (pa_cons (pv 4) pa_nil))) (nomark _))
          (pss_one (ps_ret pe_bl)) pss_nil)))
      (pss_cons (ps_set (i := 8) scRightP.nd rfl (Or.inr rfl) (pd_list (pds_cons (pd_tup (pds_cons (pd_int pe_int) (pds_cons (pd_int pe_int) pds_nil)) (fun _ => by show 2 ≤ sizeLine; decide)) (pds_cons (pd_tup (pds_cons (pd_int pe_int) (pds_cons (pd_int pe_int) pds_nil)) (fun _ => by show 2 ≤ sizeLine; decide)) (pds_cons (pd_tup (pds_cons (pd_int pe_int) (pds_cons (pd_int pe_int) pds_nil)) (fun _ => by show 2 ≤ sizeLine; decide)) (pds_cons (pd_tup (pds_cons (pd_int pe_int) (pds_cons (pd_int pe_int) pds_nil)) (fun _ => by show 2 ≤ sizeLine; decide)) (pds_cons (pd_tup (pds_cons (pd_int pe_int) (pds_cons (pd_int pe_int) pds_nil)) (fun _ => by show 2 ≤ sizeLine; decide)) pds_nil))))) (fun _ => by show 5 ≤ sizeLine; decide)))
      (pss_cons (ps_if (PW.pt (pw_or (pt_cmpR (op_neNil hr.units) (pe_lc (own := [("_law_door", 5)]) (g := (gName 5)) (tt := (tTest (tOp (rNeD K) (tCall (spTold K er) [] E0 (tCons (tVar 5) (tCons (tLst (tCons (tC (.int 2)) (tCons (tVar 8) (tCons (tC .non) tNil)))) tNil))) (tCall (spOnly K) [] E0 (tCons (tC (.int 2)) (tCons (tC .non) tNil)))))) (te := (tVar 5)) rfl scRightP.nd (pi_range2 (by rfl) T.range (pa_cons pe_int (pa_cons pe_int pa_nil)))
            (blkOk_by (N := nRightP) (sc := (defScope sRightP)) (by decide +kernel)) (fun _ _ _ _ _ => (pg_name (i := 5) scRightP.nd rfl (Or.inl rfl))) (fun _ _ _ _ _ => by exact (pts_one (pt_cmpR (op_neD hr.units) (pe_useG ULtold hgd' hr (by rfl) (pa_cons (pv 5) (pa_cons (pe_lst (pa_cons pe_int (pa_cons (pv 8) (pa_cons pe_non pa_nil)))) pa_nil))) (pe_useG ULonly hgd' (hr.mono (by decide)) (by rfl) (pa_cons pe_int (pa_cons pe_non pa_nil))) (nomark _))))
            (fun _ _ _ _ _ => by exact (pv 5))) (pe_lst pa_nil) (nomark _)) (pw_or1 (pt_cmpR (op_neD hr.units) (pe_useG ULtold hgd' hr (by rfl) (pa_cons pe_int (pa_cons (pd_list (pds_cons (pd_int pe_int) (pds_cons (pd_list (pds_cons (pd_int pe_int) (pds_cons (pd_int pe_int) (pds_cons (pd_int pe_int) (pds_cons (pd_int pe_int) (pds_cons (pd_int pe_int) pds_nil))))) (fun _ => by show 5 ≤ sizeLine; decide)) (pds_cons (pd_non pe_non) pds_nil))) (fun _ => by show 3 ≤ sizeLine; decide)) pa_nil))) (pe_useG ULonly hgd' (hr.mono (by decide)) (by rfl) (pa_cons pe_int (pa_cons pe_non pa_nil))) (nomark _)))))
        (pss_one (ps_ret pe_bl)) pss_nil)
      (pss_one (ps_ret (pe_and (pe_use ULisprogram (hr.mono (by decide)) (by rfl) (pa_cons (pv 3) pa_nil)) (pe_one (pe_cmpR op_isBl (pe_use Uisprogram (hr.mono (by decide)) (by rfl) (pa_cons (pv 3) pa_nil)) pe_bl (nomark _))))))))))))), ?_⟩
    have R0 : RightIn K H k c p rs kss xs ts := r.same hid_same
    have pg : p ≠ g := hid_none r.hp
    refine ⟨_, rfl, _, rfl, g, p, xs, ts, n, rfl, G, pg, R0.hp, r.dx, by have := r.l6; omega, fun ls ys u H1 b1 G1 h1 dy => ?_⟩
    have R1 : RightIn K H1 k c p rs kss xs ts := r.same fun b o e => b1 b o (hid_same b o e) (hid_none e)
    have bok := bent_ok r.tn40 (by have := r.l6; omega) u
    refine ⟨ls, rfl, ⟨_, SqL.of h1⟩, ?_⟩
    refine for_list (K := K) (a := ls) (xs := ys) (fun i σ H' => ∃ z5 z7 : Option V, σ = [some (.ref g), some (.int k), some (.ref c), some (.ref p), z5, none, z7, none, none] ∧ Same H1 H') ⟨_, _, rfl, Same.refl _⟩ (fun i σ H' _ z => by
      obtain ⟨_, _, _, s'⟩ := z
      exact SqL.of (s' _ _ h1)) ?_ ?_
    · rintro i x σ H2 hi ⟨z5, z7, rfl, s2⟩
      obtain ⟨d, ed, dt0⟩ := dy.get hi
      obtain ⟨pf, sm⟩ := bok d (List.mem_of_getElem? ed)
      have dt := dt0.same s2
      have R2 := R1.same s2
      refine gName_by ?_
      refine ⟨_, rfl, x, d, rfl, dt, sm.2.1, fun H3 s3 => ?_⟩
      rw [pf]
      refine ⟨_, _, rfl, rfl, _, rfl, iteF ?_⟩
      refine ⟨_, rfl, x, d, rfl, dt.same s3, sm.2.1, fun H4 s4 => ?_⟩
      rw [pf]
      refine ⟨_, _, rfl, rfl, _, rfl, iteF ?_⟩
      have s24 := s3.trans s4
      have R4 := R2.same s24
      have dt4 := dt.same s24
      have S : Same H2 H4 := s24
      have kd := R2.kd
      have dk : Dt K H2 (.int k) (.int k) := .int k
      have dc : Dt K H2 (.ref c) (tabP kss) := R2.t.dt
      have dp : Dt K H2 (.ref p) (progP ts) := R2.dtp
      have pok := prog_ok R2.tn40
      have runf : runD (lenD (tabP kss)) d = false := by
        unfold runD
        rw [pf]
        rfl
      have shf : shortD d = false := by
        cases d with
        | list ds =>
          show (ds.all (cplD 40) && _) = false
          rw [show ds.all (cplD 40) = false from pf, Bool.false_and]
        | _ => rfl
      have A1 : ∀ j ∈ ([0, 1] : List Nat), ArgsP K er j H2 [.int k, .ref c, x] d "InvalidProgram" := fun j jm => by
        simp only [List.mem_cons, List.not_mem_nil, or_false] at jm
        rcases jm with rfl | rfl
        all_goals exact args_by (by decide) (by simp [arity]) (.cons dk (.cons dc (.cons dt .nil))) (by simp) (sms3 R2.smk R2.smc sm) dt (fb1 kd (fb1 R2.comp (fb0 runf)))
      refine tNext_of ?_
      dsimp only
      refine tSeq_of ?_
      refine if_of ?_
      refine told_list (c := "InvalidProgram") (dv := d) (n := 2) (js := [0, 1]) ?_ ?_ ?_ ?_ sm rfl (by decide) ?_
      · exact fun Q' z => lit_nums (by repeat' (first | exact trivial | exact ⟨_, rfl⟩ | refine ⟨?_, ?_⟩)) rfl z
      · exact fun _ => ⟨rfl, rfl⟩
      · exact fun j H' Q' jm s z => ⟨_, rfl, _, rfl, _, rfl, lst_args ((A1 j jm).later (S.trans s)) z⟩
      · exact fun j H' Q' s z => ⟨_, rfl, z _ _ (Same.refl _) (dt.same (S.trans s))⟩
      intro H5 s5
      refine iteF ?_
      replace S := S.trans s5
      have A2 : ArgsP K er 3 H2 [.int k, .ref c, x, .non] d "InvalidProgram" := args_by (by decide) (by simp [arity]) (.cons dk (.cons dc (.cons dt (.cons .non .nil)))) (by simp) (sms4 R2.smk R2.smc sm sm_non) dt (fb1 kd (fb1 R2.comp (fb0 runf)))
      refine tNext_of ?_
      dsimp only
      refine tSeq_of ?_
      refine if_of ?_
      refine or_of ?_
      refine test_of ?_
      refine told_ne (c := "InvalidProgram") (dv := d) (n := 2) (d := 3) ?_ ?_ ?_ sm rfl (by decide) ?_
      · exact fun _ _ z => z
      · exact fun Q' z => ⟨_, rfl, _, rfl, _, rfl, lst_args (A2.later S) z⟩
      · exact fun H' Q' s z => ⟨_, rfl, z _ _ (Same.refl _) (dt.same (S.trans s))⟩
      intro H6 s6
      refine ⟨_, rfl, iteF ?_⟩
      replace S := S.trans s6
      have A3 : ∀ {J : Hp} {l0 e0 : Addr}, Same H2 J → J l0 = some (.lst (natV [0, 1])) → J e0 = some (.lst []) → ArgsP K er 2 J [.int k, .ref l0, .ref e0, x] d "InvalidProgram" := fun sJ h0 h1 =>
        args_by (by decide) (by simp [arity]) (.cons (.int k) (.cons (.lst h0 (.cons (.int 0) (.cons (.int 1) .nil))) (.cons (.lst h1 .nil) (.cons (dt.same sJ) .nil)))) (by simp) (sms4 R2.smk (sm_of (d := .list [.int 0, .int 1]) (nice_of (by decide +kernel)) (by decide +kernel)) (sm_of (d := .list []) (nice_of (by decide +kernel)) (by decide +kernel)) sm) (dt.same sJ) (fb1 kd (fb1 (by show lotD 40 (.list [.int 0, .int 1]) = true; decide +kernel) (fb1 (by show stateD k [.int 0, .int 1] (.list []) = true; simp [stateD, folkD]) (fb0 pf))))
      refine test_of ?_
      refine told_ne (c := "InvalidProgram") (dv := d) (n := 2) (d := 2) ?_ ?_ ?_ sm rfl (by decide) ?_
      · exact fun _ _ z => z
      · exact fun Q' z => ⟨_, rfl, lit_nums (by repeat' (first | exact trivial | exact ⟨_, rfl⟩ | refine ⟨?_, ?_⟩)) rfl fun l0 J sJ h0 => ⟨Nat.zero_le _, fun e0 he0 => ⟨_, rfl, lst_args (A3 (S.trans (sJ.trans (same_new he0))) ((same_new he0) _ _ h0) upd_same) fun a vs H' s' => z a vs H' ((sJ.trans (same_new he0)).trans s')⟩⟩⟩
      · exact fun H' Q' s z => ⟨_, rfl, z _ _ (Same.refl _) (dt.same (S.trans s))⟩
      intro H7 s7
      refine ⟨_, rfl, iteF ?_⟩
      replace S := S.trans s7
      have A4 : ∀ (o : V) (od : PyData), Dt K H2 o od → Sm od → ∀ j : Nat, 4 ≤ j → j < 7 → ArgsP K er j H2 [.int k, x, o] d "InvalidProgram" := fun o od dto so j j1 j2 => by
        obtain rfl | rfl | rfl : j = 4 ∨ j = 5 ∨ j = 6 := by omega
        all_goals exact args_by (by decide) (by simp [arity]) (.cons dk (.cons dt (.cons dto .nil))) (by simp) (sms3 R2.smk sm so) dt (fb1 kd (fb0 pf))
      refine tNext_of ?_
      dsimp only
      refine tSeq_of ?_
      refine ⟨_, rfl, (by show 2 ≤ sizeLine; decide), fun lo hlo => ?_⟩
      obtain ⟨HL, eL, sL, fL⟩ := gen _ hlo (.lst [.non, .ref p])
      rw [eL]
      clear eL
      replace S := S.trans sL
      refine ⟨lo, rfl, ⟨_, SqL.of fL⟩, ?_⟩
      refine for_list (K := K) (a := lo) (xs := [.non, .ref p]) (fun i σ H' => ∃ z7 : Option V, σ = [some (.ref g), some (.int k), some (.ref c), some (.ref p), some x, none, z7, none, none] ∧ Same HL H') ⟨_, rfl, Same.refl _⟩ (fun i σ H' _ z => by
        obtain ⟨_, _, s'⟩ := z
        exact SqL.of (s' _ _ fL)) ?_ ?_
      · rintro jo o σ HM hjo ⟨z7, rfl, sM⟩
        have S' := S.trans sM
        obtain ⟨od, dto, so⟩ : ∃ od, Dt K H2 o od ∧ Sm od := by
          match jo, hjo with
          | 0, hjo =>
            cases hjo
            exact ⟨_, .non, sm_non⟩
          | 1, hjo =>
            cases hjo
            exact ⟨_, dp, R2.smp⟩
        refine gName_by ?_
        refine if_of ?_
        refine told_range (c := "InvalidProgram") (dv := d) (n := 2) (lo := 4) (hi := 7) (by decide) (by decide) ?_ ?_ ?_ ?_ sm rfl ?_
        · exact fun Q' z => z
        · exact fun _ => ⟨rfl, rfl⟩
        · exact fun j H' Q' j1 j2 s z => ⟨_, rfl, _, rfl, _, rfl, lst_args ((A4 o od dto so j j1 j2).later (S'.trans s)) z⟩
        · exact fun j H' Q' s z => ⟨_, rfl, z _ _ (Same.refl _) (dt.same (S'.trans s))⟩
        intro HN sN
        exact iteF ⟨_, rfl, sM.trans sN⟩
      rintro σ HM ⟨z8, rfl, sM⟩
      replace S := S.trans sM
      dsimp only
      refine tSeq_of ?_
      refine if_of ?_
      have A5 : ∀ j : Nat, 4 ≤ j → j < 7 → ArgsP K er j H2 [.int k, .ref p, x] d "InvalidProgram" := fun j j1 j2 => by
        obtain rfl | rfl | rfl : j = 4 ∨ j = 5 ∨ j = 6 := by omega
        all_goals exact args_by (by decide) (by simp [arity]) (.cons dk (.cons dp (.cons dt .nil))) (by simp) (sms3 R2.smk R2.smp sm) dt (fb1 kd (fb1 pok (fb0 pf)))
      refine told_range (c := "InvalidProgram") (dv := d) (n := 2) (lo := 4) (hi := 7) (by decide) (by decide) ?_ ?_ ?_ ?_ sm rfl ?_
      · exact fun Q' z => z
      · exact fun _ => ⟨rfl, rfl⟩
      · exact fun j H' Q' j1 j2 s z => ⟨_, rfl, _, rfl, _, rfl, lst_args ((A5 j j1 j2).later (S.trans s)) z⟩
      · exact fun j H' Q' s z => ⟨_, rfl, z _ _ (Same.refl _) (dt.same (S.trans s))⟩
      intro H8 s8
      refine iteF ?_
      replace S := S.trans s8
      refine tNext_of ?_
      dsimp only
      refine tSeq_of ?_
      refine if_of ?_
      refine or_of ?_
      have A6 : ∀ j ∈ ([9, 10] : List Nat), ArgsP K er j H2 [.int k, x] d "InvalidProgram" := fun j jm => by
        simp only [List.mem_cons, List.not_mem_nil, or_false] at jm
        rcases jm with rfl | rfl
        all_goals exact args_by (by decide) (by simp [arity]) (.cons dk (.cons dt .nil)) (by simp) (sms2 R2.smk sm) dt (fb1 kd (fb0 pf))
      refine told_list (c := "InvalidProgram") (dv := d) (n := 2) (js := [9, 10]) ?_ ?_ ?_ ?_ sm rfl (by decide) ?_
      · exact fun Q' z => lit_nums (by repeat' (first | exact trivial | exact ⟨_, rfl⟩ | refine ⟨?_, ?_⟩)) rfl z
      · exact fun _ => ⟨rfl, rfl⟩
      · exact fun j H' Q' jm s z => ⟨_, rfl, _, rfl, lst_args ((A6 j jm).later (S.trans s)) z⟩
      · exact fun j H' Q' s z => ⟨_, rfl, z _ _ (Same.refl _) (dt.same (S.trans s))⟩
      intro H9 s9
      refine iteF ?_
      replace S := S.trans s9
      have A7 : ∀ {J : Hp} {l0 : Addr}, Same H2 J → J l0 = some (.lst (natV [0, 1])) → ArgsP K er 8 J [.int k, .ref l0, x] d "InvalidProgram" := fun sJ h0 =>
        args_by (by decide) (by simp [arity]) (.cons (.int k) (.cons (.lst h0 (.cons (.int 0) (.cons (.int 1) .nil))) (.cons (dt.same sJ) .nil))) (by simp) (sms3 R2.smk (sm_of (d := .list [.int 0, .int 1]) (nice_of (by decide +kernel)) (by decide +kernel)) sm) (dt.same sJ) (fb1 kd (fb1 (by show lotD 40 (.list [.int 0, .int 1]) = true; decide +kernel) (fb0 pf)))
      refine test_of ?_
      refine told_ne (c := "InvalidProgram") (dv := d) (n := 2) (d := 8) ?_ ?_ ?_ sm rfl (by decide) ?_
      · exact fun _ _ z => z
      · exact fun Q' z => ⟨_, rfl, lit_nums (by repeat' (first | exact trivial | exact ⟨_, rfl⟩ | refine ⟨?_, ?_⟩)) rfl fun l0 J sJ h0 => ⟨_, rfl, lst_args (A7 (S.trans sJ) h0) fun a vs H' s' => z a vs H' (sJ.trans s')⟩⟩
      · exact fun H' Q' s z => ⟨_, rfl, z _ _ (Same.refl _) (dt.same (S.trans s))⟩
      intro H10 s10
      refine ⟨_, rfl, iteF ?_⟩
      replace S := S.trans s10
      have A8 : ArgsP K er 14 H2 [x] d "InvalidProgram" := args_by (by decide) (by simp [arity]) (.cons dt .nil) (by simp) (sms1 sm) dt (fb0 shf)
      refine tNext_of ?_
      dsimp only
      refine if_of ?_
      refine test_of ?_
      refine told_ne (c := "InvalidProgram") (dv := d) (n := 2) (d := 14) ?_ ?_ ?_ sm rfl (by decide) ?_
      · exact fun _ _ z => z
      · exact fun Q' z => ⟨_, rfl, lst_args (A8.later S) z⟩
      · exact fun H' Q' s z => ⟨_, rfl, z _ _ (Same.refl _) (dt.same (S.trans s))⟩
      intro H11 s11
      refine ⟨_, rfl, iteF ?_⟩
      replace S := S.trans s11
      exact ⟨_, _, rfl, s2.trans S⟩
    · rintro σ H2 ⟨z5, z7, rfl, s2⟩
      have R2 := R1.same s2
      have kd := R2.kd
      have dk : Dt K H2 (.int k) (.int k) := .int k
      have dc : Dt K H2 (.ref c) (tabP kss) := R2.t.dt
      have lrs : (rs.map V.ref).length = kss.length := by rw [List.length_map, R2.t.len]
      have lxs : xs.length = ts.length := by rw [R2.dx.length, List.length_map]
      -- one turn too far
      refine ⟨_, rfl, _, rfl, c, _, rfl, .inl (SqL.of R2.t.top), (by show 2 ≤ sizeLine; decide), fun t1 ht1 => ?_⟩
      rw [lrs]
      obtain ⟨H3, e3, s3, f3⟩ := gen H2 ht1 (.tup [.int 0, .int (kss.length : Nat)])
      rw [e3]
      clear e3
      refine ⟨one_le, fun l1 hl1 => ?_⟩
      obtain ⟨H4, e4, s4, f4⟩ := gen H3 hl1 (.lst [.ref t1])
      rw [e4]
      clear e4
      have s24 := s3.trans s4
      refine ⟨p, l1, _, _, rfl, rfl, s24 _ _ R2.hp, f4, (by rw [lxs, List.length_singleton, sizeLine_eq]; have := R2.l6; omega), fun fa hfa => ?_⟩
      obtain ⟨H5, e5, s5, f5⟩ := gen H4 hfa (.lst (xs ++ [.ref t1]))
      rw [e5]
      clear e5
      have s25 := s24.trans s5
      have ft : Turns 40 (ts ++ [(0, kss.length)]) := fun t ht => by
        rcases List.mem_append.mp ht with h | h
        · exact R2.tn40 t h
        · rw [List.mem_singleton] at h
          subst h
          have h2 := R2.m2
          have h5 := R2.m5
          exact ⟨by show 0 < kss.length; omega, by show kss.length < 40; omega⟩
      have R5 := R2.same s25
      have dk5 : Dt K H5 (.int k) (.int k) := .int k
      have dc5 : Dt K H5 (.ref c) (tabP kss) := R5.t.dt
      have df : Dt K H5 (.ref fa) (progP (ts ++ [(0, kss.length)])) := by
        refine .lst f5 ?_
        rw [List.map_append]
        exact Dts.app R5.dx (.cons (.tup ((s4.trans s5) _ _ f3) (.cons (.int 0) (.cons (.int _) .nil))) .nil)
      have smf : Sm (progP (ts ++ [(0, kss.length)])) := prog_sm ft (by rw [List.length_append, List.length_singleton]; have := R2.l6; omega)
      have pokf := prog_ok ft
      have runf : runD (lenD (tabP kss)) (progP (ts ++ [(0, kss.length)])) = false := by
        unfold runD
        rw [pokf, Bool.true_and]
        show (!((ts ++ [(0, kss.length)]).map turnP).any fun t => decide ((((kss.map rowP).length : Nat) : Int) ≤ highD t)) = false
        rw [List.map_append, List.any_append, List.length_map]
        have e : decide (((kss.length : Nat) : Int) ≤ highD (turnP (0, kss.length))) = true := decide_eq_true (Int.le_refl _)
        show (!(_ || (decide (((kss.length : Nat) : Int) ≤ highD (turnP (0, kss.length))) || false))) = false
        rw [e, Bool.true_or, Bool.or_true]
        rfl
      have S : Same H5 H5 := Same.refl _
      obtain ⟨dF, edF⟩ : ∃ dF, dF = progP (ts ++ [(0, kss.length)]) := ⟨_, rfl⟩
      rw [← edF] at df smf pokf runf
      dsimp only
      refine tSeq_of ?_
      refine if_of ?_
      refine or_of ?_
      have B1 : ∀ j ∈ ([0, 1] : List Nat), ArgsP K er j H5 [.int k, .ref c, .ref fa] dF "InvalidProgram" := fun j jm => by
        simp only [List.mem_cons, List.not_mem_nil, or_false] at jm
        rcases jm with rfl | rfl
        all_goals exact args_by (by decide) (by simp [arity]) (.cons dk5 (.cons dc5 (.cons df .nil))) (by simp) (sms3 R5.smk R5.smc smf) df (fb1 kd (fb1 R5.comp (fb0 runf)))
      refine told_list (c := "InvalidProgram") (dv := dF) (n := 2) (js := [0, 1]) ?_ ?_ ?_ ?_ smf rfl (by decide) ?_
      · exact fun Q' z => lit_nums (by repeat' (first | exact trivial | exact ⟨_, rfl⟩ | refine ⟨?_, ?_⟩)) rfl z
      · exact fun _ => ⟨rfl, rfl⟩
      · exact fun j H' Q' jm s z => ⟨_, rfl, _, rfl, _, rfl, lst_args ((B1 j jm).later (S.trans s)) z⟩
      · exact fun j H' Q' s z => ⟨_, rfl, z _ _ (Same.refl _) (df.same (S.trans s))⟩
      intro H21 s21
      refine iteF ?_
      replace S := S.trans s21
      refine ⟨_, rfl, _, dF, rfl, df.same S, smf.2.1, fun H22 s22 => ?_⟩
      rw [pokf]
      refine ⟨_, _, rfl, rfl, _, rfl, iteF ?_⟩
      replace S := S.trans s22
      have B2 : ArgsP K er 3 H5 [.int k, .ref c, .ref fa, .non] dF "InvalidProgram" := args_by (by decide) (by simp [arity]) (.cons dk5 (.cons dc5 (.cons df (.cons .non .nil)))) (by simp) (sms4 R5.smk R5.smc smf sm_non) df (fb1 kd (fb1 R5.comp (fb0 runf)))
      refine tNext_of ?_
      dsimp only
      refine tSeq_of ?_
      refine if_of ?_
      refine or_of ?_
      refine test_of ?_
      refine told_ne (c := "InvalidProgram") (dv := dF) (n := 2) (d := 3) ?_ ?_ ?_ smf rfl (by decide) ?_
      · exact fun _ _ z => z
      · exact fun Q' z => ⟨_, rfl, _, rfl, _, rfl, lst_args (B2.later S) z⟩
      · exact fun H' Q' s z => ⟨_, rfl, z _ _ (Same.refl _) (df.same (S.trans s))⟩
      intro H22 s22
      refine ⟨_, rfl, iteF ?_⟩
      replace S := S.trans s22
      refine ⟨(by repeat' (first | exact trivial | exact ⟨_, rfl⟩ | refine ⟨?_, ?_⟩)), fun v39 J sJ d39 => ?_⟩
      refine ⟨v39, .list [.tuple [.int 0, .int 39]], rfl, d39.same newH_le, (fun ds e => by cases e; exact (by decide : 1 ≤ 1000)), fun J2 sJ2 => ?_⟩
      rw [show progD (.list [.tuple [.int 0, .int 39]]) = true by decide +kernel]
      refine ⟨_, _, rfl, rfl, _, rfl, iteF ?_⟩
      replace S := S.trans (sJ.trans sJ2)
      refine tNext_of ?_
      dsimp only
      refine tSeq_of ?_
      refine ⟨(by repeat' (first | exact trivial | exact ⟨_, rfl⟩ | refine ⟨?_, ?_⟩)), fun v4 J3 sJ3 d4 => ?_⟩
      obtain ⟨a4, x4, rfl, h4, dx4⟩ := dt_list d4
      replace h4 := newH_le _ _ h4
      replace dx4 := Dts.same newH_le _ _ dx4
      refine ⟨a4, rfl, ⟨_, SqL.of h4⟩, ?_⟩
      refine for_list (K := K) (a := a4) (xs := x4) (fun i σ H' => ∃ z4 : Option V, σ = [some (.ref g), some (.int k), some (.ref c), some (.ref p), z4, none, z7, some (.ref fa), none] ∧ Same J3 H') ⟨_, rfl, Same.refl _⟩ (fun i σ H' _ z => by
        obtain ⟨_, _, s'⟩ := z
        exact SqL.of (s' _ _ h4)) ?_ ?_
      · rintro i y σ J4 hi ⟨z4, rfl, sJ4⟩
        obtain ⟨d, ed, dt0⟩ := dx4.get hi
        obtain ⟨shf, sm⟩ : shortD d = false ∧ Sm d := by
          have key : (([.list [.tuple [.int 0, .int 1], .tuple [.int 2, .int 3]], .list [.tuple [.int 0, .int 3]], .list [.tuple [.int 3, .int 7]], .list [.tuple [.int 2, .int 39]]] : List PyData).all fun d => (!shortD d) && (niceB 2 d && texD d)) = true := by decide +kernel
          have z := List.all_eq_true.mp key d (List.mem_of_getElem? ed)
          simp only [Bool.and_eq_true, Bool.not_eq_true'] at z
          exact ⟨z.1, sm_of (nice_of z.2.1) z.2.2⟩
        have dt := dt0.same sJ4
        have A : ArgsP K er 14 J4 [y] d "InvalidProgram" := args_by (by decide) (by simp [arity]) (.cons dt .nil) (by simp) (sms1 sm) dt (fb0 shf)
        refine gName_by ?_
        refine if_of ?_
        refine test_of ?_
        refine told_ne (c := "InvalidProgram") (dv := d) (n := 2) (d := 14) ?_ ?_ ?_ sm rfl (by decide) ?_
        · exact fun _ _ z => z
        · exact fun Q' z => ⟨_, rfl, lst_args A z⟩
        · exact fun H' Q' s z => ⟨_, rfl, z _ _ (Same.refl _) (dt.same s)⟩
        intro J5 sJ5
        exact ⟨_, rfl, iteF ⟨_, rfl, sJ4.trans sJ5⟩⟩
      rintro σ J4 ⟨z4, rfl, sJ4⟩
      replace S := S.trans (sJ3.trans sJ4)
      dsimp only
      refine tSeq_of ?_
      refine ⟨(by repeat' (first | exact trivial | exact ⟨_, rfl⟩ | refine ⟨?_, ?_⟩)), fun v9 J5 sJ5 d9 => ?_⟩
      replace d9 := d9.same newH_le
      obtain ⟨dN9, edN9⟩ : ∃ dN9, dN9 = PyData.list [.tuple [.int 0, .int 1], .tuple [.int 2, .int 3], .tuple [.int 4, .int 5], .tuple [.int 6, .int 7], .tuple [.int 7, .int 8]] := ⟨_, rfl⟩
      have p9 : progD dN9 = true := by
        rw [edN9]
        decide +kernel
      have sm9 : Sm dN9 := by
        rw [edN9]
        exact sm_of (nice_of (by decide +kernel)) (by decide +kernel)
      replace d9 : Dt K J5 v9 dN9 := by
        rw [edN9]
        exact d9
      have sm2 : Sm (.int 2) := sm_int (by decide) (by decide)
      have smNine : Sm (.int 9) := sm_int (by decide) (by decide)
      replace S := S.trans sJ5
      have S0 := S
      clear S
      have S : Same J5 J5 := Same.refl _
      dsimp only
      refine tSeq_of ?_
      refine if_of ?_
      refine or_of ?_
      have C1 : ∀ j : Nat, 4 ≤ j → j < 7 → ArgsP K er j J5 [.int 2, v9, .non] .none "InvalidProgram" := fun j j1 j2 => by
        obtain rfl | rfl | rfl : j = 4 ∨ j = 5 ∨ j = 6 := by omega
        all_goals exact args_by (by decide) (by simp [arity]) (.cons (.int 2) (.cons d9 (.cons .non .nil))) (by simp) (sms3 sm2 sm9 sm_non) .non (fb1 (by show kindsD (.int 2) = true; decide +kernel) (fb1 p9 (fb0 rfl)))
      refine told_range (c := "InvalidProgram") (dv := .none) (n := 2) (lo := 4) (hi := 7) (by decide) (by decide) ?_ ?_ ?_ ?_ sm_non rfl ?_
      · exact fun Q' z => z
      · exact fun _ => ⟨rfl, rfl⟩
      · exact fun j H' Q' j1 j2 s z => ⟨_, rfl, lst_args ((C1 j j1 j2).later (S.trans s)) z⟩
      · exact fun j H' Q' s z => z _ _ (Same.refl _) .non
      intro H23 s23
      refine iteF ?_
      replace S := S.trans s23
      have C2 : ∀ {J : Hp} {x1 : V}, Dt K J x1 (.list [.int 0, .int 1, .int 2, .int 3, .int 4]) → ArgsP K er 8 J [.int 9, x1, .non] .none "InvalidProgram" := fun h0 =>
        args_by (by decide) (by simp [arity]) (.cons (.int 9) (.cons h0 (.cons .non .nil))) (by simp) (sms3 smNine (sm_of (d := .list [.int 0, .int 1, .int 2, .int 3, .int 4]) (nice_of (by decide +kernel)) (by decide +kernel)) sm_non) .non (fb1 (by show kindsD (.int 9) = true; decide +kernel) (fb1 (by show lotD 40 (.list [.int 0, .int 1, .int 2, .int 3, .int 4]) = true; decide +kernel) (fb0 rfl)))
      refine test_of ?_
      refine told_ne (c := "InvalidProgram") (dv := .none) (n := 2) (d := 8) ?_ ?_ ?_ sm_non rfl (by decide) ?_
      · exact fun _ _ z => z
      · intro Q' z
        refine ⟨(by repeat' (first | exact trivial | exact ⟨_, rfl⟩ | refine ⟨?_, ?_⟩)), fun v J sJ dd => ?_⟩
        obtain ⟨a', xs', rfl, ha', hx'⟩ := dt_list dd
        replace ha' := newH_le _ _ ha'
        replace hx' := Dts.same newH_le _ _ hx'
        obtain ⟨x0, x1, x2, d0, d1, d2, rfl, e, t0, t1, t2⟩ := args3 hx'.length hx'
        cases e
        cases t0
        cases t2
        exact z a' _ J sJ ha' (C2 t1)
      · exact fun H' Q' s z => z _ _ (Same.refl _) .non
      intro H27 s27
      refine ⟨_, rfl, iteF ?_⟩
      replace S := S.trans s27
      replace S := S0.trans S
      have R9 := R5.same S
      refine tNext_of ?_
      dsimp only
      refine ⟨_, rfl, .ref p, ts, rfl, R9.dtp, R9.tn40, fun J9 sJ9 => ?_⟩
      refine ⟨_, rfl, iteT ?_⟩
      refine ⟨_, rfl, .ref p, progP ts, rfl, (R9.same sJ9).dtp, R9.smp.2.1, fun J10 sJ10 => ?_⟩
      rw [prog_ok R9.tn40]
      have all := s2.trans (s25.trans (S.trans (sJ9.trans sJ10)))
      exact ⟨_, _, rfl, rfl, q _ (b1.trans (But.of all)) (G1.same all)⟩
end
end K56

namespace K56
open PySem PySem.Spec PyProof.Rows
open L2 hiding spCell rLen
open GL
section
variable {P : Program} {w : World} {K : PySem.W.Frag} {mg : Str → Option Value} {base : Heap}
variable {er : Str → Addr}
noncomputable abbrev sRightK : Stmt := topS 118
noncomputable abbrev nRightK : List Str := ["_law_company_here", "_law_program_here", "_law_bad", "_law_other", "_law_door", "_law_person"]
theorem scRightK : FnScope nRightK ["_law_company_here", "_law_program_here"] (defScope sRightK) := ⟨rfl, rfl, rfl, by decide +kernel, rfl, by decide +kernel, by decide +kernel⟩
theorem ok_rightK {f : Addr} {fd : FuncData} (F : Fun K "_law_kinds_right" "_law_kinds_right" sRightK f fd) (T : Bi mg) (ULtold : UseG P w K mg base "_law_told" ["_law_door", "_law_args"] (spTold K er) 10) (ULonly : UseG P w K mg base "_law_only" ["_law_at", "_law_value"] (spOnly K) 2) : FnG P w K mg base CX0 11 f fd ["_law_company_here", "_law_program_here"] (spRightK K er) := by
  refine FnG.mk' F scRightK (fun vs H Q E h => ?_) (fun cdv A outer s H vs Q E hgd hr h => ?_)
  · obtain ⟨k, c, p, rs, kss, xs, ts, rfl, _⟩ := h
    rfl
  · obtain ⟨k, c, p, rs, kss, xs, ts, rfl, r, q⟩ := h
    have hgd' : (A.deeper (envOfC "_law_kinds_right" (defScope sRightK) s.heap.objs.size f cdv)).guards = some [] := hgd
    refine ⟨_, (pss_cons (ps_for PassesOwn.never rfl (pi_list (pd_list (pds_cons (pd_non pe_non) (pds_cons (pd_int pe_int) (pds_cons (pd_int pe_int) (pds_cons (pd_int pe_int) (pds_cons (pd_neg (pe_un un_neg pe_int)) (pds_cons (pd_bl pe_bl) (pds_cons (pd_str pe_str) (pds_cons (pd_list (pds_cons (pd_int pe_int) pds_nil) (fun _ => by show 1 ≤ sizeLine; decide)) (pds_cons (pd_pow (pe_op op_pow pe_int pe_int) (by refine ⟨?_, ?_, ?_⟩ <;> decide)) pds_nil))))))))) (fun _ => by show 9 ≤ sizeLine; decide))) (pg_name (i := 2) scRightK.nd rfl (Or.inr rfl))
        (pss_one (ps_for PassesOwn.never rfl (pi_list (pe_lst (pa_cons pe_non (pa_cons (pv 0) pa_nil)))) (pg_name (i := 3) scRightK.nd rfl (Or.inr rfl))
          (pss_one (ps_if (pt_cmpR (op_neNil hr.units) (pe_lc (own := [("_law_door", 4)]) (g := (gName 4)) (tt := (tTest (tOp (rNeD K) (tCall (spTold K er) [] E0 (tCons (tVar 4) (tCons (tLst (tCons (tVar 2) (tCons (tVar 3) (tCons (tC .non) (tCons (tC .non) tNil))))) tNil))) (tCall (spOnly K) [] E0 (tCons (tC (.int 0)) (tCons (tVar 2) tNil)))))) (te := (tVar 4)) rfl scRightK.nd (pi_list (pe_op op_cat (pe_listRg rfl (by rfl) T.list (prg_1 (by rfl) T.range pe_int)) (pd_list (pds_cons (pd_int pe_int) pds_nil) (fun _ => by show 1 ≤ sizeLine; decide))))
            (blkOk_by (N := nRightK) (sc := (defScope sRightK)) (by decide +kernel)) (fun _ _ _ _ _ => (pg_name (i := 4) scRightK.nd rfl (Or.inl rfl))) (fun _ _ _ _ _ => by exact (pts_one (pt_cmpR (op_neD hr.units) (pe_useG ULtold hgd' hr (by rfl) (pa_cons (pv 4) (pa_cons (pe_lst (pa_cons (pv 2) (pa_cons (pv 3) (pa_cons pe_non (pa_cons pe_non pa_nil))))) pa_nil))) (pe_useG ULonly hgd' (hr.mono (by decide)) (by rfl) (pa_cons pe_int (pa_cons (pv 2) pa_nil))) (nomark _))))
            (fun _ _ _ _ _ => by exact (pv 4))) (pe_lst pa_nil) (nomark _))
            (pss_one (ps_ret pe_bl)) pss_nil)))))
      (pss_cons (ps_for PassesOwn.never rfl (pi_list (pd_list (pds_cons (pd_non pe_non) (pds_cons (pd_list pds_nil (fun _ => by show 0 ≤ sizeLine; decide)) (pds_cons (pd_list (pds_cons (pd_list (pds_cons (pd_int pe_int) pds_nil) (fun _ => by show 1 ≤ sizeLine; decide)) pds_nil) (fun _ => by show 1 ≤ sizeLine; decide)) (pds_cons (pd_list (pds_cons (pd_list pds_nil (fun _ => by show 0 ≤ sizeLine; decide)) (pds_cons (pd_list (pds_cons (pd_int pe_int) pds_nil) (fun _ => by show 1 ≤ sizeLine; decide)) (pds_cons (pd_list (pds_cons (pd_int pe_int) pds_nil) (fun _ => by show 1 ≤ sizeLine; decide)) pds_nil))) (fun _ => by show 3 ≤ sizeLine; decide)) (pds_cons (pd_list (pds_cons (pd_list pds_nil (fun _ => by show 0 ≤ sizeLine; decide)) (pds_cons (pd_list (pds_cons (pd_int pe_int) pds_nil) (fun _ => by show 1 ≤ sizeLine; decide)) pds_nil)) (fun _ => by show 2 ≤ sizeLine; decide)) (pds_cons (pd_list (pds_cons (pd_list pds_nil (fun _ => by show 0 ≤ sizeLine; decide)) (pds_cons (pd_list (pds_cons (pd_bl pe_bl) pds_nil) (fun _ => by show 1 ≤ sizeLine; decide)) pds_nil)) (fun _ => by show 2 ≤ sizeLine; decide)) (pds_cons (pd_list (pds_cons (pd_list pds_nil (fun _ => by show 0 ≤ sizeLine; decide)) (pds_cons (pd_list (pds_cons (pd_str pe_str) pds_nil) (fun _ => by show 1 ≤ sizeLine; decide)) pds_nil)) (fun _ => by show 2 ≤ sizeLine; decide)) (pds_cons (pd_tup pds_nil (fun _ => by show 0 ≤ sizeLine; decide)) (pds_cons (pd_tup (pds_cons (pd_list pds_nil (fun _ => by show 0 ≤ sizeLine; decide)) pds_nil) (fun _ => by show 1 ≤ sizeLine; decide)) (pds_cons (pd_int pe_int) (pds_cons (pd_of (pe_op op_cat (pe_lst (pa_cons (pe_lst pa_nil) pa_nil)) (pe_lc (own := [("_law_person", 5)]) (g := (gName 5)) (tt := tYes) (te := (tOp rRep (tLst (tCons (tC (.int 0)) tNil)) (tVar 5))) rfl scRightK.nd (pi_range2 (by rfl) T.range (pa_cons pe_int (pa_cons pe_int pa_nil)))
            (blkOk_by (N := nRightK) (sc := (defScope sRightK)) (by decide +kernel)) (fun _ _ _ _ _ => (pg_name (i := 5) scRightK.nd rfl (Or.inl rfl))) (fun _ _ _ _ _ => by exact pts_nil)
            (fun _ _ _ _ _ => by exact (pe_op op_rep (pe_lst (pa_cons pe_int pa_nil)) (pv 5))))) (rows1_w (k := 5))) (pds_cons (pd_list (pds_cons (pd_list pds_nil (fun _ => by show 0 ≤ sizeLine; decide)) (pds_cons (pd_tup (pds_cons (pd_int pe_int) pds_nil) (fun _ => by show 1 ≤ sizeLine; decide)) pds_nil)) (fun _ => by show 2 ≤ sizeLine; decide)) pds_nil)))))))))))) (fun _ => by show 12 ≤ sizeLine; decide))) (pg_name (i := 2) scRightK.nd rfl (Or.inr rfl))
        (pss_one (ps_for PassesOwn.never rfl (pi_list (pe_lst (pa_cons pe_non (pa_cons (pv 1) pa_nil)))) (pg_name (i := 3) scRightK.nd rfl (Or.inr rfl))
          (pss_one (ps_if (pt_cmpR (op_neNil hr.units) (pe_lc (own := [("_law_door", 4)]) (g := (gName 4)) (tt := (tTest (tOp (rNeD K) (tCall (spTold K er) [] E0 (tCons (tVar 4) (tCons (tLst (tCons (tC (.int 2)) (tCons (tVar 2) (tCons (tVar 3) (tCons (tC .non) tNil))))) tNil))) (tCall (spOnly K) [] E0 (tCons (tC (.int 1)) (tCons (tVar 2) tNil)))))) (te := (tVar 4)) rfl scRightK.nd (pi_list (pd_list (pds_cons (pd_int pe_int) (pds_cons (pd_int pe_int) (pds_cons (pd_int pe_int) pds_nil))) (fun _ => by show 3 ≤ sizeLine; decide)))
            (blkOk_by (N := nRightK) (sc := (defScope sRightK)) (by decide +kernel)) (fun _ _ _ _ _ => (pg_name (i := 4) scRightK.nd rfl (Or.inl rfl))) (fun _ _ _ _ _ => by exact (pts_one (pt_cmpR (op_neD hr.units) (pe_useG ULtold hgd' hr (by rfl) (pa_cons (pv 4) (pa_cons (pe_lst (pa_cons pe_int (pa_cons (pv 2) (pa_cons (pv 3) (pa_cons pe_non pa_nil))))) pa_nil))) (pe_useG ULonly hgd' (hr.mono (by decide)) (by rfl) (pa_cons pe_int (pa_cons (pv 2) pa_nil))) (nomark _))))
            (fun _ _ _ _ _ => by exact (pv 4))) (pe_lst pa_nil) (nomark _))
            (pss_one (ps_ret pe_bl)) pss_nil)))))
      (pss_one (ps_ret pe_bl)))), ?_⟩
    refine ⟨(by repeat' (first | exact trivial | exact ⟨_, rfl⟩ | refine ⟨?_, ?_⟩)), fun v1 H1 s1 d1 => ?_⟩
    obtain ⟨a1, x1, rfl, h1, dx1⟩ := dt_list d1
    replace h1 := newH_le _ _ h1
    replace dx1 := Dts.same newH_le _ _ dx1
    refine ⟨a1, rfl, ⟨_, SqL.of h1⟩, ?_⟩
    refine for_list (K := K) (a := a1) (xs := x1) (fun i σ H' => ∃ z2 z3 : Option V, σ = [some (.ref c), some (.ref p), z2, z3, none, none] ∧ Same H1 H') ⟨_, _, rfl, Same.refl _⟩ (fun i σ H' _ z => by
      obtain ⟨_, _, _, s'⟩ := z
      exact SqL.of (s' _ _ h1)) ?_ ?_
    · rintro i x σ H2 hi ⟨z2, z3, rfl, s2⟩
      obtain ⟨d, ed, dt0⟩ := dx1.get hi
      obtain ⟨kf, sm⟩ : kindsD d = false ∧ Sm d := by
        have key : (([.none, .int 1, .int 10, .int 0, .int (-2), .bool true, .str "2", .list [.int 2], .int (10 ^ (29 : Int).toNat)] : List PyData).all fun d => (!kindsD d) && (niceB 2 d && texD d)) = true := by decide +kernel
        have z := List.all_eq_true.mp key d (List.mem_of_getElem? ed)
        simp only [Bool.and_eq_true, Bool.not_eq_true'] at z
        exact ⟨z.1, sm_of (nice_of z.2.1) z.2.2⟩
      have dt := dt0.same s2
      have R2 := r.same (s1.trans s2)
      refine gName_by ?_
      refine ⟨_, rfl, (by show 2 ≤ sizeLine; decide), fun lo hlo => ?_⟩
      obtain ⟨HL, eL, sL, fL⟩ := gen H2 hlo (.lst [.non, .ref c])
      rw [eL]
      clear eL
      refine ⟨lo, rfl, ⟨_, SqL.of fL⟩, ?_⟩
      refine for_list (K := K) (a := lo) (xs := [.non, .ref c]) (fun i σ H' => ∃ z3 : Option V, σ = [some (.ref c), some (.ref p), some x, z3, none, none] ∧ Same HL H') ⟨_, rfl, Same.refl _⟩ (fun i σ H' _ z => by
        obtain ⟨_, _, s'⟩ := z
        exact SqL.of (s' _ _ fL)) ?_ ?_
      · rintro jo o σ HM hjo ⟨z3, rfl, sM⟩
        have S := sL.trans sM
        obtain ⟨od, dto, so⟩ : ∃ od, Dt K H2 o od ∧ Sm od := by
          match jo, hjo with
          | 0, hjo =>
            cases hjo
            exact ⟨_, .non, sm_non⟩
          | 1, hjo =>
            cases hjo
            exact ⟨_, R2.t.dt, R2.smc⟩
        refine gName_by ?_
        refine if_of ?_
        refine told_list (c := "InvalidNumber") (dv := d) (n := 0) (js := List.range 14 ++ [15]) ?_ ?_ ?_ ?_ sm rfl ?_ ?_
        · intro Q' z
          refine ⟨_, rfl, RgOk.of_le (by decide) (by decide) (by decide) (by decide), fun l hl => lit_nums (js := [15]) (by repeat' (first | exact trivial | exact ⟨_, rfl⟩ | refine ⟨?_, ?_⟩)) rfl fun l2 J sJ h2 => ?_⟩
          refine ⟨l, l2, _, _, rfl, rfl, sJ _ _ upd_same, h2, (by rw [sizeLine_eq]; decide), fun pp hpp => z pp _ ((same_new hl).trans (sJ.trans (same_new hpp))) ?_⟩
          rw [upd_same, show rgV 0 14 = natV (List.range 14) from rg_nat 14]
          unfold natV
          rw [List.map_append]
        · exact fun _ => ⟨rfl, rfl⟩
        · intro j H' Q' jm s z
          have hj : j < 14 ∨ j = 15 := by
            rcases List.mem_append.mp jm with h | h
            · exact .inl (List.mem_range.mp h)
            · exact .inr (List.mem_singleton.mp h)
          exact ⟨_, rfl, _, rfl, lst_args ((kinds_door hj dt dto .non .non sm so sm_non sm_non kf).later (S.trans s)) z⟩
        · exact fun j H' Q' s z => ⟨_, rfl, z _ _ (Same.refl _) (dt.same (S.trans s))⟩
        · intro j jm
          rcases List.mem_append.mp jm with h | h
          · have := List.mem_range.mp h
            omega
          · rw [List.mem_singleton] at h
            omega
        intro HN sN
        exact iteF ⟨_, rfl, sM.trans sN⟩
      rintro σ HM ⟨z4, rfl, sM⟩
      exact ⟨_, _, rfl, s2.trans (sL.trans sM)⟩
    rintro σ H2 ⟨z2, z3, rfl, s2⟩
    dsimp only
    have S02 := s1.trans s2
    refine tSeq_of ?_
    refine ⟨by repeat' (first | exact trivial | exact ⟨_, rfl⟩ | (show 5 < 6; decide) | refine ⟨?_, ?_⟩), fun v3 H3 s3 d3 => ?_⟩
    obtain ⟨a3, x3, rfl, h3, dx3⟩ := dt_list d3
    replace h3 := newH_le _ _ h3
    replace dx3 := Dts.same newH_le _ _ dx3
    refine ⟨a3, rfl, ⟨_, SqL.of h3⟩, ?_⟩
    refine for_list (K := K) (a := a3) (xs := x3) (fun i σ H' => ∃ z2 z3 : Option V, σ = [some (.ref c), some (.ref p), z2, z3, none, none] ∧ Same H3 H') ⟨_, _, rfl, Same.refl _⟩ (fun i σ H' _ z => by
      obtain ⟨_, _, _, s'⟩ := z
      exact SqL.of (s' _ _ h3)) ?_ ?_
    · rintro i x σ H4 hi ⟨z2, z3, rfl, s4⟩
      obtain ⟨d, ed, dt0⟩ := dx3.get hi
      obtain ⟨cf, sm⟩ : compOk 2 d = false ∧ Sm d := by
        have key : (([.none, .list [], .list [.list [.int 0]], .list [.list [], .list [.int 0], .list [.int 0]], .list [.list [], .list [.int 2]], .list [.list [], .list [.bool true]], .list [.list [], .list [.str "0"]], .tuple [], .tuple [.list []], .int 5, rows0 41, .list [.list [], .tuple [.int 0]]] : List PyData).all fun d => (!compOk 2 d) && (niceB 2 d && texD d)) = true := by decide +kernel
        have z := List.all_eq_true.mp key d (List.mem_of_getElem? ed)
        simp only [Bool.and_eq_true, Bool.not_eq_true'] at z
        exact ⟨z.1, sm_of (nice_of z.2.1) z.2.2⟩
      have dt := dt0.same s4
      have R4 := r.same (S02.trans (s3.trans s4))
      refine gName_by ?_
      refine ⟨_, rfl, (by show 2 ≤ sizeLine; decide), fun lo hlo => ?_⟩
      obtain ⟨HL, eL, sL, fL⟩ := gen H4 hlo (.lst [.non, .ref p])
      rw [eL]
      clear eL
      refine ⟨lo, rfl, ⟨_, SqL.of fL⟩, ?_⟩
      refine for_list (K := K) (a := lo) (xs := [.non, .ref p]) (fun i σ H' => ∃ z3 : Option V, σ = [some (.ref c), some (.ref p), some x, z3, none, none] ∧ Same HL H') ⟨_, rfl, Same.refl _⟩ (fun i σ H' _ z => by
        obtain ⟨_, _, s'⟩ := z
        exact SqL.of (s' _ _ fL)) ?_ ?_
      · rintro jo o σ HM hjo ⟨z3, rfl, sM⟩
        have S := sL.trans sM
        obtain ⟨od, dto, so⟩ : ∃ od, Dt K H4 o od ∧ Sm od := by
          match jo, hjo with
          | 0, hjo =>
            cases hjo
            exact ⟨_, .non, sm_non⟩
          | 1, hjo =>
            cases hjo
            exact ⟨_, R4.dtp, R4.smp⟩
        have A : ∀ j ∈ ([0, 1, 3] : List Nat), ArgsP K er j H4 [.int 2, x, o, .non] d "InvalidCompany" := fun j jm => by
          simp only [List.mem_cons, List.not_mem_nil, or_false] at jm
          rcases jm with rfl | rfl | rfl
          all_goals exact args_by (by decide) (by simp [arity]) (.cons (.int 2) (.cons dt (.cons dto (.cons .non .nil)))) (by simp) (sms4 (sm_int (by decide) (by decide)) sm so sm_non) dt (fb1 (by show kindsD (.int 2) = true; decide +kernel) (fb0 cf))
        refine gName_by ?_
        refine if_of ?_
        refine told_list (c := "InvalidCompany") (dv := d) (n := 1) (js := [0, 1, 3]) ?_ ?_ ?_ ?_ sm rfl (by decide) ?_
        · exact fun Q' z => lit_nums (by repeat' (first | exact trivial | exact ⟨_, rfl⟩ | refine ⟨?_, ?_⟩)) rfl z
        · exact fun _ => ⟨rfl, rfl⟩
        · exact fun j H' Q' jm s z => ⟨_, rfl, _, rfl, lst_args ((A j jm).later (S.trans s)) z⟩
        · exact fun j H' Q' s z => ⟨_, rfl, z _ _ (Same.refl _) (dt.same (S.trans s))⟩
        intro HN sN
        exact iteF ⟨_, rfl, sM.trans sN⟩
      rintro σ HM ⟨z4, rfl, sM⟩
      exact ⟨_, _, rfl, s4.trans (sL.trans sM)⟩
    rintro σ H4 ⟨z2, z3, rfl, s4⟩
    exact q _ (S02.trans (s3.trans s4))
noncomputable abbrev sRightL : Stmt := topS 119
noncomputable abbrev nRightL : List Str := ["_law_kinds", "_law_bad", "_law_other", "_law_wrong"]
theorem scRightL : FnScope nRightL ["_law_kinds"] (defScope sRightL) := ⟨rfl, rfl, rfl, by decide +kernel, rfl, by decide +kernel, by decide +kernel⟩
theorem ok_rightL {f : Addr} {fd : FuncData} (F : Fun K "_law_lots_right" "_law_lots_right" sRightL f fd) (T : Bi mg) (ULtold : UseG P w K mg base "_law_told" ["_law_door", "_law_args"] (spTold K er) 10) (ULonly : UseG P w K mg base "_law_only" ["_law_at", "_law_value"] (spOnly K) 2) : FnG P w K mg base CX0 11 f fd ["_law_kinds"] (spRightL K er) := by
  refine FnG.mk' F scRightL (fun vs H Q E h => ?_) (fun cdv A outer s H vs Q E hgd hr h => ?_)
  · obtain ⟨k, rfl, _⟩ := h
    rfl
  · obtain ⟨k, rfl, k2, k4, q⟩ := h
    have hgd' : (A.deeper (envOfC "_law_lots_right" (defScope sRightL) s.heap.objs.size f cdv)).guards = some [] := hgd
    refine ⟨_, (pss_cons (ps_for PassesOwn.never rfl (pi_list (pd_list (pds_cons (pd_non pe_non) (pds_cons (pd_list pds_nil (fun _ => by show 0 ≤ sizeLine; decide)) (pds_cons (pd_tup pds_nil (fun _ => by show 0 ≤ sizeLine; decide)) (pds_cons (pd_tup (pds_cons (pd_int pe_int) (pds_cons (pd_int pe_int) pds_nil)) (fun _ => by show 2 ≤ sizeLine; decide)) (pds_cons (pd_list (pds_cons (pd_int pe_int) (pds_cons (pd_int pe_int) pds_nil)) (fun _ => by show 2 ≤ sizeLine; decide)) (pds_cons (pd_list (pds_cons (pd_int pe_int) (pds_cons (pd_int pe_int) pds_nil)) (fun _ => by show 2 ≤ sizeLine; decide)) (pds_cons (pd_list (pds_cons (pd_int pe_int) (pds_cons (pd_int pe_int) pds_nil)) (fun _ => by show 2 ≤ sizeLine; decide)) (pds_cons (pd_list (pds_cons (pd_neg (pe_un un_neg pe_int)) pds_nil) (fun _ => by show 1 ≤ sizeLine; decide)) (pds_cons (pd_list (pds_cons (pd_bl pe_bl) pds_nil) (fun _ => by show 1 ≤ sizeLine; decide)) (pds_cons (pd_list (pds_cons (pd_str pe_str) pds_nil) (fun _ => by show 1 ≤ sizeLine; decide)) (pds_cons (pd_int pe_int) (pds_cons (pd_dct pe_dnewK) (pds_cons (pd_list (pds_cons (pd_non pe_non) pds_nil) (fun _ => by show 1 ≤ sizeLine; decide)) (pds_cons (pd_list (pds_cons (pd_int pe_int) (pds_cons (pd_list (pds_cons (pd_int pe_int) pds_nil) (fun _ => by show 1 ≤ sizeLine; decide)) pds_nil)) (fun _ => by show 2 ≤ sizeLine; decide)) pds_nil)))))))))))))) (fun _ => by show 14 ≤ sizeLine; decide))) (pg_name (i := 1) scRightL.nd rfl (Or.inl rfl))
        (pss_cons (ps_for PassesOwn.never rfl (pi_list (pd_list (pds_cons (pd_non pe_non) (pds_cons (pd_list pds_nil (fun _ => by show 0 ≤ sizeLine; decide)) pds_nil)) (fun _ => by show 2 ≤ sizeLine; decide))) (pg_name (i := 2) scRightL.nd rfl (Or.inl rfl))
          (pss_one (ps_if (PW.pt (pw_or (pt_cmpR (op_neD hr.units) (pe_useG ULtold hgd' hr (by rfl) (pa_cons pe_int (pa_cons (pe_lst (pa_cons (pv 0) (pa_cons (pv 1) (pa_cons (pv 2) (pa_cons pe_non pa_nil))))) pa_nil))) (pe_useG ULonly hgd' (hr.mono (by decide)) (by rfl) (pa_cons pe_int (pa_cons (pv 1) pa_nil))) (nomark _)) (pw_or1 (pt_cmpR (op_neD hr.units) (pe_useG ULtold hgd' hr (by rfl) (pa_cons pe_int (pa_cons (pe_lst (pa_cons (pv 0) (pa_cons (pv 1) (pa_cons (pv 2) pa_nil)))) pa_nil))) (pe_useG ULonly hgd' (hr.mono (by decide)) (by rfl) (pa_cons pe_int (pa_cons (pv 1) pa_nil))) (nomark _)))))
            (pss_one (ps_ret pe_bl)) pss_nil)))
        (pss_one (ps_if (pt_cmpR (op_neD hr.units) (pe_useG ULtold hgd' hr (by rfl) (pa_cons pe_int (pa_cons (pe_lst (pa_cons (pv 0) (pa_cons (pv 1) pa_nil))) pa_nil))) (pe_useG ULonly hgd' (hr.mono (by decide)) (by rfl) (pa_cons pe_int (pa_cons (pv 1) pa_nil))) (nomark _))
          (pss_one (ps_ret pe_bl)) pss_nil))))
      (pss_cons (ps_set (i := 3) scRightL.nd rfl (Or.inl rfl) (pd_list (pds_cons (pd_non pe_non) (pds_cons (pd_tup pds_nil (fun _ => by show 0 ≤ sizeLine; decide)) (pds_cons (pd_dct pe_dnewK) (pds_cons (pd_int pe_int) (pds_cons (pd_list (pds_cons (pd_tup (pds_cons (pd_int pe_int) (pds_cons (pd_int pe_int) pds_nil)) (fun _ => by show 2 ≤ sizeLine; decide)) pds_nil) (fun _ => by show 1 ≤ sizeLine; decide)) (pds_cons (pd_list (pds_cons (pd_tup (pds_cons (pd_int pe_int) (pds_cons (pd_int pe_int) (pds_cons (pd_int pe_int) pds_nil))) (fun _ => by show 3 ≤ sizeLine; decide)) pds_nil) (fun _ => by show 1 ≤ sizeLine; decide)) (pds_cons (pd_list (pds_cons (pd_tup (pds_cons (pd_int pe_int) (pds_cons (pd_int pe_int) (pds_cons (pd_int pe_int) pds_nil))) (fun _ => by show 3 ≤ sizeLine; decide)) pds_nil) (fun _ => by show 1 ≤ sizeLine; decide)) (pds_cons (pd_list (pds_cons (pd_tup (pds_cons (pd_int pe_int) (pds_cons (pd_int pe_int) (pds_cons (pd_var (pv 0)) pds_nil))) (fun _ => by show 3 ≤ sizeLine; decide)) pds_nil) (fun _ => by show 1 ≤ sizeLine; decide)) (pds_cons (pd_list (pds_cons (pd_tup (pds_cons (pd_int pe_int) (pds_cons (pd_int pe_int) (pds_cons (pd_int pe_int) pds_nil))) (fun _ => by show 3 ≤ sizeLine; decide)) pds_nil) (fun _ => by show 1 ≤ sizeLine; decide)) (pds_cons (pd_list (pds_cons (pd_tup (pds_cons (pd_int pe_int) (pds_cons (pd_int pe_int) (pds_cons (pd_bl pe_bl) pds_nil))) (fun _ => by show 3 ≤ sizeLine; decide)) pds_nil) (fun _ => by show 1 ≤ sizeLine; decide)) (pds_cons (pd_list (pds_cons (pd_list (pds_cons (pd_int pe_int) (pds_cons (pd_int pe_int) (pds_cons (pd_int pe_int) pds_nil))) (fun _ => by show 3 ≤ sizeLine; decide)) pds_nil) (fun _ => by show 1 ≤ sizeLine; decide)) (pds_cons (pd_list (pds_cons (pd_tup (pds_cons (pd_int pe_int) (pds_cons (pd_int pe_int) (pds_cons (pd_int pe_int) pds_nil))) (fun _ => by show 3 ≤ sizeLine; decide)) (pds_cons (pd_tup (pds_cons (pd_int pe_int) (pds_cons (pd_int pe_int) (pds_cons (pd_int pe_int) pds_nil))) (fun _ => by show 3 ≤ sizeLine; decide)) pds_nil)) (fun _ => by show 2 ≤ sizeLine; decide)) (pds_cons (pd_of (pe_op op_rep (pe_lst (pa_cons (pe_tup (pa_cons pe_int (pa_cons pe_int (pa_cons pe_int pa_nil)))) pa_nil)) pe_int) rep2_w) pds_nil))))))))))))) (fun _ => by show 13 ≤ sizeLine; decide)))
      (pss_cons (ps_set (i := 3) scRightL.nd rfl (Or.inl rfl) (pe_op op_cat (pv 3) (pd_list (pds_cons (pd_list (pds_cons (pd_tup (pds_cons (pd_bl pe_bl) (pds_cons (pd_int pe_int) (pds_cons (pd_int pe_int) pds_nil))) (fun _ => by show 3 ≤ sizeLine; decide)) pds_nil) (fun _ => by show 1 ≤ sizeLine; decide)) (pds_cons (pd_list (pds_cons (pd_tup (pds_cons (pd_int pe_int) (pds_cons (pd_int pe_int) (pds_cons (pd_int pe_int) pds_nil))) (fun _ => by show 3 ≤ sizeLine; decide)) pds_nil) (fun _ => by show 1 ≤ sizeLine; decide)) (pds_cons (pd_list (pds_cons (pd_tup (pds_cons (pd_int pe_int) (pds_cons (pd_int pe_int) (pds_cons (pd_int pe_int) pds_nil))) (fun _ => by show 3 ≤ sizeLine; decide)) (pds_cons (pd_tup (pds_cons (pd_int pe_int) (pds_cons (pd_int pe_int) (pds_cons (pd_int pe_int) pds_nil))) (fun _ => by show 3 ≤ sizeLine; decide)) pds_nil)) (fun _ => by show 2 ≤ sizeLine; decide)) (pds_cons (pd_list (pds_cons (pd_tup (pds_cons (pd_int pe_int) (pds_cons (pd_int pe_int) (pds_cons (pd_int pe_int) pds_nil))) (fun _ => by show 3 ≤ sizeLine; decide)) (pds_cons (pd_tup (pds_cons (pd_int pe_int) (pds_cons (pd_int pe_int) (pds_cons (pd_int pe_int) pds_nil))) (fun _ => by show 3 ≤ sizeLine; decide)) pds_nil)) (fun _ => by show 2 ≤ sizeLine; decide)) (pds_cons (pd_list (pds_cons (pd_tup (pds_cons (pd_non pe_non) (pds_cons (pd_int pe_int) (pds_cons (pd_int pe_int) pds_nil))) (fun _ => by show 3 ≤ sizeLine; decide)) pds_nil) (fun _ => by show 1 ≤ sizeLine; decide)) (pds_cons (pd_list (pds_cons (pd_tup (pds_cons (pd_int pe_int) (pds_cons (pd_int pe_int) (pds_cons (pd_int pe_int) pds_nil))) (fun _ => by show 3 ≤ sizeLine; decide)) (pds_cons (pd_non pe_non) pds_nil)) (fun _ => by show 2 ≤ sizeLine; decide)) (pds_cons (pd_list (pds_cons (pd_tup (pds_cons (pd_list (pds_cons (pd_int pe_int) pds_nil) (fun _ => by show 1 ≤ sizeLine; decide)) (pds_cons (pd_int pe_int) (pds_cons (pd_int pe_int) pds_nil))) (fun _ => by show 3 ≤ sizeLine; decide)) pds_nil) (fun _ => by show 1 ≤ sizeLine; decide)) pds_nil))))))) (fun _ => by show 7 ≤ sizeLine; decide))))
      (pss_cons (ps_if (pt_cmpR (op_neD hr.units) (pe_useG ULtold hgd' hr (by rfl) (pa_cons pe_int (pa_cons (pe_lst (pa_cons pe_int (pa_cons (pe_listRg rfl (by rfl) T.list (prg_1 (by rfl) T.range pe_int)) (pa_cons (pd_list (pds_cons (pd_tup (pds_cons (pd_int pe_int) (pds_cons (pd_int pe_int) (pds_cons (pd_int pe_int) pds_nil))) (fun _ => by show 3 ≤ sizeLine; decide)) pds_nil) (fun _ => by show 1 ≤ sizeLine; decide)) (pa_cons pe_non pa_nil))))) pa_nil))) (pe_useG ULonly hgd' (hr.mono (by decide)) (by rfl) (pa_cons pe_int (pa_cons (pd_list (pds_cons (pd_tup (pds_cons (pd_int pe_int) (pds_cons (pd_int pe_int) (pds_cons (pd_int pe_int) pds_nil))) (fun _ => by show 3 ≤ sizeLine; decide)) pds_nil) (fun _ => by show 1 ≤ sizeLine; decide)) pa_nil))) (nomark _))
        (pss_one (ps_ret pe_bl)) pss_nil)
      (pss_cons (ps_set (i := 3) scRightL.nd rfl (Or.inl rfl) (pe_op op_cat (pv 3) (pd_list (pds_cons (pd_list (pds_cons (pd_tup (pds_cons (pd_int pe_int) (pds_cons (pd_int pe_int) (pds_cons (pd_str pe_str) pds_nil))) (fun _ => by show 3 ≤ sizeLine; decide)) pds_nil) (fun _ => by show 1 ≤ sizeLine; decide)) (pds_cons (pd_list (pds_cons (pd_non pe_non) pds_nil) (fun _ => by show 1 ≤ sizeLine; decide)) (pds_cons (pd_list (pds_cons (pd_tup (pds_cons (pd_int pe_int) (pds_cons (pd_int pe_int) (pds_cons (pd_int pe_int) pds_nil))) (fun _ => by show 3 ≤ sizeLine; decide)) (pds_cons (pd_tup (pds_cons (pd_int pe_int) (pds_cons (pd_int pe_int) (pds_cons (pd_int pe_int) pds_nil))) (fun _ => by show 3 ≤ sizeLine; decide)) pds_nil)) (fun _ => by show 2 ≤ sizeLine; decide)) (pds_cons (pd_list (pds_cons (pd_tup (pds_cons (pd_int pe_int) (pds_cons (pd_int pe_int) (pds_cons (pd_int pe_int) pds_nil))) (fun _ => by show 3 ≤ sizeLine; decide)) (pds_cons (pd_tup (pds_cons (pd_int pe_int) (pds_cons (pd_int pe_int) (pds_cons (pd_int pe_int) pds_nil))) (fun _ => by show 3 ≤ sizeLine; decide)) pds_nil)) (fun _ => by show 2 ≤ sizeLine; decide)) (pds_cons (pd_list (pds_cons (pd_tup (pds_cons (pd_int pe_int) (pds_cons (pd_int pe_int) (pds_cons (pd_int pe_int) pds_nil))) (fun _ => by show 3 ≤ sizeLine; decide)) pds_nil) (fun _ => by show 1 ≤ sizeLine; decide)) (pds_cons (pd_list (pds_cons (pd_tup (pds_cons (pd_int pe_int) (pds_cons (pd_int pe_int) (pds_cons (pd_int pe_int) (pds_cons (pd_int pe_int) pds_nil)))) (fun _ => by show 4 ≤ sizeLine; decide)) pds_nil) (fun _ => by show 1 ≤ sizeLine; decide)) (pds_cons (pd_list (pds_cons (pd_tup (pds_cons (pd_int pe_int) (pds_cons (pd_int pe_int) (pds_cons (pd_non pe_non) pds_nil))) (fun _ => by show 3 ≤ sizeLine; decide)) pds_nil) (fun _ => by show 1 ≤ sizeLine; decide)) pds_nil))))))) (fun _ => by show 7 ≤ sizeLine; decide))))
      (pss_cons (ps_for PassesOwn.never rfl (pi_list (pv 3)) (pg_name (i := 1) scRightL.nd rfl (Or.inl rfl))
        (pss_one (ps_for PassesOwn.never rfl (pi_list (pd_list (pds_cons (pd_non pe_non) (pds_cons (pd_list pds_nil (fun _ => by show 0 ≤ sizeLine; decide)) pds_nil)) (fun _ => by show 2 ≤ sizeLine; decide))) (pg_name (i := 2) scRightL.nd rfl (Or.inl rfl))
          (pss_one (ps_if (pt_cmpR (op_neD hr.units) (pe_useG ULtold hgd' hr (by rfl) (pa_cons pe_int (pa_cons (pe_lst (pa_cons (pv 0) (pa_cons (pd_list (pds_cons (pd_int pe_int) (pds_cons (pd_int pe_int) (pds_cons (pd_int pe_int) (pds_cons (pd_int pe_int) pds_nil)))) (fun _ => by show 4 ≤ sizeLine; decide)) (pa_cons (pv 1) (pa_cons (pv 2) pa_nil))))) pa_nil))) (pe_useG ULonly hgd' (hr.mono (by decide)) (by rfl) (pa_cons pe_int (pa_cons (pv 1) pa_nil))) (nomark _))
            (pss_one (ps_ret pe_bl)) pss_nil)))))
      (pss_one (ps_ret pe_bl)))))))), ?_⟩
    have kd : kindsD (.int k) = true := kinds_d k2 (by omega)
    have smk : Sm (.int k) := sm_int (by omega) (by omega)
    have sme : Sm (.list []) := sm_of (nice_of (by decide +kernel)) (by decide +kernel)
    refine ⟨(by repeat' (first | exact trivial | exact ⟨_, rfl⟩ | refine ⟨?_, ?_⟩)), fun v1 H1 s1 d1 => ?_⟩
    obtain ⟨a1, x1, rfl, h1, dx1⟩ := dt_list d1
    replace h1 := newH_le _ _ h1
    replace dx1 := Dts.same newH_le _ _ dx1
    refine ⟨a1, rfl, ⟨_, SqL.of h1⟩, ?_⟩
    refine for_list (K := K) (a := a1) (xs := x1) (fun i σ H' => ∃ z1 z2 : Option V, σ = [some (.int k), z1, z2, none] ∧ Same H1 H') ⟨_, _, rfl, Same.refl _⟩ (fun i σ H' _ z => by
      obtain ⟨_, _, _, s'⟩ := z
      exact SqL.of (s' _ _ h1)) ?_ ?_
    · rintro i x σ H2 hi ⟨z1, z2, rfl, s2⟩
      obtain ⟨d, ed, dt0⟩ := dx1.get hi
      obtain ⟨lf, sm⟩ : lotD 40 d = false ∧ Sm d := by
        have key : (([.none, .list [], .tuple [], .tuple [.int 0, .int 1], .list [.int 1, .int 0], .list [.int 0, .int 0], .list [.int 0, .int 40], .list [.int (-1)], .list [.bool true], .list [.str "0"], .int 5, .dict [], .list [.none], .list [.int 0, .list [.int 1]]] : List PyData).all fun d => (!lotD 40 d) && (niceB 2 d && texD d)) = true := by decide +kernel
        have z := List.all_eq_true.mp key d (List.mem_of_getElem? ed)
        simp only [Bool.and_eq_true, Bool.not_eq_true'] at z
        exact ⟨z.1, sm_of (nice_of z.2.1) z.2.2⟩
      have dt := dt0.same s2
      refine gName_by ?_
      refine tSeq_of ?_
      refine ⟨(by repeat' (first | exact trivial | exact ⟨_, rfl⟩ | refine ⟨?_, ?_⟩)), fun vo HL sL dL => ?_⟩
      obtain ⟨lo, xo, rfl, fL, dxo⟩ := dt_list dL
      replace fL := newH_le _ _ fL
      replace dxo := Dts.same newH_le _ _ dxo
      refine ⟨lo, rfl, ⟨_, SqL.of fL⟩, ?_⟩
      refine for_list (K := K) (a := lo) (xs := xo) (fun i σ H' => ∃ z2 : Option V, σ = [some (.int k), some x, z2, none] ∧ Same HL H') ⟨_, rfl, Same.refl _⟩ (fun i σ H' _ z => by
        obtain ⟨_, _, s'⟩ := z
        exact SqL.of (s' _ _ fL)) ?_ ?_
      · rintro jo o σ HM hjo ⟨z2, rfl, sM⟩
        obtain ⟨od, eo, dto0⟩ := dxo.get hjo
        have so : Sm od := by
          have m := List.mem_of_getElem? eo
          simp only [List.mem_cons, List.not_mem_nil, or_false] at m
          rcases m with rfl | rfl
          · exact sm_non
          · exact sme
        have dto := dto0.same sM
        have dtM := dt.same (sL.trans sM)
        have A : ArgsP K er 2 HM [.int k, x, o, .non] d "InvalidLot" := args_by (by decide) (by simp [arity]) (.cons (.int k) (.cons dtM (.cons dto (.cons .non .nil)))) (by simp) (sms4 smk sm so sm_non) dtM (fb1 kd (fb0 lf))
        have B : ArgsP K er 8 HM [.int k, x, o] d "InvalidLot" := args_by (by decide) (by simp [arity]) (.cons (.int k) (.cons dtM (.cons dto .nil))) (by simp) (sms3 smk sm so) dtM (fb1 kd (fb0 lf))
        refine gName_by ?_
        refine if_of (or_of (test_of ?_))
        refine told_ne (c := "InvalidLot") (dv := d) (n := 3) (d := 2) ?_ ?_ ?_ sm rfl (by decide) ?_
        · exact fun _ _ z => z
        · exact fun Q' z => ⟨_, rfl, _, rfl, _, rfl, lst_args A z⟩
        · exact fun H' Q' s z => ⟨_, rfl, z _ _ (Same.refl _) (dtM.same s)⟩
        intro HN sN
        refine ⟨_, rfl, iteF (test_of ?_)⟩
        refine told_ne (c := "InvalidLot") (dv := d) (n := 3) (d := 8) ?_ ?_ ?_ sm rfl (by decide) ?_
        · exact fun _ _ z => z
        · exact fun Q' z => ⟨_, rfl, _, rfl, _, rfl, lst_args (B.later sN) z⟩
        · exact fun H' Q' s z => ⟨_, rfl, z _ _ (Same.refl _) (dtM.same (sN.trans s))⟩
        intro HO' sO
        exact ⟨_, rfl, iteF ⟨_, rfl, sM.trans (sN.trans sO)⟩⟩
      rintro σ HM ⟨z4, rfl, sM⟩
      have S := sL.trans sM
      dsimp only
      refine if_of (test_of ?_)
      have C : ArgsP K er 7 H2 [.int k, x] d "InvalidLot" := args_by (by decide) (by simp [arity]) (.cons (.int k) (.cons dt .nil)) (by simp) (sms2 smk sm) dt (fb1 kd (fb0 lf))
      refine told_ne (c := "InvalidLot") (dv := d) (n := 3) (d := 7) ?_ ?_ ?_ sm rfl (by decide) ?_
      · exact fun _ _ z => z
      · exact fun Q' z => ⟨_, rfl, _, rfl, lst_args (C.later S) z⟩
      · exact fun H' Q' s z => ⟨_, rfl, z _ _ (Same.refl _) (dt.same (S.trans s))⟩
      intro HN sN
      exact ⟨_, rfl, iteF ⟨_, _, rfl, s2.trans (S.trans sN)⟩⟩
    rintro σ H2 ⟨z1, z2, rfl, s2⟩
    dsimp only
    have S02 := s1.trans s2
    refine tSeq_of ?_
    refine ⟨(by repeat' (first | exact trivial | exact ⟨_, rfl⟩ | refine ⟨?_, ?_⟩)), fun v3 H3 s3 d3 => ?_⟩
    obtain ⟨a3, x3, rfl, h3, dx3⟩ := dt_list d3
    replace h3 := newH_le _ _ h3
    replace dx3 : Dts K H3 x3 (wrongA k) := Dts.same newH_le _ _ dx3
    have l3 : x3.length = 13 := dx3.length
    refine ⟨_, rfl, (by repeat' (first | exact trivial | exact ⟨_, rfl⟩ | refine ⟨?_, ?_⟩)), fun v4 H4 s4 d4 => ?_⟩
    obtain ⟨a4, x4, rfl, h4, dx4⟩ := dt_list d4
    replace h4 := newH_le _ _ h4
    replace dx4 : Dts K H4 x4 wrongB := Dts.same newH_le _ _ dx4
    have l4 : x4.length = 7 := dx4.length
    refine ⟨a3, a4, _, _, rfl, rfl, s4 _ _ h3, h4, (by rw [l3, l4, sizeLine_eq]; decide), fun a5 na5 => ?_⟩
    obtain ⟨H5, e5, s5, f5⟩ := gen H4 na5 (.lst (x3 ++ x4))
    rw [e5]
    clear e5
    have dx5 : Dts K H5 (x3 ++ x4) (wrongA k ++ wrongB) := Dts.app (Dts.same (s4.trans s5) _ _ dx3) (Dts.same s5 _ _ dx4)
    have S25 := s3.trans (s4.trans s5)
    -- forty people, a tie of a kind too great
    have sm39 : Sm (.list [.tuple [.int 0, .int 39, .int 9]]) := sm_of (nice_of (by decide +kernel)) (by decide +kernel)
    dsimp only
    refine if_of (test_of ?_)
    refine told_ne (c := "InvalidWishes") (dv := .list [.tuple [.int 0, .int 39, .int 9]]) (n := 4) (d := 2) ?_ ?_ ?_ sm39 rfl (by decide) ?_
    · exact fun _ _ z => z
    · intro Q' z
      refine ⟨_, rfl, RgOk.of_le (by decide) (by decide) (by decide) (by decide), fun l hl => ⟨(by repeat' (first | exact trivial | exact ⟨_, rfl⟩ | refine ⟨?_, ?_⟩)), fun v J sJ dJ => ?_⟩⟩
      have hl' : J l = some (.lst (natV (List.range 40))) := sJ _ _ (by rw [upd_same]; exact congrArg (fun z => some (HO.lst z)) (rg_nat 40))
      have dJ' := dJ.same newH_le
      have dr : Dt K J (.ref l) (rowP (nums (List.range 40))) := .lst hl' (dts_nat _)
      have smr : Sm (rowP (nums (List.range 40))) := sm_of (nice_of (by decide +kernel)) (by decide +kernel)
      have A : ArgsP K er 2 J [.int 9, .ref l, v, .non] (.list [.tuple [.int 0, .int 39, .int 9]]) "InvalidWishes" := args_by (by decide) (by simp [arity]) (.cons (.int 9) (.cons dr (.cons dJ' (.cons .non .nil)))) (by simp) (sms4 (sm_int (by decide) (by decide)) smr sm39 sm_non) dJ' (fb1 (by show kindsD (.int 9) = true; decide +kernel) (fb1 (by show lotD 40 (rowP (nums (List.range 40))) = true; decide +kernel) (fb0 (by show stateD 9 ((nums (List.range 40)).map PyData.int) (.list [.tuple [.int 0, .int 39, .int 9]]) = false; decide +kernel))))
      exact lst_args A fun a vs H' s' => z a vs H' ((same_new hl).trans (sJ.trans s'))
    · intro H' Q' s z
      exact ⟨(by repeat' (first | exact trivial | exact ⟨_, rfl⟩ | refine ⟨?_, ?_⟩)), fun v J sJ dJ => z v J sJ (dJ.same newH_le)⟩
    intro H6 s6
    refine ⟨_, rfl, iteF ?_⟩
    refine tNext_of ?_
    dsimp only
    refine tSeq_of ?_
    refine ⟨_, rfl, (by repeat' (first | exact trivial | exact ⟨_, rfl⟩ | refine ⟨?_, ?_⟩)), fun v7 H7 s7 d7 => ?_⟩
    obtain ⟨a7, x7, rfl, h7, dx7⟩ := dt_list d7
    replace h7 := newH_le _ _ h7
    replace dx7 : Dts K H7 x7 wrongC := Dts.same newH_le _ _ dx7
    have l7 : x7.length = 7 := dx7.length
    refine ⟨a5, a7, _, _, rfl, rfl, (s6.trans s7) _ _ f5, h7, (by rw [List.length_append, l3, l4, l7, sizeLine_eq]; decide), fun a8 na8 => ?_⟩
    obtain ⟨H8, e8, s8, f8⟩ := gen H7 na8 (.lst (x3 ++ x4 ++ x7))
    rw [e8]
    clear e8
    have S58 := s6.trans (s7.trans s8)
    have dx8 : Dts K H8 (x3 ++ x4 ++ x7) (wrongA k ++ wrongB ++ wrongC) := Dts.app (Dts.same S58 _ _ dx5) (Dts.same s8 _ _ dx7)
    have wok := wrong_ok k2 k4
    obtain ⟨xw, exw⟩ : ∃ xw, xw = x3 ++ x4 ++ x7 := ⟨_, rfl⟩
    rw [← exw] at f8 dx8
    refine ⟨_, rfl, a8, rfl, ⟨_, SqL.of f8⟩, ?_⟩
    refine for_list (K := K) (a := a8) (xs := xw) (fun i σ H' => ∃ z1 z2 : Option V, σ = [some (.int k), z1, z2, some (.ref a8)] ∧ Same H8 H') ⟨_, _, rfl, Same.refl _⟩ (fun i σ H' _ z => by
      obtain ⟨_, _, _, s'⟩ := z
      exact SqL.of (s' _ _ f8)) ?_ ?_
    · rintro i x σ H9 hi ⟨z1, z2, rfl, s9⟩
      obtain ⟨d, ed, dt0⟩ := dx8.get hi
      obtain ⟨sf, sm⟩ := wok d (List.mem_of_getElem? ed)
      have dt := dt0.same s9
      refine gName_by ?_
      refine ⟨(by repeat' (first | exact trivial | exact ⟨_, rfl⟩ | refine ⟨?_, ?_⟩)), fun vo HL sL dL => ?_⟩
      obtain ⟨lo, xo, rfl, fL, dxo⟩ := dt_list dL
      replace fL := newH_le _ _ fL
      replace dxo := Dts.same newH_le _ _ dxo
      refine ⟨lo, rfl, ⟨_, SqL.of fL⟩, ?_⟩
      refine for_list (K := K) (a := lo) (xs := xo) (fun i σ H' => ∃ z2 : Option V, σ = [some (.int k), some x, z2, some (.ref a8)] ∧ Same HL H') ⟨_, rfl, Same.refl _⟩ (fun i σ H' _ z => by
        obtain ⟨_, _, s'⟩ := z
        exact SqL.of (s' _ _ fL)) ?_ ?_
      · rintro jo o σ HM hjo ⟨z2, rfl, sM⟩
        obtain ⟨od, eo, dto0⟩ := dxo.get hjo
        have so : Sm od := by
          have m := List.mem_of_getElem? eo
          simp only [List.mem_cons, List.not_mem_nil, or_false] at m
          rcases m with rfl | rfl
          · exact sm_non
          · exact sme
        have dto := dto0.same sM
        have dtM := dt.same (sL.trans sM)
        refine gName_by ?_
        refine if_of (test_of ?_)
        refine told_ne (c := "InvalidWishes") (dv := d) (n := 4) (d := 2) ?_ ?_ ?_ sm rfl (by decide) ?_
        · exact fun _ _ z => z
        · exact fun Q' z => ⟨_, rfl, lit_nums (js := [0, 2, 5, 9]) (by repeat' (first | exact trivial | exact ⟨_, rfl⟩ | refine ⟨?_, ?_⟩)) rfl fun l0 J sJ h0 => ⟨_, rfl, _, rfl, lst_args (show ArgsP K er 2 J [.int k, .ref l0, x, o] d "InvalidWishes" from args_by (by decide) (by simp [arity]) (.cons (.int k) (.cons (.lst h0 (.cons (.int 0) (.cons (.int 2) (.cons (.int 5) (.cons (.int 9) .nil))))) (.cons (dtM.same sJ) (.cons (dto.same sJ) .nil)))) (by simp) (sms4 smk (sm_of (d := .list [.int 0, .int 2, .int 5, .int 9]) (nice_of (by decide +kernel)) (by decide +kernel)) sm so) (dtM.same sJ) (fb1 kd (fb1 (by show lotD 40 (.list [.int 0, .int 2, .int 5, .int 9]) = true; decide +kernel) (fb0 sf)))) fun a vs H' s' => z a vs H' (sJ.trans s')⟩⟩
        · exact fun H' Q' s z => ⟨_, rfl, z _ _ (Same.refl _) (dtM.same s)⟩
        intro HN sN
        exact ⟨_, rfl, iteF ⟨_, rfl, sM.trans sN⟩⟩
      rintro σ HM ⟨z4, rfl, sM⟩
      exact ⟨_, _, rfl, s9.trans (sL.trans sM)⟩
    rintro σ H9 ⟨z1, z2, rfl, s9⟩
    exact q _ (S02.trans (S25.trans (S58.trans s9)))
noncomputable abbrev sRightN : Stmt := topS 120
noncomputable abbrev nRightN : List Str := ["_law_kinds", "_law_company_here", "_law_program_here", "_law_bad", "_law_door", "_law_round_of", "_law_at", "_law_places", "_law_swapped"]
theorem scRightN : FnScope nRightN ["_law_kinds", "_law_company_here", "_law_program_here"] (defScope sRightN) := ⟨rfl, rfl, rfl, by decide +kernel, rfl, by decide +kernel, by decide +kernel⟩
theorem ok_rightN {f : Addr} {fd : FuncData} (F : Fun K "_law_numbers_right" "_law_numbers_right" sRightN f fd) (T : Bi mg) (ULtold : UseG P w K mg base "_law_told" ["_law_door", "_law_args"] (spTold K er) 10) (ULonly : UseG P w K mg base "_law_only" ["_law_at", "_law_value"] (spOnly K) 2) : FnG P w K mg base CX0 11 f fd ["_law_kinds", "_law_company_here", "_law_program_here"] (spRightN K er) := by
  refine FnG.mk' F scRightN (fun vs H Q E h => ?_) (fun cdv A outer s H vs Q E hgd hr h => ?_)
  · obtain ⟨k, c, p, rs, kss, xs, ts, rfl, _⟩ := h
    rfl
  · obtain ⟨k, c, p, rs, kss, xs, ts, rfl, r, q⟩ := h
    have hgd' : (A.deeper (envOfC "_law_numbers_right" (defScope sRightN) s.heap.objs.size f cdv)).guards = some [] := hgd
    refine ⟨_, (pss_cons (ps_for PassesOwn.never rfl (pi_list (pd_list (pds_cons (pd_non pe_non) (pds_cons (pd_neg (pe_un un_neg pe_int)) (pds_cons (pd_bl pe_bl) (pds_cons (pd_str pe_str) (pds_cons (pd_list (pds_cons (pd_int pe_int) pds_nil) (fun _ => by show 1 ≤ sizeLine; decide)) (pds_cons (pd_tup (pds_cons (pd_int pe_int) pds_nil) (fun _ => by show 1 ≤ sizeLine; decide)) pds_nil)))))) (fun _ => by show 6 ≤ sizeLine; decide))) (pg_name (i := 3) scRightN.nd rfl (Or.inr rfl))
        (pss_cons (ps_if (pt_cmpR (op_neD hr.units) (pe_useG ULtold hgd' hr (by rfl) (pa_cons pe_int (pa_cons (pe_lst (pa_cons (pv 0) (pa_cons (pv 1) (pa_cons (pv 2) (pa_cons (pv 3) pa_nil))))) pa_nil))) (pe_useG ULonly hgd' (hr.mono (by decide)) (by rfl) (pa_cons pe_int (pa_cons (pv 3) pa_nil))) (nomark _))
          (pss_one (ps_ret pe_bl)) pss_nil)
        (pss_one (ps_if (PW.pt (pw_or (pt_cmpR (op_neNil hr.units) (pe_lc (own := [("_law_door", 4)]) (g := (gName 4)) (tt := (tTest (tOp (rNeD K) (tCall (spTold K er) [] E0 (tCons (tVar 4) (tCons (tLst (tCons (tVar 0) (tCons (tVar 3) tNil))) tNil))) (tCall (spOnly K) [] E0 (tCons (tC (.int 0)) (tCons (tVar 3) tNil)))))) (te := (tVar 4)) rfl scRightN.nd (pi_list (pd_list (pds_cons (pd_int pe_int) (pds_cons (pd_int pe_int) pds_nil)) (fun _ => by show 2 ≤ sizeLine; decide)))
            (blkOk_by (N := nRightN) (sc := (defScope sRightN)) (by decide +kernel)) (fun _ _ _ _ _ => (pg_name (i := 4) scRightN.nd rfl (Or.inl rfl))) (fun _ _ _ _ _ => by exact (pts_one (pt_cmpR (op_neD hr.units) (pe_useG ULtold hgd' hr (by rfl) (pa_cons (pv 4) (pa_cons (pe_lst (pa_cons (pv 0) (pa_cons (pv 3) pa_nil))) pa_nil))) (pe_useG ULonly hgd' (hr.mono (by decide)) (by rfl) (pa_cons pe_int (pa_cons (pv 3) pa_nil))) (nomark _))))
            (fun _ _ _ _ _ => by exact (pv 4))) (pe_lst pa_nil) (nomark _)) (pw_or1 (pt_cmpR (op_neD hr.units) (pe_useG ULtold hgd' hr (by rfl) (pa_cons pe_int (pa_cons (pe_lst (pa_cons (pv 0) (pa_cons (pv 3) (pa_cons pe_non pa_nil)))) pa_nil))) (pe_useG ULonly hgd' (hr.mono (by decide)) (by rfl) (pa_cons pe_int (pa_cons (pv 3) pa_nil))) (nomark _)))))
          (pss_one (ps_ret pe_bl)) pss_nil))))
      (pss_cons (ps_setLc (i := 5) (own := [("_law_at", 6)]) (g := (gName 6)) (tt := tYes) (te := (tOp rCat (tOp rCat (tLst (tCons (tVar 6) tNil)) (tLstRg (tRg2 (tOp (rI0 fun i j => .int (i + j)) (tVar 6) (tC (.int 1))) (tVar 0)))) (tLstRg (tRg1 (tVar 6))))) rfl scRightN.nd rfl rfl (sw_true rfl rfl rfl (by decide +kernel)) (pi_range1 (by rfl) T.range (pa_cons (pv 0) pa_nil))
          (blkOk_by (N := nRightN) (sc := (defScope sRightN)) (by decide +kernel)) (fun _ _ _ _ _ => (pg_name (i := 6) scRightN.nd rfl (Or.inl rfl))) (fun _ _ _ _ _ => by exact pts_nil)
          (fun _ _ _ _ _ => by exact (pe_op op_cat (pe_op op_cat (pe_lst (pa_cons (pv 6) pa_nil)) (pe_listRg rfl (by rfl) T.list (prg_2 (by rfl) T.range (pe_op op_add (pv 6) pe_int) (pv 0)))) (pe_listRg rfl (by rfl) T.list (prg_1 (by rfl) T.range (pv 6))))))
      (pss_cons (ps_set (i := 7) scRightN.nd rfl (Or.inl rfl) (pe_listRg rfl (by rfl) T.list (prg_1 (by rfl) T.range (pe_op op_sub (pe_op op_mul pe_int (pv 0)) pe_int))))
      (pss_cons (ps_for PassesOwn.never rfl (pi_list (pe_lst (pa_cons pe_non (pa_cons (pe_lst pa_nil) (pa_cons (pe_tup pa_nil) (pa_cons pe_int (pa_cons (pe_op op_rep (pe_slice sl_list (pv 5) po_none (po_some pe_int)) pe_int) (pa_cons (pe_op op_rep (pe_lst (pa_cons (pe_ix ix_list (pv 5) pe_int (fun _ _ => rfl)) pa_nil)) pe_int) (pa_cons (pe_op op_cat (pe_op op_rep (pe_lst (pa_cons (pe_ix ix_list (pv 5) pe_int (fun _ _ => rfl)) pa_nil)) pe_int) (pe_lst (pa_cons (pe_op op_cat (pe_slice sl_list (pe_revL (pv 7)) po_none (po_some pe_int)) (pe_slice sl_list (pv 7) (po_some pe_int) po_none)) pa_nil))) (pa_cons (pe_op op_cat (pe_op op_rep (pe_lst (pa_cons (pe_ix ix_list (pv 5) pe_int (fun _ _ => rfl)) pa_nil)) pe_int) (pe_lst (pa_cons (pe_callTy call_tupL (by rfl) T.tuple (by decide +kernel) (pa_cons (pv 7) pa_nil)) pa_nil))) pa_nil)))))))))) (pg_name (i := 3) scRightN.nd rfl (Or.inr rfl))
        (pss_one (ps_if (pt_cmpR (op_neD hr.units) (pe_useG ULtold hgd' hr (by rfl) (pa_cons pe_int (pa_cons (pe_lst (pa_cons (pv 0) (pa_cons (pv 3) pa_nil))) pa_nil))) (pe_useG ULonly hgd' (hr.mono (by decide)) (by rfl) (pa_cons pe_int (pa_cons (pv 3) pa_nil))) (nomark _))
          (pss_one (ps_ret pe_bl)) pss_nil)))
      (pss_cons (ps_set (i := 8) scRightN.nd rfl (Or.inl rfl) (pe_op op_cat (pe_op op_rep (pe_lst (pa_cons (pe_ix ix_list (pv 5) pe_int (fun _ _ => rfl)) pa_nil)) pe_int) (pe_lst (pa_cons (pe_op op_cat (pd_list (pds_cons (pd_int pe_int) (pds_cons (pd_int pe_int) pds_nil)) (fun _ => by show 2 ≤ sizeLine; decide)) (pe_slice sl_list (pv 7) (po_some pe_int) po_none)) pa_nil))))
      (pss_cons (ps_if (pt_cmpR (op_neD hr.units) (pe_useG ULtold hgd' hr (by rfl) (pa_cons pe_int (pa_cons (pe_lst (pa_cons (pv 0) (pa_cons (pv 8) pa_nil))) pa_nil))) (pe_useG ULonly hgd' (hr.mono (by decide)) (by rfl) (pa_cons pe_int (pa_cons (pv 8) pa_nil))) (nomark _))
        (pss_one (ps_ret pe_bl)) pss_nil)
      (pss_one (ps_ret (pe_and (pe_cmpR (op_eqD hr.units) (pe_useG ULtold hgd' hr (by rfl) (pa_cons pe_int (pa_cons (pd_list (pds_cons (pd_var (pv 0)) (pds_cons (pd_int pe_int) pds_nil)) (fun _ => by show 2 ≤ sizeLine; decide)) pa_nil))) (pe_useG ULonly hgd' (hr.mono (by decide)) (by rfl) (pa_cons pe_int (pa_cons pe_int pa_nil))) (nomark _)) (pe_one (pe_cmpR (op_eqD hr.units) (pe_useG ULtold hgd' hr (by rfl) (pa_cons pe_int (pa_cons (pd_list (pds_cons (pd_var (pv 0)) (pds_cons (pd_int pe_int) (pds_cons (pd_list pds_nil (fun _ => by show 0 ≤ sizeLine; decide)) pds_nil))) (fun _ => by show 3 ≤ sizeLine; decide)) pa_nil))) (pe_useG ULonly hgd' (hr.mono (by decide)) (by rfl) (pa_cons pe_int (pa_cons pe_int pa_nil))) (nomark _)))))))))))), ?_⟩
    have kd := r.kd
    have smk := r.smk
    have k2 := r.k2
    have k4 := r.k4
    refine ⟨(by repeat' (first | exact trivial | exact ⟨_, rfl⟩ | refine ⟨?_, ?_⟩)), fun v1 H1 s1 d1 => ?_⟩
    obtain ⟨a1, x1, rfl, h1, dx1⟩ := dt_list d1
    replace h1 := newH_le _ _ h1
    replace dx1 := Dts.same newH_le _ _ dx1
    refine ⟨a1, rfl, ⟨_, SqL.of h1⟩, ?_⟩
    refine for_list (K := K) (a := a1) (xs := x1) (fun i σ H' => ∃ z3 : Option V, σ = [some (.int k), some (.ref c), some (.ref p), z3, none, none, none, none, none] ∧ Same H1 H') ⟨_, rfl, Same.refl _⟩ (fun i σ H' _ z => by
      obtain ⟨_, _, s'⟩ := z
      exact SqL.of (s' _ _ h1)) ?_ ?_
    · rintro i x σ H2 hi ⟨z3, rfl, s2⟩
      obtain ⟨d, ed, dt0⟩ := dx1.get hi
      obtain ⟨cf, b6, b5, sm⟩ : cntD d = false ∧ below 6 d = false ∧ below 5 d = false ∧ Sm d := by
        have key : (([.none, .int (-1), .bool true, .str "0", .list [.int 0], .tuple [.int 0]] : List PyData).all fun d => (!cntD d && (!below 6 d && !below 5 d)) && smB d) = true := by decide +kernel
        have z := List.all_eq_true.mp key d (List.mem_of_getElem? ed)
        simp only [Bool.and_eq_true, Bool.not_eq_true'] at z
        exact ⟨z.1.1, z.1.2.1, z.1.2.2, sm_B z.2⟩
      have dt := dt0.same s2
      have R2 := r.same (s1.trans s2)
      have A : ArgsP K er 3 H2 [.int k, .ref c, .ref p, x] d "InvalidNumber" := args_by (by decide) (by simp [arity]) (.cons (.int k) (.cons R2.t.dt (.cons R2.dtp (.cons dt .nil)))) (by simp) (sms4 smk R2.smc R2.smp sm) dt (fb1 kd (fb1 R2.comp (fb1 R2.run (fb0 cf))))
      have B : ∀ j ∈ ([11, 12] : List Nat), ArgsP K er j H2 [.int k, x] d "InvalidNumber" := fun j jm => by
        simp only [List.mem_cons, List.not_mem_nil, or_false] at jm
        rcases jm with rfl | rfl
        · exact args_by (by decide) (by simp [arity]) (.cons (.int k) (.cons dt .nil)) (by simp) (sms2 smk sm) dt (fb1 kd (fb0 cf))
        · exact args_by (by decide) (by simp [arity]) (.cons (.int k) (.cons dt .nil)) (by simp) (sms2 smk sm) dt (fb1 kd (fb0 b6))
      have C : ArgsP K er 13 H2 [.int k, x, .non] d "InvalidNumber" := args_by (by decide) (by simp [arity]) (.cons (.int k) (.cons dt (.cons .non .nil))) (by simp) (sms3 smk sm sm_non) dt (fb1 kd (fb0 b5))
      refine gName_by ?_
      refine tSeq_of ?_
      refine if_of (test_of ?_)
      refine told_ne (c := "InvalidNumber") (dv := d) (n := 0) (d := 3) ?_ ?_ ?_ sm rfl (by decide) ?_
      · exact fun _ _ z => z
      · exact fun Q' z => ⟨_, rfl, _, rfl, _, rfl, _, rfl, lst_args A z⟩
      · exact fun H' Q' s z => ⟨_, rfl, z _ _ (Same.refl _) (dt.same s)⟩
      intro H3 s3
      refine ⟨_, rfl, iteF ?_⟩
      refine tNext_of ?_
      dsimp only
      refine if_of (or_of ?_)
      refine told_list (c := "InvalidNumber") (dv := d) (n := 0) (js := [11, 12]) ?_ ?_ ?_ ?_ sm rfl (by decide) ?_
      · exact fun Q' z => lit_nums (by repeat' (first | exact trivial | exact ⟨_, rfl⟩ | refine ⟨?_, ?_⟩)) rfl z
      · exact fun _ => ⟨rfl, rfl⟩
      · exact fun j H' Q' jm s z => ⟨_, rfl, _, rfl, lst_args ((B j jm).later (s3.trans s)) z⟩
      · exact fun j H' Q' s z => ⟨_, rfl, z _ _ (Same.refl _) (dt.same (s3.trans s))⟩
      intro H4 s4
      refine iteF (test_of ?_)
      refine told_ne (c := "InvalidNumber") (dv := d) (n := 0) (d := 13) ?_ ?_ ?_ sm rfl (by decide) ?_
      · exact fun _ _ z => z
      · exact fun Q' z => ⟨_, rfl, _, rfl, lst_args (C.later (s3.trans s4)) z⟩
      · exact fun H' Q' s z => ⟨_, rfl, z _ _ (Same.refl _) (dt.same (s3.trans (s4.trans s)))⟩
      intro H5 s5
      exact ⟨_, rfl, iteF ⟨_, rfl, s2.trans (s3.trans (s4.trans s5))⟩⟩
    rintro σ H2 ⟨z3, rfl, s2⟩
    dsimp only
    have S02 := s1.trans s2
    refine tSeq_of ?_
    refine ⟨_, rfl, k, rfl, by omega, by omega, fun RO hRO => ?_⟩
    refine lc_objs (walk_nat (n := k.toNat)) (fun i => .lst ([.int (i : Nat)] ++ rgV (((i : Nat) : Int) + 1) k ++ rgV 0 (i : Nat))) hRO (Nat.le_of_lt (small1000 (by omega))) (fun _ _ => trivial) ?_ ?_
    · rintro i x H3' H3 N hi s3 ⟨rfl, rfl⟩ hN
      refine gName_by ⟨rfl, ?_⟩
      refine ⟨_, rfl, one_le, fun l1 hl1 => ?_⟩
      obtain ⟨H4, e4, s4, f4⟩ := gen H3 hl1 (.lst [.int (i : Nat)])
      rw [e4]
      clear e4
      refine ⟨_, rfl, _, _, rfl, rfl, _, rfl, _, _, rfl, rfl, RgOk.of_le (by omega) (by omega) (by omega) (by omega), fun l2 hl2 => ?_⟩
      obtain ⟨H5, e5, s5, f5⟩ := gen H4 hl2 (.lst (rgV (((i : Nat) : Int) + 1) k))
      rw [e5]
      clear e5
      have lr1 : (rgV (((i : Nat) : Int) + 1) k).length ≤ 10 := by
        unfold rgV
        rw [List.length_map, List.length_range]
        omega
      have lr2 : (rgV 0 ((i : Nat) : Int)).length ≤ 10 := by
        unfold rgV
        rw [List.length_map, List.length_range]
        omega
      refine ⟨l1, l2, _, _, rfl, rfl, s5 _ _ f4, f5, (by rw [List.length_singleton, sizeLine_eq]; omega), fun l3 hl3 => ?_⟩
      obtain ⟨H6, e6, s6, f6⟩ := gen H5 hl3 (.lst ([.int (i : Nat)] ++ rgV (((i : Nat) : Int) + 1) k))
      rw [e6]
      clear e6
      refine ⟨_, rfl, _, rfl, RgOk.of_le (by omega) (by omega) (by omega) (by omega), fun l4 hl4 => ?_⟩
      obtain ⟨H7, e7, s7, f7⟩ := gen H6 hl4 (.lst (rgV 0 (i : Nat)))
      rw [e7]
      clear e7
      refine ⟨l3, l4, _, _, rfl, rfl, s7 _ _ f6, f7, (by rw [List.length_append, List.length_singleton, sizeLine_eq]; omega), fun l5 hl5 => ?_⟩
      exact hN _ l5 ((s4.trans (s5.trans (s6.trans s7))).trans (same_new hl5)) ((s4.trans (s5.trans (s6.trans s7))).free hl5) upd_same
    intro H3 rs0 s3 O
    obtain ⟨r0, rr, ers⟩ : ∃ r0 rr, rs0 = r0 :: rr := by
      have := O.len
      cases rs0 with
      | nil =>
        simp at this
        omega
      | cons a l => exact ⟨a, l, rfl⟩
    have ro3 : H3 RO = some (.lst (.ref r0 :: rr.map V.ref)) := by
      rw [O.top, ers]
      rfl
    have row3 : H3 r0 = some (.lst (natV (List.range k.toNat))) := by
      rw [O.row 0 r0 (by rw [ers]; rfl)]
      obtain rfl | rfl | rfl : k = 2 ∨ k = 3 ∨ k = 4 := by omega
      all_goals rfl
    clear O
    refine ⟨_, rfl, _, _, rfl, rfl, .inl ⟨by omega, by omega⟩, _, _, rfl, rfl, _, rfl, RgOk.of_le (by omega) (by omega) (by omega) (by omega), fun PL nPL => ?_⟩
    obtain ⟨n, en⟩ : ∃ n : Nat, 3 * k - 2 = (n : Int) := ⟨(3 * k - 2).toNat, by omega⟩
    have n10 : n ≤ 10 := by omega
    rw [en, rg_nat]
    obtain ⟨H4, e4, s4, f4⟩ := gen H3 nPL (.lst (natV (List.range n)))
    rw [e4]
    clear e4
    have row4 := s4 _ _ row3
    have ro4 := s4 _ _ ro3
    refine ⟨Nat.zero_le _, fun E1 nE1 => ?_⟩
    obtain ⟨H5, e5, s5, f5⟩ := gen H4 nE1 (.lst [])
    rw [e5]
    clear e5
    refine ⟨Nat.zero_le _, fun E2 nE2 => ?_⟩
    obtain ⟨H6, e6, s6, f6⟩ := gen H5 nE2 (.tup [])
    rw [e6]
    clear e6
    refine ⟨_, rfl, _, rfl, RO, _, rfl, SqL.of ((s5.trans s6) _ _ ro4), fun S1 nS1 => ?_⟩
    rw [show cutV (V.ref r0 :: rr.map V.ref) none (some 1) = [V.ref r0] from cut_upto _ 1]
    obtain ⟨H7, e7, s7, f7⟩ := gen H6 nS1 (.lst [.ref r0])
    rw [e7]
    clear e7
    refine ⟨S1, _, _, rfl, rfl, f7, by decide, by decide, (by rw [sizeLine_eq]; show 1 * 3 ≤ 16777216; decide), fun R1 nR1 => ?_⟩
    rw [show (List.replicate (3 : Int).toNat [V.ref r0]).flatten = [V.ref r0, V.ref r0, V.ref r0] from rfl]
    obtain ⟨H8, e8, s8, f8⟩ := gen H7 nR1 (.lst [.ref r0, .ref r0, .ref r0])
    rw [e8]
    clear e8
    refine ⟨_, rfl, RO, _, _, _, rfl, rfl, SqL.of ((s5.trans (s6.trans (s7.trans s8))) _ _ ro4), at_of (j := 0) rfl rfl, one_le, fun L1 nL1 => ?_⟩
    obtain ⟨H9, e9, s9, f9⟩ := gen H8 nL1 (.lst [.ref r0])
    rw [e9]
    clear e9
    refine ⟨L1, _, _, rfl, rfl, f9, by decide, by decide, (by rw [sizeLine_eq]; show 1 * 4 ≤ 16777216; decide), fun R2 nR2 => ?_⟩
    rw [show (List.replicate (4 : Int).toNat [V.ref r0]).flatten = [V.ref r0, V.ref r0, V.ref r0, V.ref r0] from rfl]
    obtain ⟨H10, e10, s10, f10⟩ := gen H9 nR2 (.lst [.ref r0, .ref r0, .ref r0, .ref r0])
    rw [e10]
    clear e10
    refine ⟨_, rfl, RO, _, _, _, rfl, rfl, SqL.of ((s5.trans (s6.trans (s7.trans (s8.trans (s9.trans s10))))) _ _ ro4), at_of (j := 0) rfl rfl, one_le, fun L2 nL2 => ?_⟩
    obtain ⟨H11, e11, s11, f11⟩ := gen H10 nL2 (.lst [.ref r0])
    rw [e11]
    clear e11
    refine ⟨L2, _, _, rfl, rfl, f11, by decide, by decide, (by rw [sizeLine_eq]; show 1 * 3 ≤ 16777216; decide), fun R3 nR3 => ?_⟩
    rw [show (List.replicate (3 : Int).toNat [V.ref r0]).flatten = [V.ref r0, V.ref r0, V.ref r0] from rfl]
    obtain ⟨H12, e12, s12, f12⟩ := gen H11 nR3 (.lst [.ref r0, .ref r0, .ref r0])
    rw [e12]
    clear e12
    refine ⟨_, rfl, PL, _, rfl, SqL.of ((s5.trans (s6.trans (s7.trans (s8.trans (s9.trans (s10.trans (s11.trans s12))))))) _ _ f4), fun V1 nV1 => ?_⟩
    obtain ⟨H13, e13, s13, f13⟩ := gen H12 nV1 (.lst (natV (List.range n)).reverse)
    rw [e13]
    clear e13
    refine ⟨_, rfl, V1, _, rfl, SqL.of f13, fun V2 nV2 => ?_⟩
    rw [show cutV (natV (List.range n)).reverse none (some 2) = natV ((List.range n).reverse.take 2) from (cut_upto _ 2).trans (by unfold natV; rw [← List.map_reverse, List.map_take])]
    obtain ⟨H14, e14, s14, f14⟩ := gen H13 nV2 (.lst (natV ((List.range n).reverse.take 2)))
    rw [e14]
    clear e14
    refine ⟨_, rfl, _, rfl, PL, _, rfl, SqL.of ((s5.trans (s6.trans (s7.trans (s8.trans (s9.trans (s10.trans (s11.trans (s12.trans (s13.trans s14))))))))) _ _ f4), fun V3 nV3 => ?_⟩
    rw [show cutV (natV (List.range n)) (some 2) none = natV ((List.range n).drop 2) from (cut_from _ 2).trans (natV_drop ..)]
    obtain ⟨H15, e15, s15, f15⟩ := gen H14 nV3 (.lst (natV ((List.range n).drop 2)))
    rw [e15]
    clear e15
    refine ⟨V2, V3, _, _, rfl, rfl, s15 _ _ f14, f15, (by rw [natV_len, natV_len, List.length_take, List.length_drop, List.length_range, sizeLine_eq]; omega), fun V4 nV4 => ?_⟩
    rw [show natV ((List.range n).reverse.take 2) ++ natV ((List.range n).drop 2) = natV (lateL n) from (by unfold natV lateL; rw [List.map_append])]
    obtain ⟨H16, e16, s16, f16⟩ := gen H15 nV4 (.lst (natV (lateL n)))
    rw [e16]
    clear e16
    refine ⟨one_le, fun L3 nL3 => ?_⟩
    obtain ⟨H17, e17, s17, f17⟩ := gen H16 nL3 (.lst [.ref V4])
    rw [e17]
    clear e17
    refine ⟨R3, L3, _, _, rfl, rfl, (s13.trans (s14.trans (s15.trans (s16.trans s17)))) _ _ f12, f17, (by rw [sizeLine_eq]; show 3 + 1 ≤ 16777216; decide), fun C7 nC7 => ?_⟩
    rw [show ([V.ref r0, V.ref r0, V.ref r0] ++ [V.ref V4]) = [V.ref r0, V.ref r0, V.ref r0, V.ref V4] from rfl]
    obtain ⟨H18, e18, s18, f18⟩ := gen H17 nC7 (.lst [.ref r0, .ref r0, .ref r0, .ref V4])
    rw [e18]
    clear e18
    refine ⟨_, rfl, RO, _, _, _, rfl, rfl, SqL.of ((s5.trans (s6.trans (s7.trans (s8.trans (s9.trans (s10.trans (s11.trans (s12.trans (s13.trans (s14.trans (s15.trans (s16.trans (s17.trans s18))))))))))))) _ _ ro4), at_of (j := 0) rfl rfl, one_le, fun L4 nL4 => ?_⟩
    obtain ⟨H19, e19, s19, f19⟩ := gen H18 nL4 (.lst [.ref r0])
    rw [e19]
    clear e19
    refine ⟨L4, _, _, rfl, rfl, f19, by decide, by decide, (by rw [sizeLine_eq]; show 1 * 3 ≤ 16777216; decide), fun R4 nR4 => ?_⟩
    rw [show (List.replicate (3 : Int).toNat [V.ref r0]).flatten = [V.ref r0, V.ref r0, V.ref r0] from rfl]
    obtain ⟨H20, e20, s20, f20⟩ := gen H19 nR4 (.lst [.ref r0, .ref r0, .ref r0])
    rw [e20]
    clear e20
    refine ⟨_, rfl, PL, _, rfl, SqL.of ((s5.trans (s6.trans (s7.trans (s8.trans (s9.trans (s10.trans (s11.trans (s12.trans (s13.trans (s14.trans (s15.trans (s16.trans (s17.trans (s18.trans (s19.trans s20))))))))))))))) _ _ f4), fun T8 nT8 => ?_⟩
    obtain ⟨H21, e21, s21, f21⟩ := gen H20 nT8 (.tup (natV (List.range n)))
    rw [e21]
    clear e21
    refine ⟨one_le, fun L5 nL5 => ?_⟩
    obtain ⟨H22, e22, s22, f22⟩ := gen H21 nL5 (.lst [.ref T8])
    rw [e22]
    clear e22
    refine ⟨R4, L5, _, _, rfl, rfl, (s21.trans s22) _ _ f20, f22, (by rw [sizeLine_eq]; show 3 + 1 ≤ 16777216; decide), fun C8 nC8 => ?_⟩
    rw [show ([V.ref r0, V.ref r0, V.ref r0] ++ [V.ref T8]) = [V.ref r0, V.ref r0, V.ref r0, V.ref T8] from rfl]
    obtain ⟨H23, e23, s23, f23⟩ := gen H22 nC8 (.lst [.ref r0, .ref r0, .ref r0, .ref T8])
    rw [e23]
    clear e23
    refine ⟨(by show 8 ≤ sizeLine; decide), fun BL nBL => ?_⟩
    obtain ⟨H24, e24, s24, f24⟩ := gen H23 nBL (.lst [.non, .ref E1, .ref E2, .int 5, .ref R1, .ref R2, .ref C7, .ref C8])
    rw [e24]
    clear e24
    have ek : n = (3 * k - 2).toNat := by omega
    have id24 : Dt K H24 (.ref r0) (idK k) := .lst ((s5.trans (s6.trans (s7.trans (s8.trans (s9.trans (s10.trans (s11.trans (s12.trans (s13.trans (s14.trans (s15.trans (s16.trans (s17.trans (s18.trans (s19.trans (s20.trans (s21.trans (s22.trans (s23.trans s24))))))))))))))))))) _ _ row4) (dts_nat _)
    have items : Dts K H24 [.non, .ref E1, .ref E2, .int 5, .ref R1, .ref R2, .ref C7, .ref C8] (famA k) := by
      unfold famA
      rw [← ek]
      exact .cons .non (.cons (.lst ((s6.trans (s7.trans (s8.trans (s9.trans (s10.trans (s11.trans (s12.trans (s13.trans (s14.trans (s15.trans (s16.trans (s17.trans (s18.trans (s19.trans (s20.trans (s21.trans (s22.trans (s23.trans s24)))))))))))))))))) _ _ f5) .nil) (.cons (.tup ((s7.trans (s8.trans (s9.trans (s10.trans (s11.trans (s12.trans (s13.trans (s14.trans (s15.trans (s16.trans (s17.trans (s18.trans (s19.trans (s20.trans (s21.trans (s22.trans (s23.trans s24))))))))))))))))) _ _ f6) .nil) (.cons (.int 5) (.cons (.lst ((s9.trans (s10.trans (s11.trans (s12.trans (s13.trans (s14.trans (s15.trans (s16.trans (s17.trans (s18.trans (s19.trans (s20.trans (s21.trans (s22.trans (s23.trans s24))))))))))))))) _ _ f8) (.cons id24 (.cons id24 (.cons id24 .nil)))) (.cons (.lst ((s11.trans (s12.trans (s13.trans (s14.trans (s15.trans (s16.trans (s17.trans (s18.trans (s19.trans (s20.trans (s21.trans (s22.trans (s23.trans s24))))))))))))) _ _ f10) (.cons id24 (.cons id24 (.cons id24 (.cons id24 .nil)))))
        (.cons (.lst ((s19.trans (s20.trans (s21.trans (s22.trans (s23.trans s24))))) _ _ f18) (.cons id24 (.cons id24 (.cons id24 (.cons (.lst ((s17.trans (s18.trans (s19.trans (s20.trans (s21.trans (s22.trans (s23.trans s24))))))) _ _ f16) (dts_nat _)) .nil))))) (.cons (.lst (s24 _ _ f23) (.cons id24 (.cons id24 (.cons id24 (.cons (.tup ((s22.trans (s23.trans s24)) _ _ f21) (dts_nat _)) .nil))))) .nil)))))))
    have fok := fam_ok k2 k4
    have s324 : Same H3 H24 := (s4.trans (s5.trans (s6.trans (s7.trans (s8.trans (s9.trans (s10.trans (s11.trans (s12.trans (s13.trans (s14.trans (s15.trans (s16.trans (s17.trans (s18.trans (s19.trans (s20.trans (s21.trans (s22.trans (s23.trans s24))))))))))))))))))))
    have s424 : Same H4 H24 := (s5.trans (s6.trans (s7.trans (s8.trans (s9.trans (s10.trans (s11.trans (s12.trans (s13.trans (s14.trans (s15.trans (s16.trans (s17.trans (s18.trans (s19.trans (s20.trans (s21.trans (s22.trans (s23.trans s24)))))))))))))))))))
    have S24 := S02.trans (s3.trans s324)
    refine ⟨BL, rfl, ⟨_, SqL.of f24⟩, ?_⟩
    refine for_list (K := K) (a := BL) (xs := [.non, .ref E1, .ref E2, .int 5, .ref R1, .ref R2, .ref C7, .ref C8]) (fun i σ H' => ∃ z3 : Option V, σ = [some (.int k), some (.ref c), some (.ref p), z3, none, some (.ref RO), none, some (.ref PL), none] ∧ Same H24 H') ⟨_, rfl, Same.refl _⟩ (fun i σ H' _ z => by
      obtain ⟨_, _, s'⟩ := z
      exact SqL.of (s' _ _ f24)) ?_ ?_
    · rintro i x σ H25 hi ⟨z3, rfl, s25⟩
      obtain ⟨d, ed, dt0⟩ := items.get hi
      obtain ⟨fb, sm⟩ := fok d (List.mem_append_left _ (List.mem_of_getElem? ed))
      have dt := dt0.same s25
      refine gName_by ?_
      refine if_of (test_of ?_)
      refine told_ne (c := "InvalidWishes") (dv := d) (n := 4) (d := 15) ?_ ?_ ?_ sm rfl (by decide) ?_
      · exact fun _ _ z => z
      · exact fun Q' z => ⟨_, rfl, _, rfl, lst_args (made_door k2 k4 dt sm fb) z⟩
      · exact fun H' Q' s z => ⟨_, rfl, z _ _ (Same.refl _) (dt.same s)⟩
      intro H26 s26
      exact ⟨_, rfl, iteF ⟨_, rfl, s25.trans s26⟩⟩
    rintro σ H25 ⟨z3, rfl, s25⟩
    dsimp only
    refine tSeq_of ?_
    have ro25 : H25 RO = some (.lst (.ref r0 :: rr.map V.ref)) := s25 _ _ (s324 _ _ ro3)
    have row25 : H25 r0 = some (.lst (natV (List.range k.toNat))) := s25 _ _ (s324 _ _ row3)
    have pl25 : H25 PL = some (.lst (natV (List.range n))) := s25 _ _ (s424 _ _ f4)
    refine ⟨_, rfl, RO, _, _, _, rfl, rfl, SqL.of ro25, at_of (j := 0) rfl rfl, one_le, fun L6 nL6 => ?_⟩
    obtain ⟨H26, e26, s26, f26⟩ := gen H25 nL6 (.lst [.ref r0])
    rw [e26]
    clear e26
    refine ⟨L6, _, _, rfl, rfl, f26, by decide, by decide, (by rw [sizeLine_eq]; show 1 * 3 ≤ 16777216; decide), fun R5 nR5 => ?_⟩
    rw [show (List.replicate (3 : Int).toNat [V.ref r0]).flatten = [V.ref r0, V.ref r0, V.ref r0] from rfl]
    obtain ⟨H27, e27, s27, f27⟩ := gen H26 nR5 (.lst [.ref r0, .ref r0, .ref r0])
    rw [e27]
    clear e27
    refine ⟨(by repeat' (first | exact trivial | exact ⟨_, rfl⟩ | refine ⟨?_, ?_⟩)), fun vX H28 s28 dX => ?_⟩
    obtain ⟨X1, xX, rfl, f28, dxX⟩ := dt_list dX
    replace f28 := newH_le _ _ f28
    obtain rfl : xX = natV [1, 0] := vals_of (ns := [1, 0]) dxX
    refine ⟨_, rfl, _, rfl, PL, _, rfl, SqL.of ((s26.trans (s27.trans s28)) _ _ pl25), fun V5 nV5 => ?_⟩
    rw [show cutV (natV (List.range n)) (some 2) none = natV ((List.range n).drop 2) from (cut_from _ 2).trans (natV_drop ..)]
    obtain ⟨H29, e29, s29, f29⟩ := gen H28 nV5 (.lst (natV ((List.range n).drop 2)))
    rw [e29]
    clear e29
    refine ⟨X1, V5, _, _, rfl, rfl, s29 _ _ f28, f29, (by rw [natV_len, natV_len, List.length_drop, List.length_range, sizeLine_eq]; show 2 + (n - 2) ≤ 16777216; omega), fun V6 nV6 => ?_⟩
    rw [show natV [1, 0] ++ natV ((List.range n).drop 2) = natV (1 :: 0 :: (List.range n).drop 2) from rfl]
    obtain ⟨H30, e30, s30, f30⟩ := gen H29 nV6 (.lst (natV (1 :: 0 :: (List.range n).drop 2)))
    rw [e30]
    clear e30
    refine ⟨one_le, fun L7 nL7 => ?_⟩
    obtain ⟨H31, e31, s31, f31⟩ := gen H30 nL7 (.lst [.ref V6])
    rw [e31]
    clear e31
    refine ⟨R5, L7, _, _, rfl, rfl, (s28.trans (s29.trans (s30.trans s31))) _ _ f27, f31, (by rw [sizeLine_eq]; show 3 + 1 ≤ 16777216; decide), fun SW nSW => ?_⟩
    rw [show ([V.ref r0, V.ref r0, V.ref r0] ++ [V.ref V6]) = [V.ref r0, V.ref r0, V.ref r0, V.ref V6] from rfl]
    obtain ⟨H32, e32, s32, f32⟩ := gen H31 nSW (.lst [.ref r0, .ref r0, .ref r0, .ref V6])
    rw [e32]
    clear e32
    have s2532 : Same H25 H32 := (s26.trans (s27.trans (s28.trans (s29.trans (s30.trans (s31.trans s32))))))
    have id32 : Dt K H32 (.ref r0) (idK k) := .lst (s2532 _ _ row25) (dts_nat _)
    have dsw : Dt K H32 (.ref SW) (famS k) := by
      unfold famS
      rw [show 3 * k.toNat - 2 = n by omega]
      exact .lst f32 (.cons id32 (.cons id32 (.cons id32 (.cons (.lst ((s31.trans s32) _ _ f30) (dts_nat _)) .nil))))
    obtain ⟨fb, sm⟩ := fok (famS k) (List.mem_append_right _ (List.mem_singleton_self _))
    dsimp only
    refine if_of (test_of ?_)
    refine told_ne (c := "InvalidWishes") (dv := famS k) (n := 4) (d := 15) ?_ ?_ ?_ sm rfl (by decide) ?_
    · exact fun _ _ z => z
    · exact fun Q' z => ⟨_, rfl, _, rfl, lst_args (made_door k2 k4 dsw sm fb) z⟩
    · exact fun H' Q' s z => ⟨_, rfl, z _ _ (Same.refl _) (dsw.same s)⟩
    intro H33 s33
    refine ⟨_, rfl, iteF ?_⟩
    refine tNext_of ?_
    dsimp only
    have S33 := S24.trans (s25.trans (s2532.trans s33))
    refine told_eq (c := "InvalidNumber") (dv := .int 6) (n := 0) (d := 12) ?_ ?_ ?_ (sm_int (by decide) (by decide)) rfl (by decide) ?_
    · exact fun _ _ z => z
    · intro Q' z
      refine ⟨by repeat' (first | exact trivial | exact ⟨_, rfl⟩ | refine ⟨?_, ?_⟩), fun v J sJ dJ => ?_⟩
      obtain ⟨a', xs', rfl, ha', hx'⟩ := dt_list dJ
      replace ha' := newH_le _ _ ha'
      replace hx' := Dts.same newH_le _ _ hx'
      obtain ⟨x0, x1, d0, d1, rfl, e, t0, t1⟩ := args2 hx'.length hx'
      cases e
      cases t0
      cases t1
      exact z a' _ J sJ ha' (args_by (by decide) (by simp [arity]) (.cons (.int k) (.cons (.int 6) .nil)) (by simp) (sms2 smk (sm_int (by decide) (by decide))) (.int 6) (fb1 kd (fb0 rfl)))
    · exact fun H' Q' s z => z _ _ (Same.refl _) (.int 6)
    intro H34 s34
    refine ⟨_, rfl, iteT ?_⟩
    refine told_eq (c := "InvalidNumber") (dv := .int 5) (n := 0) (d := 13) ?_ ?_ ?_ (sm_int (by decide) (by decide)) rfl (by decide) ?_
    · exact fun _ _ z => z
    · intro Q' z
      refine ⟨by repeat' (first | exact trivial | exact ⟨_, rfl⟩ | refine ⟨?_, ?_⟩), fun v J sJ dJ => ?_⟩
      obtain ⟨a', xs', rfl, ha', hx'⟩ := dt_list dJ
      replace ha' := newH_le _ _ ha'
      replace hx' := Dts.same newH_le _ _ hx'
      obtain ⟨x0, x1, x2, d0, d1, d2, rfl, e, t0, t1, t2⟩ := args3 hx'.length hx'
      cases e
      cases t0
      cases t1
      exact z a' _ J sJ ha' (args_by (by decide) (by simp [arity]) (.cons (.int k) (.cons (.int 5) (.cons t2 .nil))) (by simp) (sms3 smk (sm_int (by decide) (by decide)) (sm_of (nice_of (by decide +kernel)) (by decide +kernel))) (.int 5) (fb1 kd (fb0 rfl)))
    · exact fun H' Q' s z => z _ _ (Same.refl _) (.int 5)
    intro H35 s35
    exact q _ (S33.trans (s34.trans s35))
end
end K56

namespace K56
open PySem PySem.Spec PyProof.Rows
open L2 hiding spCell rLen
open GL
section
variable {P : Program} {w : World} {K : PySem.W.Frag} {mg : Str → Option Value} {base : Heap}
variable {er : Str → Addr}
noncomputable abbrev sLaw : Stmt := topS 121
noncomputable abbrev nLaw : List Str := ["_law_script", "_law_index", "_law_generator_here", "_law_kinds", "_law_size", "_law_company_here", "_law_program_here", "_law_door", "_law_bad", "_law_caught", "error"]
theorem scLaw : FnScope nLaw ["_law_script"] (defScope sLaw) := ⟨rfl, rfl, rfl, by decide +kernel, rfl, by decide +kernel, by decide +kernel⟩
theorem ok_law {f : Addr} {fd : FuncData} (F : Fun K "law" "law" sLaw f fd) (T : Bi mg) (ER : Errs fiveN K mg er) (Uhowmanystates : UseX P w K mg base "how_many_states" ["kinds", "many"] (spHowMany K er) 7) (Uistold : UseX P w K mg base "is_told" ["kinds", "many", "value"] (spToldX K er) 7) (Uhowmanyprograms : UseX P w K mg base "how_many_programs" ["kinds", "many"] (spHowProgs K er) 7) (ULgenerator : Use P w K mg base "_law_generator" ["_law_script", "_law_index"] (spGen K) 2) (ULrandom : Use P w K mg base "_law_random" ["_law_generator_here", "_law_limit"] spRandom 2) (ULcompany : Use P w K mg base "_law_company" ["_law_generator_here", "_law_kinds", "_law_size"] spCompS 4) (ULprogram : Use P w K mg base "_law_program" ["_law_generator_here", "_law_size", "_law_most"] spProgM 3) (ULcalled : UseX P w K mg base "_law_called" ["_law_door", "_law_args"] (spCalledP K er) 9) (ULprogramsright : UseG P w K mg base "_law_programs_right" ["_law_generator_here", "_law_kinds", "_law_company_here", "_law_program_here"] (spRightP K er) 11) (ULkindsright : UseG P w K mg base "_law_kinds_right" ["_law_company_here", "_law_program_here"] (spRightK K er) 11) (ULlotsright : UseG P w K mg base "_law_lots_right" ["_law_kinds"] (spRightL K er) 11) (ULnumbersright : UseG P w K mg base "_law_numbers_right" ["_law_kinds", "_law_company_here", "_law_program_here"] (spRightN K er) 11) : FnG P w K mg base CX0 12 f fd ["_law_script"] (spLaw K) := by
  refine FnG.mk' F scLaw (fun vs H Q E h => ?_) (fun cdv A outer s H vs Q E hgd hr h => ?_)
  · obtain ⟨a, ns, rfl, _⟩ := h
    rfl
  · obtain ⟨a, ns, rfl, hS, q⟩ := h
    have hgd' : (A.deeper (envOfC "law" (defScope sLaw) s.heap.objs.size f cdv)).guards = some [] := hgd
    refine ⟨_, (pss_cons (ps_for PassesOwn.never rfl (pi_range1 (by rfl) T.range (pa_cons pe_int pa_nil)) (pg_name (i := 1) scLaw.nd rfl (Or.inl rfl))
        (pss_cons (ps_set (i := 2) scLaw.nd rfl (Or.inl rfl) (pe_use ULgenerator (hr.mono (by decide)) (by rfl) (pa_cons (pv 0) (pa_cons (pv 1) pa_nil))))
        (pss_cons (ps_par (i := 3) (j := 4) rfl scLaw.nd rfl rfl (by decide) rfl rfl (pa_cons (pe_op op_add pe_int (pe_use ULrandom (hr.mono (by decide)) (by rfl) (pa_cons (pv 2) (pa_cons pe_int pa_nil)))) (pa_cons (pe_op op_add pe_int (pe_use ULrandom (hr.mono (by decide)) (by rfl) (pa_cons (pv 2) (pa_cons pe_int pa_nil)))) pa_nil)) (by rfl))
        (pss_cons (ps_par (i := 5) (j := 6) rfl scLaw.nd rfl rfl (by decide) rfl rfl (pa_cons (pe_use ULcompany (hr.mono (by decide)) (by rfl) (pa_cons (pv 2) (pa_cons (pv 3) (pa_cons (pv 4) pa_nil)))) (pa_cons (pe_use ULprogram (hr.mono (by decide)) (by rfl) (pa_cons (pv 2) (pa_cons (pe_callB (call_min2 rfl) (by rfl) T.min (by decide +kernel) (pa_cons (pv 4) (pa_cons pe_int pa_nil))) (pa_cons pe_int pa_nil)))) pa_nil)) (by rfl))
        (pss_cons (ps_if (PW.pt (pw_or (pt_not (pt_val (pe_useG ULprogramsright hgd' hr (by rfl) (pa_cons (pv 2) (pa_cons (pv 3) (pa_cons (pv 5) (pa_cons (pv 6) pa_nil))))))) (pw_or1 (pt_not (pt_val (pe_useG ULkindsright hgd' hr (by rfl) (pa_cons (pv 5) (pa_cons (pv 6) pa_nil))))))))
          (pss_one (ps_ret pe_bl)) pss_nil)
        (pss_one (ps_if (PW.pt (pw_or (pt_not (pt_val (pe_useG ULlotsright hgd' hr (by rfl) (pa_cons (pv 3) pa_nil)))) (pw_or1 (pt_not (pt_val (pe_useG ULnumbersright hgd' hr (by rfl) (pa_cons (pv 3) (pa_cons (pv 5) (pa_cons (pv 6) pa_nil)))))))))
          (pss_one (ps_ret pe_bl)) pss_nil)))))))
      (pss_cons (ps_for PassesOwn.never rfl (pi_list (pd_list (pds_cons (pd_int pe_int) (pds_cons (pd_int pe_int) pds_nil)) (fun _ => by show 2 ≤ sizeLine; decide))) (pg_name (i := 7) scLaw.nd rfl (Or.inl rfl))
        (pss_cons (ps_par (i := 8) (j := 9) rfl scLaw.nd rfl rfl (by decide) rfl rfl (pa_cons (pd_list (pds_cons (pd_tup (pds_cons (pd_int pe_int) (pds_cons (pd_int pe_int) pds_nil)) (fun _ => by show 2 ≤ sizeLine; decide)) pds_nil) (fun _ => by show 1 ≤ sizeLine; decide)) (pa_cons pe_non pa_nil)) (by rfl))
        (pss_cons (ps_try_keep (i := 10) rfl rfl scLaw.nd rfl rfl ⟨rfl, by decide, .inl ER.tie⟩ rfl takes0
          (fun W pn xe tk _ => (pss_one (ps_expr (pe_useS ULcalled (hr.mono (by decide)) tk (by rfl) (pa_cons (pv 7) (pa_cons (pe_lst (pa_cons pe_int (pa_cons (pv 8) pa_nil))) pa_nil))))))
          (fun a oe cls d pn hz hf => (pss_one (ps_set (i := 9) scLaw.nd rfl (Or.inl rfl) (pv 10)))))
        (pss_cons (ps_expr (pe_bm PySem.F.plainAttrs_list PySem.F.slot_list_append PySem.F.type_list_append mt_append (pv 8) (pa_cons pe_int pa_nil)))
        (pss_one (ps_if (PW.pt (pw_or (pt_cmpR op_isN (pv 9) pe_non (nomark _)) (pw_or1 (pt_cmpR (op_neD hr.units) (pe_valX (pv 9)) (pd_list (pds_cons (pd_tup (pds_cons (pd_int pe_int) (pds_cons (pd_int pe_int) pds_nil)) (fun _ => by show 2 ≤ sizeLine; decide)) (pds_cons (pd_int pe_int) pds_nil)) (fun _ => by show 2 ≤ sizeLine; decide)) (nomark _)))))
          (pss_one (ps_ret pe_bl)) pss_nil))))))
      (pss_one (ps_ret (pe_and (pe_cmpR op_isBl (pe_use0X Uistold (hr.mono (by decide)) (by rfl) (pa_cons pe_int (pa_cons pe_int (pa_cons pe_non pa_nil)))) pe_bl (nomark _)) (pe_and (pe_cmpR op_eq (pe_use0X Uhowmanystates (hr.mono (by decide)) (by rfl) (pa_cons pe_int (pa_cons pe_int pa_nil))) pe_int (nomark _)) (pe_one (pe_cmpR op_eq (pe_use0X Uhowmanyprograms (hr.mono (by decide)) (by rfl) (pa_cons pe_int (pa_cons pe_int pa_nil))) pe_int (nomark _))))))))), ?_⟩
    refine ⟨2, rfl, by decide, by decide, ?_⟩
    refine for_range (lo := 0) (n := (2 : Int).toNat) (fun i σ H' => ∃ e1 e2 e3 e4 e5 e6 : Option V, σ = [some (.ref a), e1, e2, e3, e4, e5, e6, none, none, none, none] ∧ Same H H') ⟨_, _, _, _, _, _, rfl, Same.refl _⟩ ?_ ?_
    · rintro i σ H1 hi ⟨e1, e2, e3, e4, e5, e6, rfl, s1⟩
      have i2 : i < 2 := hi
      refine ⟨_, rfl, _, rfl, a, ns, i, (show [V.ref a, V.int (0 + (i : Int))] = [V.ref a, V.int (i : Int)] by rw [Int.zero_add]), by omega, s1.seq hS, fun g H2 s2 ng G2 => ?_⟩
      refine ⟨_, rfl, g, 3, 999995, rfl, by decide, by decide, G2.less (by omega), fun r1 H3 r10 r11 G3 b3 => ⟨_, _, rfl, rfl, ?_⟩⟩
      refine ⟨_, rfl, g, 4, 999990, rfl, by decide, by decide, G3.less (by omega), fun r2 H4 r20 r21 G4 b4 => ⟨_, _, rfl, rfl, _, _, rfl, ?_⟩⟩
      obtain ⟨m, hm⟩ : ∃ m : Nat, 2 + r2 = (m : Int) := ⟨(2 + r2).toNat, by omega⟩
      refine ⟨_, rfl, _, rfl, _, rfl, g, 2 + r1, m, 950000, ?_, by omega, by omega, by omega, by omega, G4.less (by omega), fun c H5 b5 G5 co => ?_⟩
      · show [V.ref g, .int (2 + r1), .int (2 + r2)] ++ [] = _
        rw [hm]
        rfl
      obtain ⟨rs, kss, t, lk, fine, cr, hc, hrs⟩ := co.ex
      obtain ⟨mm, emm⟩ : ∃ mm : Nat, mm = min m 4 := ⟨_, rfl⟩
      have eV : (if (4 : Int) < 2 + r2 then (4 : Int) else 2 + r2) = ((mm : Nat) : Int) := by
        rw [emm]
        split <;> omega
      refine ⟨_, rfl, _, rfl, _, _, rfl, ?_⟩
      rw [eV]
      refine ⟨g, mm, 5, 940000, rfl, by omega, by omega, by decide, G5.less (by omega), fun p as ts H6 b6 G6 lt tn pr => ?_⟩
      have gc : c ≠ g := (G4.ne hc).symm
      have gr : g ∉ rs := fun z => by
        have := G4.ne (hrs g z)
        exact this rfl
      have t6 : Tab H6 c rs kss := t.but b6 gc gr
      have R : RightIn K (GL.hid H6 g) (2 + r1) c p rs kss (as.map V.ref) ts := by
        have ph := pr.hid G5
        exact ⟨by omega, by omega, t6.hid gc gr, fine, by omega, by omega, ph.top, ph.dts, fun x hx => ⟨(tn x hx).1, by have := (tn x hx).2; omega⟩, by omega⟩
      refine ⟨_, _, rfl, ?_⟩
      refine ⟨_, rfl, _, rfl, _, rfl, _, rfl, g, 2 + r1, c, p, rs, kss, _, ts, 930000, rfl, G6.less (by omega), R, fun H7 b7 G7 => ⟨_, rfl, iteF ?_⟩⟩
      have R7 : RightIn K H7 (2 + r1) c p rs kss (as.map V.ref) ts := R.same fun b o e => b7 b o (hid_same b o e) (hid_none e)
      refine ⟨_, rfl, _, rfl, 2 + r1, c, p, rs, kss, _, ts, rfl, R7, fun H8 s8 => ⟨_, rfl, iteF ?_⟩⟩
      refine tNext_of ?_
      dsimp only
      refine ⟨_, rfl, 2 + r1, rfl, by omega, by omega, fun H9 s9 => ⟨_, rfl, iteF ?_⟩⟩
      refine ⟨_, rfl, _, rfl, _, rfl, 2 + r1, c, p, rs, kss, _, ts, rfl, R7.same (s8.trans s9), fun H10 s10 => ⟨_, rfl, iteF ?_⟩⟩
      refine ⟨_, _, _, _, _, _, rfl, fun b o e => ?_⟩
      have nb : b ≠ g := ne_of_none (s1 b o e) ng
      exact (s8.trans (s9.trans s10)) _ _ (b7 _ _ (b6 _ _ (b5 _ _ (b4 _ _ (b3 _ _ (s2 _ _ (s1 _ _ e)) nb) nb) nb) nb) nb)
    · rintro σ H1 ⟨e1, e2, e3, e4, e5, e6, rfl, s1⟩
      refine ⟨(by repeat' (first | exact trivial | exact ⟨_, rfl⟩ | refine ⟨?_, ?_⟩)), fun v2 H2 s2 d2 => ?_⟩
      obtain ⟨l, xs, rfl, hl, dxs⟩ := dt_list d2
      replace hl := newH_le _ _ hl
      obtain rfl : xs = natV [9, 10] := vals_of (ns := [9, 10]) dxs
      refine ⟨l, rfl, ⟨_, SqL.of hl⟩, ?_⟩
      refine for_list (K := K) (a := l) (xs := natV [9, 10]) (fun i σ H' => ∃ e7 e8 e9 : Option V, σ = [some (.ref a), e1, e2, e3, e4, e5, e6, e7, e8, e9, none] ∧ Same H2 H') ⟨_, _, _, rfl, Same.refl _⟩ (fun i σ H' _ z => by
        obtain ⟨_, _, _, _, s'⟩ := z
        exact SqL.of (s' _ _ hl)) ?_ ?_
      · rintro i y σ H3 hi ⟨e7, e8, e9, rfl, s3⟩
        obtain ⟨d, rfl, ed⟩ := natV_at hi
        have d910 : d = 9 ∨ d = 10 := by
          have := List.mem_of_getElem? ed
          simpa using this
        refine gName_by ?_
        refine tSeq_of ?_
        refine ⟨(by repeat' (first | exact trivial | exact ⟨_, rfl⟩ | refine ⟨?_, ?_⟩)), fun vb H4 s4 d4 => ?_⟩
        obtain ⟨b, xb, rfl, hb, dxb⟩ := dt_list d4
        have hb0 : H3 b = none := by
          cases z : H3 b with
          | none => rfl
          | some o =>
            rw [newH_old z] at hb
            cases hb
        replace hb := newH_le _ _ hb
        have dxb : Dts K H4 xb [.tuple [.int 0, .int 0]] := Dts.same newH_le _ _ dxb
        obtain ⟨xq, dq, rfl, eq1, dtq⟩ := args1 dxb.length dxb
        cases eq1
        refine ⟨_, _, rfl, ?_⟩
        refine ⟨_, rfl, _, rfl, (by show 2 ≤ sizeLine; decide), fun p hp => ?_⟩
        obtain ⟨H5, e5, s5, f5⟩ := gen H4 hp (.lst [.int 2, .ref b])
        rw [e5]
        clear e5
        have db : Dt K H4 (.ref b) (.list [.tuple [.int 0, .int 0]]) := .lst hb dxb
        have bad : progD (.list [.tuple [.int 0, .int 0]]) = false := by decide +kernel
        have sm2 : ∀ e ∈ ([.int 2, .list [.tuple [.int 0, .int 0]]] : List PyData), Sm e := sm_all (by decide +kernel)
        have rp : RefP K er d [.int 2, .ref b] H5 "InvalidProgram" (.ref b) := by
          rcases d910 with rfl | rfl
          · exact refP (by decide) (by simp [arity]) (.cons (.int 2) (.cons (db.same s5) .nil)) sm2 (fb1 (by show kindsD (.int 2) = true; decide +kernel) (fb0 bad))
          · exact refP (by decide) (by simp [arity]) (.cons (.int 2) (.cons (db.same s5) .nil)) sm2 (fb1 (by show kindsD (.int 2) = true; decide +kernel) (fb0 bad))
        refine ⟨d, p, _, rfl, by omega, f5, rp H5 _ (Same.refl _) ?_⟩
        have s45 := s5
        intro H9 e s9 ne he
        refine ⟨true, ER.exm "InvalidProgram" (by decide), (fun z => by cases z), fun _ x nx => ⟨_, rfl, fun nx2 => ?_⟩⟩
        obtain ⟨fI, EC⟩ := ER.own "InvalidProgram" (by decide)
        obtain ⟨H10, e10, s10, f10⟩ := gen H9 nx (Exn (.ref (er "InvalidProgram")) (some e) x)
        show _
        rw [e10]
        clear e10
        have s410 := s45.trans (s9.trans s10)
        have hb10 := s410 _ _ hb
        have he10 := s10 _ _ he
        have xb : x ≠ b := fun z => by
          have z2 := (s45.trans s9) _ _ hb
          rw [← z, nx] at z2
          cases z2
        have eb : e ≠ b := fun z => by
          have z2 := s410 _ _ hb
          rw [← z, he10] at z2
          cases z2
        refine ⟨_, rfl, .inl ⟨rfl, _, SqL.of hb10⟩, b, _, _, rfl, rfl, hb10, (by show 1 < sizeLine; decide), ?_⟩
        obtain ⟨H11, e11⟩ : ∃ H11, upd H10 b (.lst ([xq] ++ [.int 0])) = H11 := ⟨_, rfl⟩
        have fx : H11 x = some (Exn (.ref (er "InvalidProgram")) (some e) x) := by rw [← e11, upd_ne xb]; exact f10
        have fe : H11 e = some (.xd [("value", .ref b)]) := by rw [← e11, upd_ne eb]; exact he10
        have fb : H11 b = some (.lst [xq, .int 0]) := by rw [← e11, upd_same]; rfl
        have s311 : Same H3 H11 := fun a o z => by
          rw [← e11, upd_ne (ne_of_none z hb0)]
          exact s410 _ _ (s4 _ _ z)
        have hbn : GL.hid H4 b b = none := if_pos rfl
        have dq : Dt K H11 xq (.tuple [.int 0, .int 0]) := by
          cases dtq with
          | tup hq hy =>
            cases hy with
            | cons y1 hy =>
              cases hy with
              | cons y2 hy =>
                cases hy
                cases y1
                cases y2
                refine .tup ?_ (.cons (.int 0) (.cons (.int 0) .nil))
                rw [← e11, upd_ne fun z => by
                  rw [z, hb] at hq
                  cases hq]
                exact s410 _ _ hq
        rw [e11]
        clear e11
        refine ⟨_, rfl, rfl, _, rfl, iteF ?_⟩
        refine ⟨_, rfl, x, er "InvalidProgram", fI, e, "InvalidProgram", .ref b, rfl, EC, fx, fe, (by repeat' (first | exact trivial | exact ⟨_, rfl⟩ | refine ⟨?_, ?_⟩)), fun vl H12 s12 dl => ?_⟩
        have dl' := dl.same newH_le
        have db12 : Dt K H12 (.ref b) (.list [.tuple [.int 0, .int 0], .int 0]) := .lst (s12 _ _ fb) (.cons (dq.same s12) (.cons (.int 0) .nil))
        refine ⟨.list [.tuple [.int 0, .int 0], .int 0], .list [.tuple [.int 0, .int 0], .int 0], dt_dp _ _ (by decide +kernel) db12, dt_dp _ _ (by decide +kernel) dl', by decide +kernel, by decide +kernel, ?_⟩
        rw [show PyData.eqv (.list [.tuple [.int 0, .int 0], .int 0]) (.list [.tuple [.int 0, .int 0], .int 0]) = true by decide +kernel]
        exact ⟨_, rfl, iteF ⟨_, _, _, rfl, s3.trans (s311.trans s12)⟩⟩
      · rintro σ H3 ⟨e7, e8, e9, rfl, s3⟩
        refine .inr ⟨rfl, fun H4 s4 => ⟨_, _, rfl, rfl, _, rfl, iteT ?_⟩⟩
        refine .inr ⟨rfl, fun H5 s5 => ⟨rfl, _, rfl, iteT ?_⟩⟩
        refine .inr ⟨rfl, fun H6 s6 => ⟨rfl, q _⟩⟩
end
end K56

namespace GL
open PySem PySem.Spec PyProof.Rows L2
/-! ### the facts of a class of errors, gathered -/
noncomputable def HasErr (K : PySem.W.Frag) (x : Str) (C : Addr) : Prop := PySem.W.nsIn K mainGlobals x = some (some (.ref C)) ∧ OexC K C ∧ ∃ fI, PySem.W.findIn K (.ref C) "__init__" = some (some (.ref fI)) ∧ PySem.W.typeIn K (.ref fI) = some (.type "function") ∧ PySem.W.findIn K (.ref C) "value" = some none ∧
  PySem.W.findIn K (.ref C) "__getattribute__" = some (some (.builtin "BaseException.__getattribute__")) ∧ PySem.W.findIn K (.ref C) "__getattr__" = some none ∧ PySem.W.hasDictIn K C = true ∧ PySem.W.findIn K (.ref C) "__class__" = some (some (.builtin "object.__class__")) ∧
  PySem.W.specialIn K (.builtin "object.__class__") "__get__" = some (some (.builtin "getset_descriptor.__get__")) ∧ PySem.W.takesIn K (.builtin "object.__class__") = some true ∧ PySem.W.mroIn K C (.type "object") = some true ∧
  ∃ (qual : Str) (p1 p2 p3 q1 q2 q3 q4 : Pos) (fd : FuncData), FunD K "__init__" qual (iniA p1 p2 p3) (iniB q1 q2 q3 q4) iniS [.non] [] fI fd
theorem HasErr.err {K : PySem.W.Frag} {x : Str} {C : Addr} {mg : Str → Option Value} {h : Heap} (E : HasErr K x C) (X : K.In h) (G : h.Ns mainGlobals mg) : ∃ fI, Err K mg x C fI ∧ ∀ (P : Program) (w : World) (base : Heap), Ini P w K mg base fI := by
  obtain ⟨a, o, fI, b1, b2, b3, b4, b5, b6, b7, b8, b9, b10, qual, p1, p2, p3, q1, q2, q3, q4, fd, F⟩ := E
  exact ⟨fI, ⟨PySem.W.mg_of X G a, o, b1, b2, b3, b4, b5, b6, b7, b8, b9, b10⟩, fun P w base => ini_ok F⟩
theorem hasErr_mk {K : PySem.W.Frag} {x : Str} {C fI T : Addr} {nm q : Str} {N : Addr} {bs bm : List Value} {sn sub ab col dd k0 k1 k2 k3 k5} {oc kV doc pm cdv ct : Value} {od an : Option Addr} {osl slT : Array (Option Value)} {qual : Str} {p1 p2 p3 q1 q2 q3 q4 : Pos} {cT : Value} {dT : Option Addr} {n : Nat}
    (a1 : PySem.W.nsIn K mainGlobals x = some (some (.ref C))) (a2 : K.lookup C = some (excClassObj nm q C N bs bm true sn sub ab col dd k0 k1 k2 k3 k5 "ValueError.__new__")) (a3 : PySem.HandSPX.refsVE bm = true)
    (a4 : PySem.W.findIn K (.ref C) "__setattr__" = some (some (.builtin "object.__setattr__"))) (a5 : PySem.W.subIn K (.ref C) (.type "BaseException") = some true) (a6 : PySem.W.typeIn K (.ref C) = some (.type "type")) (a7 : PySem.W.keepIn K (.ref C) = true)
    (b1 : PySem.W.findIn K (.ref C) "__init__" = some (some (.ref fI))) (b2 : PySem.W.typeIn K (.ref fI) = some (.type "function")) (b3 : PySem.W.findIn K (.ref C) "value" = some none)
    (b4 : PySem.W.findIn K (.ref C) "__getattribute__" = some (some (.builtin "BaseException.__getattribute__"))) (b5 : PySem.W.findIn K (.ref C) "__getattr__" = some none) (b6 : PySem.W.hasDictIn K C = true) (b7 : PySem.W.findIn K (.ref C) "__class__" = some (some (.builtin "object.__class__")))
    (b8 : PySem.W.specialIn K (.builtin "object.__class__") "__get__" = some (some (.builtin "getset_descriptor.__get__"))) (b9 : PySem.W.takesIn K (.builtin "object.__class__") = some true) (b10 : PySem.W.mroIn K C (.type "object") = some true)
    (c1 : K.lookup fI = some ⟨oc, od, .func (PySem.W.fnOf "__init__" qual (iniA p1 p2 p3) (iniB q1 q2 q3 q4) iniS (.ref T) kV doc pm an cdv ct), osl⟩) (c2 : PySem.W.codeIn K cdv qual = true) (c3 : PySem.W.keepIn K (.ref fI) = true)
    (c4 : K.lookup T = some ⟨cT, dT, .seq #[.none] n, slT⟩) : HasErr K x C :=
  ⟨a1, ⟨⟨nm, q, N, bs, bm, sn, sub, ab, col, dd, k0, k1, k2, k3, k5, a2, a3⟩, a4, a5, a6, a7⟩, fI, b1, b2, b3, b4, b5, b6, b7, b8, b9, b10, qual, p1, p2, p3, q1, q2, q3, q4, _, ⟨oc, od, .ref T, kV, doc, pm, an, cdv, ct, osl, rfl, c1, c2, .inr ⟨by simp, T, _, [.none], n, rfl, c4, rfl, .cons rfl .nil⟩, .inl rfl⟩, c3⟩
theorem exm_by {K : PySem.W.Frag} {Ci Cj : Addr} {b : Bool} (h1 : PySem.W.subIn K (.ref Cj) (.type "BaseException") = some true) (h2 : (PySem.W.clsIn K Cj).isSome = true) (h3 : PySem.W.typeIn K (.ref Cj) = some (.type "type")) (h4 : PySem.W.subIn K (.ref Ci) (.ref Cj) = some b) : PySem.W.exmOne K (.ref Ci) (.ref Cj) = some b := by
  simp [PySem.W.exmOne, PySem.W.kitCls, h1, h2, h3, h4]
theorem kit_same {K : PySem.W.Frag} {C : Addr} : PySem.W.kitOne K (.ref C) (.ref C) = some true := by
  simp [PySem.W.kitOne]
theorem kit_by {K : PySem.W.Frag} {Ci Cj : Addr} (h2 : (PySem.W.clsIn K Cj).isSome = true) (h3 : PySem.W.typeIn K (.ref Cj) = some (.type "type")) (h4 : PySem.W.subIn K (.ref Ci) (.ref Cj) = some false) (h5 : PySem.W.subIn K (.ref Ci) (.ref Ci) = some true) : PySem.W.kitOne K (.ref Ci) (.ref Cj) = some false := by
  by_cases e : Ci = Cj
  · subst e
    rw [h4] at h5
    cases h5
  · have ne : ¬ (Value.ref Ci == Value.ref Cj) = true := fun z => e (by
      have := beq_iff_eq.mp z
      injection this)
    unfold PySem.W.kitOne
    rw [if_neg ne]
    simp [PySem.W.kitCls, h2, h3, h4]
theorem kit_val {K : PySem.W.Frag} {C : Addr} (h : PySem.W.subIn K (.ref C) (.type "ValueError") = some true) : PySem.W.kitOne K (.ref C) (.type "ValueError") = some true := by
  have ne : ¬ (Value.ref C == Value.type "ValueError") = true := fun z => by
    have := beq_iff_eq.mp z
    cases this
  unfold PySem.W.kitOne
  rw [if_neg ne]
  show (if PySem.W.kitMeta "ValueError" = true then PySem.W.subIn K (.ref C) (.type "ValueError") else none) = some true
  rw [if_pos (by decide +kernel)]
  exact h
theorem cls_of {K : PySem.W.Frag} {C : Addr} (h : PySem.W.hasDictIn K C = true) : (PySem.W.clsIn K C).isSome = true := by
  obtain ⟨cd, hc, _⟩ := PySem.W.any_some h
  rw [hc]
  rfl
theorem HasErr.cl {K : PySem.W.Frag} {x : Str} {C : Addr} (E : HasErr K x C) : (PySem.W.clsIn K C).isSome = true ∧ PySem.W.typeIn K (.ref C) = some (.type "type") ∧ PySem.W.subIn K (.ref C) (.type "BaseException") = some true := by
  obtain ⟨a, o, fI, b1, b2, b3, b4, b5, b6, _⟩ := E
  exact ⟨cls_of b6, o.tyC, o.exC⟩
end GL

namespace K56
open PySem PySem.Spec PyProof.Rows
open L2 hiding spCell rLen
open GL
/-- a def of the text stands under its name -/
noncomputable def Has (K : PySem.W.Frag) (x : Str) (st : Stmt) : Prop := ∃ (f : Addr) (oc : Value) (od : Option Addr) (kV dc pm : Value) (an : Option Addr) (cd ct : Value) (sl : Array (Option Value)), PySem.W.nsIn K mainGlobals x = some (some (.ref f)) ∧
  K.lookup f = some ⟨oc, od, .func (PySem.W.fnOf x x (defArgs st) (defBody st) (defScope st) .none kV dc pm an cd ct), sl⟩ ∧ PySem.W.codeIn K cd x = true ∧ PySem.W.keepIn K (.ref f) = true
theorem Has.fn {K : PySem.W.Frag} {x : Str} {st : Stmt} {h : Heap} {mg : Str → Option Value} (H : Has K x st) (X : K.In h) (G : h.Ns mainGlobals mg) : ∃ (f : Addr) (fd : FuncData), Fun K x x st f fd ∧ mg x = some (.ref f) := by
  obtain ⟨f, oc, od, kV, dc, pm, an, cd, ct, sl, a, l, c, k⟩ := H
  exact ⟨f, _, fun_mk (st := st) l c k, PySem.W.mg_of X G a⟩
theorem has_mk {K : PySem.W.Frag} {x : Str} {st : Stmt} {f : Addr} {oc kV dc pm cd ct : Value} {od an : Option Addr} {sl : Array (Option Value)} (a : PySem.W.nsIn K mainGlobals x = some (some (.ref f)))
    (l : K.lookup f = some ⟨oc, od, .func (PySem.W.fnOf x x (defArgs st) (defBody st) (defScope st) .none kV dc pm an cd ct), sl⟩) (c : PySem.W.codeIn K cd x = true) (k : PySem.W.keepIn K (.ref f) = true) : Has K x st := ⟨f, oc, od, kV, dc, pm, an, cd, ct, sl, a, l, c, k⟩
/-- a written number of the text -/
noncomputable def HasInt (K : PySem.W.Frag) (x : Str) (n : Int) : Prop := ∃ t, PySem.W.nsIn K mainGlobals x = some (some (.int n t))
theorem hasInt_mk {K : PySem.W.Frag} {x : Str} {n : Int} {t : Tok} (a : PySem.W.nsIn K mainGlobals x = some (some (.int n t))) : HasInt K x n := ⟨t, a⟩
noncomputable def HasNot (K : PySem.W.Frag) (x : Str) : Prop := PySem.W.nsIn K mainGlobals x = some none
noncomputable def erOf (c0 c1 c2 c3 c4 c5 : Addr) (n : Str) : Addr := if n = "TieError" then c0 else if n = "InvalidNumber" then c1 else if n = "InvalidCompany" then c2 else if n = "InvalidProgram" then c3 else if n = "InvalidLot" then c4 else c5
theorem er_0 (c0 c1 c2 c3 c4 c5 : Addr) : erOf c0 c1 c2 c3 c4 c5 "TieError" = c0 := by
  unfold erOf
  rw [if_pos rfl]
theorem er_1 (c0 c1 c2 c3 c4 c5 : Addr) : erOf c0 c1 c2 c3 c4 c5 "InvalidNumber" = c1 := by
  unfold erOf
  rw [if_neg (by decide), if_pos rfl]
theorem er_2 (c0 c1 c2 c3 c4 c5 : Addr) : erOf c0 c1 c2 c3 c4 c5 "InvalidCompany" = c2 := by
  unfold erOf
  rw [if_neg (by decide), if_neg (by decide), if_pos rfl]
theorem er_3 (c0 c1 c2 c3 c4 c5 : Addr) : erOf c0 c1 c2 c3 c4 c5 "InvalidProgram" = c3 := by
  unfold erOf
  rw [if_neg (by decide), if_neg (by decide), if_neg (by decide), if_pos rfl]
theorem er_4 (c0 c1 c2 c3 c4 c5 : Addr) : erOf c0 c1 c2 c3 c4 c5 "InvalidLot" = c4 := by
  unfold erOf
  rw [if_neg (by decide), if_neg (by decide), if_neg (by decide), if_neg (by decide), if_pos rfl]
theorem er_5 (c0 c1 c2 c3 c4 c5 : Addr) : erOf c0 c1 c2 c3 c4 c5 "InvalidWishes" = c5 := by
  unfold erOf
  rw [if_neg (by decide), if_neg (by decide), if_neg (by decide), if_neg (by decide), if_neg (by decide)]
noncomputable def HasTurns (K : PySem.W.Frag) : Prop := ∃ T, PySem.W.nsIn K mainGlobals "TURNS" = some (some (.ref T)) ∧ ∀ H, Dp K H (.ref T) (.tuple turnsD)
theorem hasTurns_mk {K : PySem.W.Frag} {T T1 T2 T3 : Addr} {d d1 d2 d3 : Option Addr} {n n1 n2 n3 : Nat} {s s1 s2 s3 : Array (Option Value)} {a1 a2 a3 b1 b2 b3 : Tok} (a : PySem.W.nsIn K mainGlobals "TURNS" = some (some (.ref T)))
    (h : K.lookup T = some ⟨.type "tuple", d, .seq #[.ref T1, .ref T2, .ref T3] n, s⟩) (h1 : K.lookup T1 = some ⟨.type "tuple", d1, .seq #[.int 0 a1, .int 1 b1] n1, s1⟩) (h2 : K.lookup T2 = some ⟨.type "tuple", d2, .seq #[.int 0 a2, .int 2 b2] n2, s2⟩) (h3 : K.lookup T3 = some ⟨.type "tuple", d3, .seq #[.int 1 a3, .int 2 b3] n3, s3⟩) : HasTurns K := ⟨T, a, fun H => turns_of h h1 h2 h3 H⟩
theorem all_mk {l : PySem.W.OpenLaw} {w : World} {K : PySem.W.Frag} {h : Heap} {mg : Str → Option Value} {fa : Addr} (X : K.In h) (G : h.Ns mainGlobals mg) (hfa : mg "law" = some (.ref fa))
    (h14 : Has K "is_whole" sWhole) (h17 : Has K "are_kinds" sKindsA) (h24 : Has K "check_kinds" sKnd) (h15 : Has K "is_count" sCountA) (h25 : Has K "check_count" sCnt) (h49 : Has K "ways_of_group" sWays) (h72 : Has K "how_many_states" sHowMany) (h16 : Has K "is_below" sBelow) (h26 : Has K "check_below" sBel) (h23 : Has K "is_order" sOrderA) (h66 : Has K "lots_by_size" sLotsB) (h65 : Has K "cycles_of" sCycles) (h89 : Has K "is_odd" sOdd) (h90 : Has K "fits" sFits) (h91 : Has K "is_family" sFamily) (h99 : Has K "is_told" sToldX) (h48 : Has K "power" sPowO) (h101 : Has K "how_many_programs" sHowProgs) (h104 : Has K "_law_cell" sCell) (h106 : Has K "_law_generator" sGen) (h105 : Has K "_law_hash" sHash) (h107 : Has K "_law_random" sRandom) (h109 : Has K "_law_tied" sTied) (h108 : Has K "_law_company" sCompS) (h110 : Has K "_law_program" sProgM) (h22 : Has K "is_lot" sLotA) (h54 : Has K "check_state_lot" sCkLotS) (h71 : Has K "states_of" sD7) (h20 : Has K "is_couple" sCoupleD) (h69 : Has K "is_program" sIsProg) (h52 : Has K "check_program" sCkProg) (h68 : Has K "check_programs" sCkProgs) (h74 : Has K "programs_alike" sD4) (h75 : Has K "parting_state" sD5) (h76 : Has K "parting_company" sD6) (h77 : Has K "undone_program" sD9) (h83 : Has K "rounds_of" sD10) (h98 : Has K "shuffle_of" sD8) (h100 : Has K "made_program" sMadeP) (h102 : Has K "shortest_program" sD14) (h18 : Has K "is_row" sRow) (h19 : Has K "is_company_of" sCompOf) (h27 : Has K "check_company" sCom) (h53 : Has K "check_run" sCkRun) (h70 : Has K "run" sD0) (h21 : Has K "is_couple_with_kind" sCplK) (h56 : Has K "is_state" sIsState) (h73 : Has K "state_after" sD2) (h82 : Has K "blocks_of" sD1) (h84 : Has K "run_often" sD3) (h112 : Has K "_law_first" sFirstP) (h111 : Has K "_law_called" sCalledP) (h113 : Has K "_law_told" sTold) (h114 : Has K "_law_only" sOnly) (h115 : Has K "_law_is_program" sLawProg) (h116 : Has K "_law_bent" sBentP) (h117 : Has K "_law_programs_right" sRightP) (h118 : Has K "_law_kinds_right" sRightK) (h119 : Has K "_law_lots_right" sRightL) (h120 : Has K "_law_numbers_right" sRightN) (h121 : Has K "law" sLaw)
    (c0 : HasInt K "LEAST_KINDS" 2) (c1 : HasInt K "MOST_KINDS" 9) (c2 : HasInt K "MOST_PEOPLE" 40)
    (z0 : HasNot K "int") (z1 : HasNot K "len") (z2 : HasNot K "sum") (z3 : HasNot K "max") (z4 : HasNot K "min") (z5 : HasNot K "range") (z6 : HasNot K "isinstance") (z7 : HasNot K "bool") (z8 : HasNot K "list") (z9 : HasNot K "tuple") (z10 : HasNot K "all") (z11 : HasNot K "enumerate") (z12 : HasNot K "repr") (z13 : HasNot K "zip") (z14 : HasNot K "any") (z15 : HasNot K "set") (z16 : HasNot K "sorted")
    (pg0 : HasInt K "MOST_TOLD" 4) (pg1 : HasInt K "MOST_COUNTED" 5) (pg2 : PySem.W.nsIn K mainGlobals "comb" = some (some (.builtin "math.comb"))) (pg3 : HasTurns K)
    (m0 : PySem.W.nsIn K mainGlobals "combinations" = some (some (.type "itertools.combinations")))
    {C0 C1 C2 C3 C4 C5 : Addr} (x0 : PySem.W.nsIn K mainGlobals "TieError" = some (some (.ref C0))) (zv : HasNot K "ValueError")
    (x1 : HasErr K "InvalidNumber" C1) (x2 : HasErr K "InvalidCompany" C2) (x3 : HasErr K "InvalidProgram" C3) (x4 : HasErr K "InvalidLot" C4) (x5 : HasErr K "InvalidWishes" C5)
    (y0 : PySem.W.subIn K (.ref C0) (.type "BaseException") = some true) (y1 : PySem.W.typeIn K (.ref C0) = some (.type "type")) (y2 : PySem.W.hasDictIn K C0 = true)
    (ym1 : PySem.W.subIn K (.ref C1) (.ref C0) = some true) (yv1 : PySem.W.subIn K (.ref C1) (.type "ValueError") = some true) (ym2 : PySem.W.subIn K (.ref C2) (.ref C0) = some true) (yv2 : PySem.W.subIn K (.ref C2) (.type "ValueError") = some true) (ym3 : PySem.W.subIn K (.ref C3) (.ref C0) = some true) (yv3 : PySem.W.subIn K (.ref C3) (.type "ValueError") = some true) (ym4 : PySem.W.subIn K (.ref C4) (.ref C0) = some true) (yv4 : PySem.W.subIn K (.ref C4) (.type "ValueError") = some true) (ym5 : PySem.W.subIn K (.ref C5) (.ref C0) = some true) (yv5 : PySem.W.subIn K (.ref C5) (.type "ValueError") = some true)
    (ys1_1 : PySem.W.subIn K (.ref C1) (.ref C1) = some true) (ys1_2 : PySem.W.subIn K (.ref C1) (.ref C2) = some false) (ys1_3 : PySem.W.subIn K (.ref C1) (.ref C3) = some false) (ys1_4 : PySem.W.subIn K (.ref C1) (.ref C4) = some false) (ys1_5 : PySem.W.subIn K (.ref C1) (.ref C5) = some false) (ys2_1 : PySem.W.subIn K (.ref C2) (.ref C1) = some false) (ys2_2 : PySem.W.subIn K (.ref C2) (.ref C2) = some true) (ys2_3 : PySem.W.subIn K (.ref C2) (.ref C3) = some false) (ys2_4 : PySem.W.subIn K (.ref C2) (.ref C4) = some false) (ys2_5 : PySem.W.subIn K (.ref C2) (.ref C5) = some false) (ys3_1 : PySem.W.subIn K (.ref C3) (.ref C1) = some false) (ys3_2 : PySem.W.subIn K (.ref C3) (.ref C2) = some false) (ys3_3 : PySem.W.subIn K (.ref C3) (.ref C3) = some true) (ys3_4 : PySem.W.subIn K (.ref C3) (.ref C4) = some false) (ys3_5 : PySem.W.subIn K (.ref C3) (.ref C5) = some false) (ys4_1 : PySem.W.subIn K (.ref C4) (.ref C1) = some false) (ys4_2 : PySem.W.subIn K (.ref C4) (.ref C2) = some false) (ys4_3 : PySem.W.subIn K (.ref C4) (.ref C3) = some false) (ys4_4 : PySem.W.subIn K (.ref C4) (.ref C4) = some true) (ys4_5 : PySem.W.subIn K (.ref C4) (.ref C5) = some false) (ys5_1 : PySem.W.subIn K (.ref C5) (.ref C1) = some false) (ys5_2 : PySem.W.subIn K (.ref C5) (.ref C2) = some false) (ys5_3 : PySem.W.subIn K (.ref C5) (.ref C3) = some false) (ys5_4 : PySem.W.subIn K (.ref C5) (.ref C4) = some false) (ys5_5 : PySem.W.subIn K (.ref C5) (.ref C5) = some true)
    :
    ∃ fd : FuncData, (∀ (s : Shared) (v : Value), BindsTo s fd ⟨[v], []⟩ [("_law_script", v)]) ∧ ∀ base : Heap, K.In base → base.Ns mainGlobals mg → FnG l.prog w K mg base CX0 12 fa fd ["_law_script"] (spLaw K) := by
  have nn : ∀ {x : Str}, HasNot K x → mg x = none := fun z => PySem.W.mg_none_of X G z
  have T : Bi mg := ⟨nn z0, nn z1, nn z2, nn z3, nn z4, nn z5, nn z6, nn z7, nn z8, nn z9, nn z10, nn z11, nn z12, nn z13, nn z14, nn z15, nn z16⟩
  have PG : Pg K mg := ⟨let ⟨t, a⟩ := pg0; ⟨t, PySem.W.mg_of X G a⟩, let ⟨t, a⟩ := pg1; ⟨t, PySem.W.mg_of X G a⟩, PySem.W.mg_of X G pg2, let ⟨T, a, d⟩ := pg3; ⟨T, PySem.W.mg_of X G a, d⟩⟩
  have IM : Im mg := PySem.W.mg_of X G m0
  have C : Cs mg := ⟨let ⟨t, a⟩ := c0; ⟨t, PySem.W.mg_of X G a⟩, let ⟨t, a⟩ := c1; ⟨t, PySem.W.mg_of X G a⟩, let ⟨t, a⟩ := c2; ⟨t, PySem.W.mg_of X G a⟩⟩
  obtain ⟨er, her⟩ : ∃ er, er = erOf C0 C1 C2 C3 C4 C5 := ⟨_, rfl⟩
  have e0 : er "TieError" = C0 := by rw [her]; exact er_0 C0 C1 C2 C3 C4 C5
  have e1 : er "InvalidNumber" = C1 := by rw [her]; exact er_1 C0 C1 C2 C3 C4 C5
  have e2 : er "InvalidCompany" = C2 := by rw [her]; exact er_2 C0 C1 C2 C3 C4 C5
  have e3 : er "InvalidProgram" = C3 := by rw [her]; exact er_3 C0 C1 C2 C3 C4 C5
  have e4 : er "InvalidLot" = C4 := by rw [her]; exact er_4 C0 C1 C2 C3 C4 C5
  have e5 : er "InvalidWishes" = C5 := by rw [her]; exact er_5 C0 C1 C2 C3 C4 C5
  obtain ⟨i1, r1, q1⟩ := x1.err X G
  rw [← e1] at r1
  obtain ⟨i2, r2, q2⟩ := x2.err X G
  rw [← e2] at r2
  obtain ⟨i3, r3, q3⟩ := x3.err X G
  rw [← e3] at r3
  obtain ⟨i4, r4, q4⟩ := x4.err X G
  rw [← e4] at r4
  obtain ⟨i5, r5, q5⟩ := x5.err X G
  rw [← e5] at r5
  obtain ⟨l1, t1, b1' ⟩ := x1.cl
  have xm1 := exm_by y0 (cls_of y2) y1 ym1
  have xv1 := kit_val yv1
  obtain ⟨l2, t2, b2' ⟩ := x2.cl
  have xm2 := exm_by y0 (cls_of y2) y1 ym2
  have xv2 := kit_val yv2
  obtain ⟨l3, t3, b3' ⟩ := x3.cl
  have xm3 := exm_by y0 (cls_of y2) y1 ym3
  have xv3 := kit_val yv3
  obtain ⟨l4, t4, b4' ⟩ := x4.cl
  have xm4 := exm_by y0 (cls_of y2) y1 ym4
  have xv4 := kit_val yv4
  obtain ⟨l5, t5, b5' ⟩ := x5.cl
  have xm5 := exm_by y0 (cls_of y2) y1 ym5
  have xv5 := kit_val yv5
  have xk1_1 : PySem.W.kitOne K (.ref C1) (.ref C1) = some true := kit_same
  have xe1_1 := exm_by b1' l1 t1 ys1_1
  have xk1_2 : PySem.W.kitOne K (.ref C1) (.ref C2) = some false := kit_by l2 t2 ys1_2 ys1_1
  have xe1_2 := exm_by b2' l2 t2 ys1_2
  have xk1_3 : PySem.W.kitOne K (.ref C1) (.ref C3) = some false := kit_by l3 t3 ys1_3 ys1_1
  have xe1_3 := exm_by b3' l3 t3 ys1_3
  have xk1_4 : PySem.W.kitOne K (.ref C1) (.ref C4) = some false := kit_by l4 t4 ys1_4 ys1_1
  have xe1_4 := exm_by b4' l4 t4 ys1_4
  have xk1_5 : PySem.W.kitOne K (.ref C1) (.ref C5) = some false := kit_by l5 t5 ys1_5 ys1_1
  have xe1_5 := exm_by b5' l5 t5 ys1_5
  have xk2_1 : PySem.W.kitOne K (.ref C2) (.ref C1) = some false := kit_by l1 t1 ys2_1 ys2_2
  have xe2_1 := exm_by b1' l1 t1 ys2_1
  have xk2_2 : PySem.W.kitOne K (.ref C2) (.ref C2) = some true := kit_same
  have xe2_2 := exm_by b2' l2 t2 ys2_2
  have xk2_3 : PySem.W.kitOne K (.ref C2) (.ref C3) = some false := kit_by l3 t3 ys2_3 ys2_2
  have xe2_3 := exm_by b3' l3 t3 ys2_3
  have xk2_4 : PySem.W.kitOne K (.ref C2) (.ref C4) = some false := kit_by l4 t4 ys2_4 ys2_2
  have xe2_4 := exm_by b4' l4 t4 ys2_4
  have xk2_5 : PySem.W.kitOne K (.ref C2) (.ref C5) = some false := kit_by l5 t5 ys2_5 ys2_2
  have xe2_5 := exm_by b5' l5 t5 ys2_5
  have xk3_1 : PySem.W.kitOne K (.ref C3) (.ref C1) = some false := kit_by l1 t1 ys3_1 ys3_3
  have xe3_1 := exm_by b1' l1 t1 ys3_1
  have xk3_2 : PySem.W.kitOne K (.ref C3) (.ref C2) = some false := kit_by l2 t2 ys3_2 ys3_3
  have xe3_2 := exm_by b2' l2 t2 ys3_2
  have xk3_3 : PySem.W.kitOne K (.ref C3) (.ref C3) = some true := kit_same
  have xe3_3 := exm_by b3' l3 t3 ys3_3
  have xk3_4 : PySem.W.kitOne K (.ref C3) (.ref C4) = some false := kit_by l4 t4 ys3_4 ys3_3
  have xe3_4 := exm_by b4' l4 t4 ys3_4
  have xk3_5 : PySem.W.kitOne K (.ref C3) (.ref C5) = some false := kit_by l5 t5 ys3_5 ys3_3
  have xe3_5 := exm_by b5' l5 t5 ys3_5
  have xk4_1 : PySem.W.kitOne K (.ref C4) (.ref C1) = some false := kit_by l1 t1 ys4_1 ys4_4
  have xe4_1 := exm_by b1' l1 t1 ys4_1
  have xk4_2 : PySem.W.kitOne K (.ref C4) (.ref C2) = some false := kit_by l2 t2 ys4_2 ys4_4
  have xe4_2 := exm_by b2' l2 t2 ys4_2
  have xk4_3 : PySem.W.kitOne K (.ref C4) (.ref C3) = some false := kit_by l3 t3 ys4_3 ys4_4
  have xe4_3 := exm_by b3' l3 t3 ys4_3
  have xk4_4 : PySem.W.kitOne K (.ref C4) (.ref C4) = some true := kit_same
  have xe4_4 := exm_by b4' l4 t4 ys4_4
  have xk4_5 : PySem.W.kitOne K (.ref C4) (.ref C5) = some false := kit_by l5 t5 ys4_5 ys4_4
  have xe4_5 := exm_by b5' l5 t5 ys4_5
  have xk5_1 : PySem.W.kitOne K (.ref C5) (.ref C1) = some false := kit_by l1 t1 ys5_1 ys5_5
  have xe5_1 := exm_by b1' l1 t1 ys5_1
  have xk5_2 : PySem.W.kitOne K (.ref C5) (.ref C2) = some false := kit_by l2 t2 ys5_2 ys5_5
  have xe5_2 := exm_by b2' l2 t2 ys5_2
  have xk5_3 : PySem.W.kitOne K (.ref C5) (.ref C3) = some false := kit_by l3 t3 ys5_3 ys5_5
  have xe5_3 := exm_by b3' l3 t3 ys5_3
  have xk5_4 : PySem.W.kitOne K (.ref C5) (.ref C4) = some false := kit_by l4 t4 ys5_4 ys5_5
  have xe5_4 := exm_by b4' l4 t4 ys5_4
  have xk5_5 : PySem.W.kitOne K (.ref C5) (.ref C5) = some true := kit_same
  have xe5_5 := exm_by b5' l5 t5 ys5_5
  have ER : Errs fiveN K mg er := by
    refine ⟨by rw [e0]; exact PySem.W.mg_of X G x0, fun x hx => ?_, fun x hx => ?_, nn zv, fun x hx => ?_, fun x hx y hy => ?_, fun x hx y hy => ?_⟩
    · simp only [fiveN, List.mem_cons, List.not_mem_nil, or_false] at hx
      rcases hx with rfl | rfl | rfl | rfl | rfl
      · exact ⟨i1, r1⟩
      · exact ⟨i2, r2⟩
      · exact ⟨i3, r3⟩
      · exact ⟨i4, r4⟩
      · exact ⟨i5, r5⟩
    · simp only [fiveN, List.mem_cons, List.not_mem_nil, or_false] at hx
      rcases hx with rfl | rfl | rfl | rfl | rfl
      · rw [e1, e0]; exact xm1
      · rw [e2, e0]; exact xm2
      · rw [e3, e0]; exact xm3
      · rw [e4, e0]; exact xm4
      · rw [e5, e0]; exact xm5
    · simp only [fiveN, List.mem_cons, List.not_mem_nil, or_false] at hx
      rcases hx with rfl | rfl | rfl | rfl | rfl
      · rw [e1]; exact xv1
      · rw [e2]; exact xv2
      · rw [e3]; exact xv3
      · rw [e4]; exact xv4
      · rw [e5]; exact xv5
    · simp only [fiveN, List.mem_cons, List.not_mem_nil, or_false] at hx
      simp only [fiveN, List.mem_cons, List.not_mem_nil, or_false] at hy
      rcases hx with rfl | rfl | rfl | rfl | rfl
      · rcases hy with rfl | rfl | rfl | rfl | rfl
        · rw [e1]; exact xk1_1.trans (by decide +kernel)
        · rw [e1, e2]; exact xk1_2.trans (by decide +kernel)
        · rw [e1, e3]; exact xk1_3.trans (by decide +kernel)
        · rw [e1, e4]; exact xk1_4.trans (by decide +kernel)
        · rw [e1, e5]; exact xk1_5.trans (by decide +kernel)
      · rcases hy with rfl | rfl | rfl | rfl | rfl
        · rw [e2, e1]; exact xk2_1.trans (by decide +kernel)
        · rw [e2]; exact xk2_2.trans (by decide +kernel)
        · rw [e2, e3]; exact xk2_3.trans (by decide +kernel)
        · rw [e2, e4]; exact xk2_4.trans (by decide +kernel)
        · rw [e2, e5]; exact xk2_5.trans (by decide +kernel)
      · rcases hy with rfl | rfl | rfl | rfl | rfl
        · rw [e3, e1]; exact xk3_1.trans (by decide +kernel)
        · rw [e3, e2]; exact xk3_2.trans (by decide +kernel)
        · rw [e3]; exact xk3_3.trans (by decide +kernel)
        · rw [e3, e4]; exact xk3_4.trans (by decide +kernel)
        · rw [e3, e5]; exact xk3_5.trans (by decide +kernel)
      · rcases hy with rfl | rfl | rfl | rfl | rfl
        · rw [e4, e1]; exact xk4_1.trans (by decide +kernel)
        · rw [e4, e2]; exact xk4_2.trans (by decide +kernel)
        · rw [e4, e3]; exact xk4_3.trans (by decide +kernel)
        · rw [e4]; exact xk4_4.trans (by decide +kernel)
        · rw [e4, e5]; exact xk4_5.trans (by decide +kernel)
      · rcases hy with rfl | rfl | rfl | rfl | rfl
        · rw [e5, e1]; exact xk5_1.trans (by decide +kernel)
        · rw [e5, e2]; exact xk5_2.trans (by decide +kernel)
        · rw [e5, e3]; exact xk5_3.trans (by decide +kernel)
        · rw [e5, e4]; exact xk5_4.trans (by decide +kernel)
        · rw [e5]; exact xk5_5.trans (by decide +kernel)
    · simp only [fiveN, List.mem_cons, List.not_mem_nil, or_false] at hx
      simp only [fiveN, List.mem_cons, List.not_mem_nil, or_false] at hy
      rcases hx with rfl | rfl | rfl | rfl | rfl
      · rcases hy with rfl | rfl | rfl | rfl | rfl
        · rw [e1]; exact xe1_1.trans (by decide +kernel)
        · rw [e1, e2]; exact xe1_2.trans (by decide +kernel)
        · rw [e1, e3]; exact xe1_3.trans (by decide +kernel)
        · rw [e1, e4]; exact xe1_4.trans (by decide +kernel)
        · rw [e1, e5]; exact xe1_5.trans (by decide +kernel)
      · rcases hy with rfl | rfl | rfl | rfl | rfl
        · rw [e2, e1]; exact xe2_1.trans (by decide +kernel)
        · rw [e2]; exact xe2_2.trans (by decide +kernel)
        · rw [e2, e3]; exact xe2_3.trans (by decide +kernel)
        · rw [e2, e4]; exact xe2_4.trans (by decide +kernel)
        · rw [e2, e5]; exact xe2_5.trans (by decide +kernel)
      · rcases hy with rfl | rfl | rfl | rfl | rfl
        · rw [e3, e1]; exact xe3_1.trans (by decide +kernel)
        · rw [e3, e2]; exact xe3_2.trans (by decide +kernel)
        · rw [e3]; exact xe3_3.trans (by decide +kernel)
        · rw [e3, e4]; exact xe3_4.trans (by decide +kernel)
        · rw [e3, e5]; exact xe3_5.trans (by decide +kernel)
      · rcases hy with rfl | rfl | rfl | rfl | rfl
        · rw [e4, e1]; exact xe4_1.trans (by decide +kernel)
        · rw [e4, e2]; exact xe4_2.trans (by decide +kernel)
        · rw [e4, e3]; exact xe4_3.trans (by decide +kernel)
        · rw [e4]; exact xe4_4.trans (by decide +kernel)
        · rw [e4, e5]; exact xe4_5.trans (by decide +kernel)
      · rcases hy with rfl | rfl | rfl | rfl | rfl
        · rw [e5, e1]; exact xe5_1.trans (by decide +kernel)
        · rw [e5, e2]; exact xe5_2.trans (by decide +kernel)
        · rw [e5, e3]; exact xe5_3.trans (by decide +kernel)
        · rw [e5, e4]; exact xe5_4.trans (by decide +kernel)
        · rw [e5]; exact xe5_5.trans (by decide +kernel)
  obtain ⟨f14, fd14, F14, g14⟩ := h14.fn X G
  obtain ⟨f17, fd17, F17, g17⟩ := h17.fn X G
  obtain ⟨f24, fd24, F24, g24⟩ := h24.fn X G
  obtain ⟨f15, fd15, F15, g15⟩ := h15.fn X G
  obtain ⟨f25, fd25, F25, g25⟩ := h25.fn X G
  obtain ⟨f49, fd49, F49, g49⟩ := h49.fn X G
  obtain ⟨f72, fd72, F72, g72⟩ := h72.fn X G
  obtain ⟨f16, fd16, F16, g16⟩ := h16.fn X G
  obtain ⟨f26, fd26, F26, g26⟩ := h26.fn X G
  obtain ⟨f23, fd23, F23, g23⟩ := h23.fn X G
  obtain ⟨f66, fd66, F66, g66⟩ := h66.fn X G
  obtain ⟨f65, fd65, F65, g65⟩ := h65.fn X G
  obtain ⟨f89, fd89, F89, g89⟩ := h89.fn X G
  obtain ⟨f90, fd90, F90, g90⟩ := h90.fn X G
  obtain ⟨f91, fd91, F91, g91⟩ := h91.fn X G
  obtain ⟨f99, fd99, F99, g99⟩ := h99.fn X G
  obtain ⟨f48, fd48, F48, g48⟩ := h48.fn X G
  obtain ⟨f101, fd101, F101, g101⟩ := h101.fn X G
  obtain ⟨f104, fd104, F104, g104⟩ := h104.fn X G
  obtain ⟨f106, fd106, F106, g106⟩ := h106.fn X G
  obtain ⟨f105, fd105, F105, g105⟩ := h105.fn X G
  obtain ⟨f107, fd107, F107, g107⟩ := h107.fn X G
  obtain ⟨f109, fd109, F109, g109⟩ := h109.fn X G
  obtain ⟨f108, fd108, F108, g108⟩ := h108.fn X G
  obtain ⟨f110, fd110, F110, g110⟩ := h110.fn X G
  obtain ⟨f22, fd22, F22, g22⟩ := h22.fn X G
  obtain ⟨f54, fd54, F54, g54⟩ := h54.fn X G
  obtain ⟨f71, fd71, F71, g71⟩ := h71.fn X G
  obtain ⟨f20, fd20, F20, g20⟩ := h20.fn X G
  obtain ⟨f69, fd69, F69, g69⟩ := h69.fn X G
  obtain ⟨f52, fd52, F52, g52⟩ := h52.fn X G
  obtain ⟨f68, fd68, F68, g68⟩ := h68.fn X G
  obtain ⟨f74, fd74, F74, g74⟩ := h74.fn X G
  obtain ⟨f75, fd75, F75, g75⟩ := h75.fn X G
  obtain ⟨f76, fd76, F76, g76⟩ := h76.fn X G
  obtain ⟨f77, fd77, F77, g77⟩ := h77.fn X G
  obtain ⟨f83, fd83, F83, g83⟩ := h83.fn X G
  obtain ⟨f98, fd98, F98, g98⟩ := h98.fn X G
  obtain ⟨f100, fd100, F100, g100⟩ := h100.fn X G
  obtain ⟨f102, fd102, F102, g102⟩ := h102.fn X G
  obtain ⟨f18, fd18, F18, g18⟩ := h18.fn X G
  obtain ⟨f19, fd19, F19, g19⟩ := h19.fn X G
  obtain ⟨f27, fd27, F27, g27⟩ := h27.fn X G
  obtain ⟨f53, fd53, F53, g53⟩ := h53.fn X G
  obtain ⟨f70, fd70, F70, g70⟩ := h70.fn X G
  obtain ⟨f21, fd21, F21, g21⟩ := h21.fn X G
  obtain ⟨f56, fd56, F56, g56⟩ := h56.fn X G
  obtain ⟨f73, fd73, F73, g73⟩ := h73.fn X G
  obtain ⟨f82, fd82, F82, g82⟩ := h82.fn X G
  obtain ⟨f84, fd84, F84, g84⟩ := h84.fn X G
  obtain ⟨f112, fd112, F112, g112⟩ := h112.fn X G
  obtain ⟨f111, fd111, F111, g111⟩ := h111.fn X G
  obtain ⟨f113, fd113, F113, g113⟩ := h113.fn X G
  obtain ⟨f114, fd114, F114, g114⟩ := h114.fn X G
  obtain ⟨f115, fd115, F115, g115⟩ := h115.fn X G
  obtain ⟨f116, fd116, F116, g116⟩ := h116.fn X G
  obtain ⟨f117, fd117, F117, g117⟩ := h117.fn X G
  obtain ⟨f118, fd118, F118, g118⟩ := h118.fn X G
  obtain ⟨f119, fd119, F119, g119⟩ := h119.fn X G
  obtain ⟨f120, fd120, F120, g120⟩ := h120.fn X G
  have b14 := F14.binds (ps := ["value"]) fun _ _ _ _ _ _ us hl => by
    obtain ⟨_, rfl⟩ := len1 (l := us) hl
    rfl
  have b17 := F17.binds (ps := ["value"]) fun _ _ _ _ _ _ us hl => by
    obtain ⟨_, rfl⟩ := len1 (l := us) hl
    rfl
  have b24 := F24.binds (ps := ["kinds"]) fun _ _ _ _ _ _ us hl => by
    obtain ⟨_, rfl⟩ := len1 (l := us) hl
    rfl
  have b15 := F15.binds (ps := ["value"]) fun _ _ _ _ _ _ us hl => by
    obtain ⟨_, rfl⟩ := len1 (l := us) hl
    rfl
  have b25 := F25.binds (ps := ["value"]) fun _ _ _ _ _ _ us hl => by
    obtain ⟨_, rfl⟩ := len1 (l := us) hl
    rfl
  have b49 := F49.binds (ps := ["kinds", "people"]) fun _ _ _ _ _ _ us hl => by
    obtain ⟨_, _, rfl⟩ := len2 (l := us) hl
    rfl
  have b72 := F72.binds (ps := ["kinds", "many"]) fun _ _ _ _ _ _ us hl => by
    obtain ⟨_, _, rfl⟩ := len2 (l := us) hl
    rfl
  have b16 := F16.binds (ps := ["value", "bound"]) fun _ _ _ _ _ _ us hl => by
    obtain ⟨_, _, rfl⟩ := len2 (l := us) hl
    rfl
  have b26 := F26.binds (ps := ["value", "bound"]) fun _ _ _ _ _ _ us hl => by
    obtain ⟨_, _, rfl⟩ := len2 (l := us) hl
    rfl
  have b23 := F23.binds (ps := ["many", "value"]) fun _ _ _ _ _ _ us hl => by
    obtain ⟨_, _, rfl⟩ := len2 (l := us) hl
    rfl
  have b66 := F66.binds (ps := ["people"]) fun _ _ _ _ _ _ us hl => by
    obtain ⟨_, rfl⟩ := len1 (l := us) hl
    rfl
  have b65 := F65.binds (ps := ["shuffle"]) fun _ _ _ _ _ _ us hl => by
    obtain ⟨_, rfl⟩ := len1 (l := us) hl
    rfl
  have b89 := F89.binds (ps := ["shuffle"]) fun _ _ _ _ _ _ us hl => by
    obtain ⟨_, rfl⟩ := len1 (l := us) hl
    rfl
  have b90 := F90.binds (ps := ["kinds", "lot", "told", "strides"]) fun _ _ _ _ _ _ us hl => by
    obtain ⟨_, _, _, _, rfl⟩ := len4 (l := us) hl
    rfl
  have b91 := F91.binds (ps := ["kinds", "many", "value"]) fun _ _ _ _ _ _ us hl => by
    obtain ⟨_, _, _, rfl⟩ := len3 (l := us) hl
    rfl
  have b99 := F99.binds (ps := ["kinds", "many", "value"]) fun _ _ _ _ _ _ us hl => by
    obtain ⟨_, _, _, rfl⟩ := len3 (l := us) hl
    rfl
  have b48 := F48.binds (ps := ["number", "times"]) fun _ _ _ _ _ _ us hl => by
    obtain ⟨_, _, rfl⟩ := len2 (l := us) hl
    rfl
  have b101 := F101.binds (ps := ["kinds", "many"]) fun _ _ _ _ _ _ us hl => by
    obtain ⟨_, _, rfl⟩ := len2 (l := us) hl
    rfl
  have b104 := F104.binds (ps := ["_law_script", "_law_index"]) fun _ _ _ _ _ _ us hl => by
    obtain ⟨_, _, rfl⟩ := len2 (l := us) hl
    rfl
  have b106 := F106.binds (ps := ["_law_script", "_law_index"]) fun _ _ _ _ _ _ us hl => by
    obtain ⟨_, _, rfl⟩ := len2 (l := us) hl
    rfl
  have b105 := F105.binds (ps := ["_law_seed", "_law_index"]) fun _ _ _ _ _ _ us hl => by
    obtain ⟨_, _, rfl⟩ := len2 (l := us) hl
    rfl
  have b107 := F107.binds (ps := ["_law_generator_here", "_law_limit"]) fun _ _ _ _ _ _ us hl => by
    obtain ⟨_, _, rfl⟩ := len2 (l := us) hl
    rfl
  have b109 := F109.binds (ps := ["_law_rows", "_law_lot", "_law_others", "_law_kind"]) fun _ _ _ _ _ _ us hl => by
    obtain ⟨_, _, _, _, rfl⟩ := len4 (l := us) hl
    rfl
  have b108 := F108.binds (ps := ["_law_generator_here", "_law_kinds", "_law_size"]) fun _ _ _ _ _ _ us hl => by
    obtain ⟨_, _, _, rfl⟩ := len3 (l := us) hl
    rfl
  have b110 := F110.binds (ps := ["_law_generator_here", "_law_size", "_law_most"]) fun _ _ _ _ _ _ us hl => by
    obtain ⟨_, _, _, rfl⟩ := len3 (l := us) hl
    rfl
  have b22 := F22.binds (ps := ["many", "value"]) fun _ _ _ _ _ _ us hl => by
    obtain ⟨_, _, rfl⟩ := len2 (l := us) hl
    rfl
  have b54 := F54.binds (ps := ["kinds", "lot"]) fun _ _ _ _ _ _ us hl => by
    obtain ⟨_, _, rfl⟩ := len2 (l := us) hl
    rfl
  have b71 := F71.binds (ps := ["kinds", "lot"]) fun _ _ _ _ _ _ us hl => by
    obtain ⟨_, _, rfl⟩ := len2 (l := us) hl
    rfl
  have b20 := F20.binds (ps := ["many", "value"]) fun _ _ _ _ _ _ us hl => by
    obtain ⟨_, _, rfl⟩ := len2 (l := us) hl
    rfl
  have b69 := F69.binds (ps := ["value"]) fun _ _ _ _ _ _ us hl => by
    obtain ⟨_, rfl⟩ := len1 (l := us) hl
    rfl
  have b52 := F52.binds (ps := ["program"]) fun _ _ _ _ _ _ us hl => by
    obtain ⟨_, rfl⟩ := len1 (l := us) hl
    rfl
  have b68 := F68.binds (ps := ["kinds", "one", "other"]) fun _ _ _ _ _ _ us hl => by
    obtain ⟨_, _, _, rfl⟩ := len3 (l := us) hl
    rfl
  have b74 := F74.binds (ps := ["kinds", "one", "other"]) fun _ _ _ _ _ _ us hl => by
    obtain ⟨_, _, _, rfl⟩ := len3 (l := us) hl
    rfl
  have b75 := F75.binds (ps := ["kinds", "one", "other"]) fun _ _ _ _ _ _ us hl => by
    obtain ⟨_, _, _, rfl⟩ := len3 (l := us) hl
    rfl
  have b76 := F76.binds (ps := ["kinds", "one", "other"]) fun _ _ _ _ _ _ us hl => by
    obtain ⟨_, _, _, rfl⟩ := len3 (l := us) hl
    rfl
  have b77 := F77.binds (ps := ["kinds", "program"]) fun _ _ _ _ _ _ us hl => by
    obtain ⟨_, _, rfl⟩ := len2 (l := us) hl
    rfl
  have b83 := F83.binds (ps := ["kinds", "program"]) fun _ _ _ _ _ _ us hl => by
    obtain ⟨_, _, rfl⟩ := len2 (l := us) hl
    rfl
  have b98 := F98.binds (ps := ["kinds", "lot", "program"]) fun _ _ _ _ _ _ us hl => by
    obtain ⟨_, _, _, rfl⟩ := len3 (l := us) hl
    rfl
  have b100 := F100.binds (ps := ["kinds", "family"]) fun _ _ _ _ _ _ us hl => by
    obtain ⟨_, _, rfl⟩ := len2 (l := us) hl
    rfl
  have b102 := F102.binds (ps := ["program"]) fun _ _ _ _ _ _ us hl => by
    obtain ⟨_, rfl⟩ := len1 (l := us) hl
    rfl
  have b18 := F18.binds (ps := ["kinds", "many", "value"]) fun _ _ _ _ _ _ us hl => by
    obtain ⟨_, _, _, rfl⟩ := len3 (l := us) hl
    rfl
  have b19 := F19.binds (ps := ["kinds", "value"]) fun _ _ _ _ _ _ us hl => by
    obtain ⟨_, _, rfl⟩ := len2 (l := us) hl
    rfl
  have b27 := F27.binds (ps := ["kinds", "company"]) fun _ _ _ _ _ _ us hl => by
    obtain ⟨_, _, rfl⟩ := len2 (l := us) hl
    rfl
  have b53 := F53.binds (ps := ["kinds", "company", "program"]) fun _ _ _ _ _ _ us hl => by
    obtain ⟨_, _, _, rfl⟩ := len3 (l := us) hl
    rfl
  have b70 := F70.binds (ps := ["kinds", "company", "program"]) fun _ _ _ _ _ _ us hl => by
    obtain ⟨_, _, _, rfl⟩ := len3 (l := us) hl
    rfl
  have b21 := F21.binds (ps := ["kinds", "many", "value"]) fun _ _ _ _ _ _ us hl => by
    obtain ⟨_, _, _, rfl⟩ := len3 (l := us) hl
    rfl
  have b56 := F56.binds (ps := ["kinds", "lot", "value"]) fun _ _ _ _ _ _ us hl => by
    obtain ⟨_, _, _, rfl⟩ := len3 (l := us) hl
    rfl
  have b73 := F73.binds (ps := ["kinds", "lot", "state", "program"]) fun _ _ _ _ _ _ us hl => by
    obtain ⟨_, _, _, _, rfl⟩ := len4 (l := us) hl
    rfl
  have b82 := F82.binds (ps := ["kinds", "company", "program"]) fun _ _ _ _ _ _ us hl => by
    obtain ⟨_, _, _, rfl⟩ := len3 (l := us) hl
    rfl
  have b84 := F84.binds (ps := ["kinds", "company", "program", "times"]) fun _ _ _ _ _ _ us hl => by
    obtain ⟨_, _, _, _, rfl⟩ := len4 (l := us) hl
    rfl
  have b112 := F112.binds (ps := ["_law_door", "_law_args"]) fun _ _ _ _ _ _ us hl => by
    obtain ⟨_, _, rfl⟩ := len2 (l := us) hl
    rfl
  have b111 := F111.binds (ps := ["_law_door", "_law_args"]) fun _ _ _ _ _ _ us hl => by
    obtain ⟨_, _, rfl⟩ := len2 (l := us) hl
    rfl
  have b113 := F113.binds (ps := ["_law_door", "_law_args"]) fun _ _ _ _ _ _ us hl => by
    obtain ⟨_, _, rfl⟩ := len2 (l := us) hl
    rfl
  have b114 := F114.binds (ps := ["_law_at", "_law_value"]) fun _ _ _ _ _ _ us hl => by
    obtain ⟨_, _, rfl⟩ := len2 (l := us) hl
    rfl
  have b115 := F115.binds (ps := ["_law_value"]) fun _ _ _ _ _ _ us hl => by
    obtain ⟨_, rfl⟩ := len1 (l := us) hl
    rfl
  have b116 := F116.binds (ps := ["_law_generator_here", "_law_program_here"]) fun _ _ _ _ _ _ us hl => by
    obtain ⟨_, _, rfl⟩ := len2 (l := us) hl
    rfl
  have b117 := F117.binds (ps := ["_law_generator_here", "_law_kinds", "_law_company_here", "_law_program_here"]) fun _ _ _ _ _ _ us hl => by
    obtain ⟨_, _, _, _, rfl⟩ := len4 (l := us) hl
    rfl
  have b118 := F118.binds (ps := ["_law_company_here", "_law_program_here"]) fun _ _ _ _ _ _ us hl => by
    obtain ⟨_, _, rfl⟩ := len2 (l := us) hl
    rfl
  have b119 := F119.binds (ps := ["_law_kinds"]) fun _ _ _ _ _ _ us hl => by
    obtain ⟨_, rfl⟩ := len1 (l := us) hl
    rfl
  have b120 := F120.binds (ps := ["_law_kinds", "_law_company_here", "_law_program_here"]) fun _ _ _ _ _ _ us hl => by
    obtain ⟨_, _, _, rfl⟩ := len3 (l := us) hl
    rfl
  have kw0 : KBinds K fd69 ["value"] ["value"] gQ0 gQV0 := by
    obtain ⟨oc, od, kV, doc, pm, an, cdv, ct, osl, rfl, lk, hcd⟩ := F69.ex
    refine ⟨fun s us ws _ hl => ?_, fun a b => gQ0_rel a b⟩
    match us, ws, hl with
    | [], [v0], _ => exact .of_eq rfl
  obtain ⟨fl, oc, od, kV, dc, pm, an, cd, ct, sl, al, ll, cl, kl⟩ := h121
  have e := hfa.symm.trans (PySem.W.mg_of X G al)
  cases e
  refine ⟨PySem.W.fnOf "law" "law" (defArgs sLaw) (defBody sLaw) (defScope sLaw) .none kV dc pm an cd ct, fun s v => .of_eq rfl, fun base _ _ => ?_⟩
  have EU_InvalidNumber : ErrU l.prog w K mg base er "InvalidNumber" := ⟨i1, r1, q1 _ _ _⟩
  have EU_InvalidCompany : ErrU l.prog w K mg base er "InvalidCompany" := ⟨i2, r2, q2 _ _ _⟩
  have EU_InvalidProgram : ErrU l.prog w K mg base er "InvalidProgram" := ⟨i3, r3, q3 _ _ _⟩
  have EU_InvalidLot : ErrU l.prog w K mg base er "InvalidLot" := ⟨i4, r4, q4 _ _ _⟩
  have EU_InvalidWishes : ErrU l.prog w K mg base er "InvalidWishes" := ⟨i5, r5, q5 _ _ _⟩
  have U14 : Use l.prog w K mg base "is_whole" ["value"] (spWhole K) 1 := ⟨f14, fd14, ok_whole F14 T, g14, F14.kp, b14⟩
  have U17 : Use l.prog w K mg base "are_kinds" ["value"] (spKindsA K) 2 := ⟨f17, fd17, ok_kindsA F17 T C U14, g17, F17.kp, b17⟩
  have U24 : UseX l.prog w K mg base "check_kinds" ["kinds"] (spKnd K er) 3 := ⟨⟨f24, fd24, ok_knd F24 T U17 EU_InvalidNumber, g24, F24.kp, b24⟩⟩
  have U15 : Use l.prog w K mg base "is_count" ["value"] (spCountA K) 2 := ⟨f15, fd15, ok_countA F15 T U14, g15, F15.kp, b15⟩
  have U25 : UseX l.prog w K mg base "check_count" ["value"] (spCnt K er) 3 := ⟨⟨f25, fd25, ok_cnt F25 T U15 EU_InvalidNumber, g25, F25.kp, b25⟩⟩
  have U49 : Use l.prog w K mg base "ways_of_group" ["kinds", "people"] spWays 1 := ⟨f49, fd49, ok_ways F49 T, g49, F49.kp, b49⟩
  have U72 : UseX l.prog w K mg base "how_many_states" ["kinds", "many"] (spHowMany K er) 7 := ⟨⟨f72, fd72, ok_howMany F72 T U24 U25 U49, g72, F72.kp, b72⟩⟩
  have U16 : Use l.prog w K mg base "is_below" ["value", "bound"] (spBelow K) 2 := ⟨f16, fd16, ok_below F16 U14, g16, F16.kp, b16⟩
  have U26 : UseX l.prog w K mg base "check_below" ["value", "bound"] (spBel K er) 3 := ⟨⟨f26, fd26, ok_bel F26 T U16 EU_InvalidNumber, g26, F26.kp, b26⟩⟩
  have U23 : Use l.prog w K mg base "is_order" ["many", "value"] (spOrderA K) 3 := ⟨f23, fd23, ok_orderA F23 T U16, g23, F23.kp, b23⟩
  have U66 : Use l.prog w K mg base "lots_by_size" ["people"] spLotsB 1 := ⟨f66, fd66, ok_lotsB F66 T IM, g66, F66.kp, b66⟩
  have U65 : Use l.prog w K mg base "cycles_of" ["shuffle"] spCycles 1 := ⟨f65, fd65, ok_cycles F65 T, g65, F65.kp, b65⟩
  have U89 : Use l.prog w K mg base "is_odd" ["shuffle"] spOdd 2 := ⟨f89, fd89, ok_odd F89 T U65, g89, F89.kp, b89⟩
  have U90 : Use l.prog w K mg base "fits" ["kinds", "lot", "told", "strides"] spFits 3 := ⟨f90, fd90, ok_fits F90 T U89, g90, F90.kp, b90⟩
  have U91 : Use l.prog w K mg base "is_family" ["kinds", "many", "value"] (spFamily K) 6 := ⟨f91, fd91, ok_family F91 T U23 U49 U66 U90, g91, F91.kp, b91⟩
  have U99 : UseX l.prog w K mg base "is_told" ["kinds", "many", "value"] (spToldX K er) 7 := ⟨⟨f99, fd99, ok_toldX F99 T PG U24 U26 U91, g99, F99.kp, b99⟩⟩
  have U48 : Use l.prog w K mg base "power" ["number", "times"] spPowO 1 := ⟨f48, fd48, ok_powO F48 T, g48, F48.kp, b48⟩
  have U101 : UseX l.prog w K mg base "how_many_programs" ["kinds", "many"] (spHowProgs K er) 7 := ⟨⟨f101, fd101, ok_howProgs F101 T PG U24 U26 U48, g101, F101.kp, b101⟩⟩
  have U104 : Use l.prog w K mg base "_law_cell" ["_law_script", "_law_index"] (spCell K) 1 := ⟨f104, fd104, ok_cell F104 T, g104, F104.kp, b104⟩
  have U106 : Use l.prog w K mg base "_law_generator" ["_law_script", "_law_index"] (spGen K) 2 := ⟨f106, fd106, ok_gen F106 T U104, g106, F106.kp, b106⟩
  have U105 : Use l.prog w K mg base "_law_hash" ["_law_seed", "_law_index"] spHash 1 := ⟨f105, fd105, ok_hash F105 T, g105, F105.kp, b105⟩
  have U107 : Use l.prog w K mg base "_law_random" ["_law_generator_here", "_law_limit"] spRandom 2 := ⟨f107, fd107, ok_random F107 T U105, g107, F107.kp, b107⟩
  have U109 : Use l.prog w K mg base "_law_tied" ["_law_rows", "_law_lot", "_law_others", "_law_kind"] spTied 2 := ⟨f109, fd109, ok_tied F109 T, g109, F109.kp, b109⟩
  have U108 : Use l.prog w K mg base "_law_company" ["_law_generator_here", "_law_kinds", "_law_size"] spCompS 4 := ⟨f108, fd108, ok_compS F108 T U107 U109, g108, F108.kp, b108⟩
  have U110 : Use l.prog w K mg base "_law_program" ["_law_generator_here", "_law_size", "_law_most"] spProgM 3 := ⟨f110, fd110, ok_progM F110 T U107, g110, F110.kp, b110⟩
  have U22 : Use l.prog w K mg base "is_lot" ["many", "value"] (spLotA K) 3 := ⟨f22, fd22, ok_lotA F22 T U16, g22, F22.kp, b22⟩
  have U54 : UseX l.prog w K mg base "check_state_lot" ["kinds", "lot"] (spCkLotS K er) 4 := ⟨⟨f54, fd54, ok_ckLotS F54 T C U22 U24 EU_InvalidLot, g54, F54.kp, b54⟩⟩
  have U71 : UseX l.prog w K mg base "states_of" ["kinds", "lot"] (spD7 K er) 7 := ⟨⟨f71, fd71, ok_d7 F71 T U54, g71, F71.kp, b71⟩⟩
  have U20 : Use l.prog w K mg base "is_couple" ["many", "value"] (spCoupleD K) 3 := ⟨f20, fd20, ok_coupleD F20 T U16, g20, F20.kp, b20⟩
  have U69 : Use l.prog w K mg base "is_program" ["value"] (spIsProg K) 4 := ⟨f69, fd69, ok_isProg F69 T C U20, g69, F69.kp, b69⟩
  have KW0 : UseK l.prog w K mg base "is_program" ["value"] ["value"] gQ0 gQV0 (spIsProg K) 4 := ⟨f69, fd69, ok_isProg F69 T C U20, g69, F69.kp, kw0⟩
  have U52 : UseX l.prog w K mg base "check_program" ["program"] (spCkProg K er) 5 := ⟨⟨f52, fd52, ok_ckProg F52 T U69 EU_InvalidProgram, g52, F52.kp, b52⟩⟩
  have U68 : UseX l.prog w K mg base "check_programs" ["kinds", "one", "other"] (spCkProgs K er) 6 := ⟨⟨f68, fd68, ok_ckProgs F68 T U24 U52, g68, F68.kp, b68⟩⟩
  have U74 : UseX l.prog w K mg base "programs_alike" ["kinds", "one", "other"] (spD4 K er) 7 := ⟨⟨f74, fd74, ok_d4 F74 T U68, g74, F74.kp, b74⟩⟩
  have U75 : UseX l.prog w K mg base "parting_state" ["kinds", "one", "other"] (spD5 K er) 7 := ⟨⟨f75, fd75, ok_d5 F75 T U68, g75, F75.kp, b75⟩⟩
  have U76 : UseX l.prog w K mg base "parting_company" ["kinds", "one", "other"] (spD6 K er) 7 := ⟨⟨f76, fd76, ok_d6 F76 T U68, g76, F76.kp, b76⟩⟩
  have U77 : UseX l.prog w K mg base "undone_program" ["kinds", "program"] (spD9 K er) 7 := ⟨⟨f77, fd77, ok_d9 F77 T U24 U52, g77, F77.kp, b77⟩⟩
  have U83 : UseX l.prog w K mg base "rounds_of" ["kinds", "program"] (spD10 K er) 7 := ⟨⟨f83, fd83, ok_d10 F83 T U24 U52, g83, F83.kp, b83⟩⟩
  have U98 : UseX l.prog w K mg base "shuffle_of" ["kinds", "lot", "program"] (spD8 K er) 7 := ⟨⟨f98, fd98, ok_d8 F98 T U52 U54, g98, F98.kp, b98⟩⟩
  have U100 : UseX l.prog w K mg base "made_program" ["kinds", "family"] (spMadeP K er) 7 := ⟨⟨f100, fd100, ok_madeP F100 T U24 U91 EU_InvalidWishes, g100, F100.kp, b100⟩⟩
  have U102 : UseX l.prog w K mg base "shortest_program" ["program"] (spD14 K er) 7 := ⟨⟨f102, fd102, ok_d14 F102 T PG U69 EU_InvalidProgram, g102, F102.kp, b102⟩⟩
  have U18 : Use l.prog w K mg base "is_row" ["kinds", "many", "value"] (spRow K) 3 := ⟨f18, fd18, ok_row F18 T U16, g18, F18.kp, b18⟩
  have U19 : Use l.prog w K mg base "is_company_of" ["kinds", "value"] (spCompOf K) 4 := ⟨f19, fd19, ok_compOf F19 T C U18, g19, F19.kp, b19⟩
  have U27 : UseX l.prog w K mg base "check_company" ["kinds", "company"] (spCom K er) 5 := ⟨⟨f27, fd27, ok_com F27 T U19 U24 EU_InvalidCompany, g27, F27.kp, b27⟩⟩
  have U53 : UseX l.prog w K mg base "check_run" ["kinds", "company", "program"] (spCkRun K er) 6 := ⟨⟨f53, fd53, ok_ckRun F53 T U27 U69 EU_InvalidProgram, g53, F53.kp, b53⟩⟩
  have U70 : UseX l.prog w K mg base "run" ["kinds", "company", "program"] (spD0 K er) 7 := ⟨⟨f70, fd70, ok_d0 F70 T U53, g70, F70.kp, b70⟩⟩
  have U21 : Use l.prog w K mg base "is_couple_with_kind" ["kinds", "many", "value"] (spCplK K) 4 := ⟨f21, fd21, ok_cplK F21 T U16 U20, g21, F21.kp, b21⟩
  have U56 : Use l.prog w K mg base "is_state" ["kinds", "lot", "value"] (spIsState K) 5 := ⟨f56, fd56, ok_isState F56 T C U21, g56, F56.kp, b56⟩
  have U73 : UseX l.prog w K mg base "state_after" ["kinds", "lot", "state", "program"] (spD2 K er) 7 := ⟨⟨f73, fd73, ok_d2 F73 T U52 U54 U56 EU_InvalidWishes, g73, F73.kp, b73⟩⟩
  have U82 : UseX l.prog w K mg base "blocks_of" ["kinds", "company", "program"] (spD1 K er) 7 := ⟨⟨f82, fd82, ok_d1 F82 T U53, g82, F82.kp, b82⟩⟩
  have U84 : UseX l.prog w K mg base "run_often" ["kinds", "company", "program", "times"] (spD3 K er) 7 := ⟨⟨f84, fd84, ok_d3 F84 T U25 U53, g84, F84.kp, b84⟩⟩
  have U112 : UseX l.prog w K mg base "_law_first" ["_law_door", "_law_args"] (spFirstP K er) 8 := ⟨⟨f112, fd112, ok_firstP F112 T U70 U73 U82 U84, g112, F112.kp, b112⟩⟩
  have U111 : UseX l.prog w K mg base "_law_called" ["_law_door", "_law_args"] (spCalledP K er) 9 := ⟨⟨f111, fd111, ok_calledP F111 T U71 U72 U74 U75 U76 U77 U83 U98 U99 U100 U101 U102 U112, g111, F111.kp, b111⟩⟩
  have U113 : UseG l.prog w K mg base "_law_told" ["_law_door", "_law_args"] (spTold K er) 10 := ⟨f113, fd113, ok_told F113 T ER U111, g113, F113.kp, b113⟩
  have U114 : UseG l.prog w K mg base "_law_only" ["_law_at", "_law_value"] (spOnly K) 2 := ⟨f114, fd114, ok_only F114 T, g114, F114.kp, b114⟩
  have U115 : Use l.prog w K mg base "_law_is_program" ["_law_value"] (spLawProg K) 2 := ⟨f115, fd115, ok_lawProg F115 T, g115, F115.kp, b115⟩
  have U116 : Use l.prog w K mg base "_law_bent" ["_law_generator_here", "_law_program_here"] (spBentP K) 4 := ⟨f116, fd116, ok_bentP F116 T U107, g116, F116.kp, b116⟩
  have U117 : UseG l.prog w K mg base "_law_programs_right" ["_law_generator_here", "_law_kinds", "_law_company_here", "_law_program_here"] (spRightP K er) 11 := ⟨f117, fd117, ok_rightP F117 T U69 KW0 U113 U114 U115 U116, g117, F117.kp, b117⟩
  have U118 : UseG l.prog w K mg base "_law_kinds_right" ["_law_company_here", "_law_program_here"] (spRightK K er) 11 := ⟨f118, fd118, ok_rightK F118 T U113 U114, g118, F118.kp, b118⟩
  have U119 : UseG l.prog w K mg base "_law_lots_right" ["_law_kinds"] (spRightL K er) 11 := ⟨f119, fd119, ok_rightL F119 T U113 U114, g119, F119.kp, b119⟩
  have U120 : UseG l.prog w K mg base "_law_numbers_right" ["_law_kinds", "_law_company_here", "_law_program_here"] (spRightN K er) 11 := ⟨f120, fd120, ok_rightN F120 T U113 U114, g120, F120.kp, b120⟩
  exact ok_law (fun_mk (st := sLaw) ll cl kl) T ER U72 U99 U101 U106 U107 U108 U110 U111 U117 U118 U119 U120
end K56
open PySem PySem.W PyProof.Rows
set_option maxRecDepth 100000 in
set_option maxHeartbeats 0 in
theorem PySem.Challenge.cw_twinties_k56_programs_refused_holds : PySem.Challenge.rw_twinties_k56_programs_refused.Holds := by
  w_on; o_law; k_head; (case hw => w_witness2)
  k_fill
  refine GL.walk_ofG (l := PySem.Challenge.rw_twinties_k56_programs_refused) (n := 63) (k := 12) (x := "_law_script") (sp := GL.spLaw) rfl (by decide) rfl ⟨rfl, by decide, by decide⟩ (fun w h Y => PySem.W.km_in_of Y) ?F (fun K H a ns hl _ hS => ⟨a, ns, rfl, hS, fun _ => rfl⟩)
  case F =>
    intro w mg fa h KX G hmg
    refine' K56.all_mk KX G hmg ?h14 ?h17 ?h24 ?h15 ?h25 ?h49 ?h72 ?h16 ?h26 ?h23 ?h66 ?h65 ?h89 ?h90 ?h91 ?h99 ?h48 ?h101 ?h104 ?h106 ?h105 ?h107 ?h109 ?h108 ?h110 ?h22 ?h54 ?h71 ?h20 ?h69 ?h52 ?h68 ?h74 ?h75 ?h76 ?h77 ?h83 ?h98 ?h100 ?h102 ?h18 ?h19 ?h27 ?h53 ?h70 ?h21 ?h56 ?h73 ?h82 ?h84 ?h112 ?h111 ?h113 ?h114 ?h115 ?h116 ?h117 ?h118 ?h119 ?h120 ?h121 ?c0 ?c1 ?c2 ?z0 ?z1 ?z2 ?z3 ?z4 ?z5 ?z6 ?z7 ?z8 ?z9 ?z10 ?z11 ?z12 ?z13 ?z14 ?z15 ?z16 ?pg0 ?pg1 ?pg2 ?pg3 ?m0 ?x0 ?zv ?x1 ?x2 ?x3 ?x4 ?x5 ?y0 ?y1 ?y2 ?ym1 ?yv1 ?ym2 ?yv2 ?ym3 ?yv3 ?ym4 ?yv4 ?ym5 ?yv5 ?ys1_1 ?ys1_2 ?ys1_3 ?ys1_4 ?ys1_5 ?ys2_1 ?ys2_2 ?ys2_3 ?ys2_4 ?ys2_5 ?ys3_1 ?ys3_2 ?ys3_3 ?ys3_4 ?ys3_5 ?ys4_1 ?ys4_2 ?ys4_3 ?ys4_4 ?ys4_5 ?ys5_1 ?ys5_2 ?ys5_3 ?ys5_4 ?ys5_5
    (case pg0 => refine' K56.hasInt_mk ?a; (case a => k_is))
    (case pg1 => refine' K56.hasInt_mk ?a; (case a => k_is))
    (case pg2 => (show PySem.W.nsIn _ mainGlobals _ = some (some (.builtin "math.comb"))); k_is)
    (case pg3 => refine' K56.hasTurns_mk ?pga ?pgh ?pgi ?pgj ?pgk; (case pga => k_is); (case pgh => k_is); (case pgi => k_is); (case pgj => k_is); (case pgk => k_is))
    (case h14 => refine' K56.has_mk ?a ?l ?c ?k; (case a => k_is); (case l => k_is); (case c => k_is); (case k => k_is))
    (case h17 => refine' K56.has_mk ?a ?l ?c ?k; (case a => k_is); (case l => k_is); (case c => k_is); (case k => k_is))
    (case h24 => refine' K56.has_mk ?a ?l ?c ?k; (case a => k_is); (case l => k_is); (case c => k_is); (case k => k_is))
    (case h15 => refine' K56.has_mk ?a ?l ?c ?k; (case a => k_is); (case l => k_is); (case c => k_is); (case k => k_is))
    (case h25 => refine' K56.has_mk ?a ?l ?c ?k; (case a => k_is); (case l => k_is); (case c => k_is); (case k => k_is))
    (case h49 => refine' K56.has_mk ?a ?l ?c ?k; (case a => k_is); (case l => k_is); (case c => k_is); (case k => k_is))
    (case h72 => refine' K56.has_mk ?a ?l ?c ?k; (case a => k_is); (case l => k_is); (case c => k_is); (case k => k_is))
    (case h16 => refine' K56.has_mk ?a ?l ?c ?k; (case a => k_is); (case l => k_is); (case c => k_is); (case k => k_is))
    (case h26 => refine' K56.has_mk ?a ?l ?c ?k; (case a => k_is); (case l => k_is); (case c => k_is); (case k => k_is))
    (case h23 => refine' K56.has_mk ?a ?l ?c ?k; (case a => k_is); (case l => k_is); (case c => k_is); (case k => k_is))
    (case h66 => refine' K56.has_mk ?a ?l ?c ?k; (case a => k_is); (case l => k_is); (case c => k_is); (case k => k_is))
    (case h65 => refine' K56.has_mk ?a ?l ?c ?k; (case a => k_is); (case l => k_is); (case c => k_is); (case k => k_is))
    (case h89 => refine' K56.has_mk ?a ?l ?c ?k; (case a => k_is); (case l => k_is); (case c => k_is); (case k => k_is))
    (case h90 => refine' K56.has_mk ?a ?l ?c ?k; (case a => k_is); (case l => k_is); (case c => k_is); (case k => k_is))
    (case h91 => refine' K56.has_mk ?a ?l ?c ?k; (case a => k_is); (case l => k_is); (case c => k_is); (case k => k_is))
    (case h99 => refine' K56.has_mk ?a ?l ?c ?k; (case a => k_is); (case l => k_is); (case c => k_is); (case k => k_is))
    (case h48 => refine' K56.has_mk ?a ?l ?c ?k; (case a => k_is); (case l => k_is); (case c => k_is); (case k => k_is))
    (case h101 => refine' K56.has_mk ?a ?l ?c ?k; (case a => k_is); (case l => k_is); (case c => k_is); (case k => k_is))
    (case h104 => refine' K56.has_mk ?a ?l ?c ?k; (case a => k_is); (case l => k_is); (case c => k_is); (case k => k_is))
    (case h106 => refine' K56.has_mk ?a ?l ?c ?k; (case a => k_is); (case l => k_is); (case c => k_is); (case k => k_is))
    (case h105 => refine' K56.has_mk ?a ?l ?c ?k; (case a => k_is); (case l => k_is); (case c => k_is); (case k => k_is))
    (case h107 => refine' K56.has_mk ?a ?l ?c ?k; (case a => k_is); (case l => k_is); (case c => k_is); (case k => k_is))
    (case h109 => refine' K56.has_mk ?a ?l ?c ?k; (case a => k_is); (case l => k_is); (case c => k_is); (case k => k_is))
    (case h108 => refine' K56.has_mk ?a ?l ?c ?k; (case a => k_is); (case l => k_is); (case c => k_is); (case k => k_is))
    (case h110 => refine' K56.has_mk ?a ?l ?c ?k; (case a => k_is); (case l => k_is); (case c => k_is); (case k => k_is))
    (case h22 => refine' K56.has_mk ?a ?l ?c ?k; (case a => k_is); (case l => k_is); (case c => k_is); (case k => k_is))
    (case h54 => refine' K56.has_mk ?a ?l ?c ?k; (case a => k_is); (case l => k_is); (case c => k_is); (case k => k_is))
    (case h71 => refine' K56.has_mk ?a ?l ?c ?k; (case a => k_is); (case l => k_is); (case c => k_is); (case k => k_is))
    (case h20 => refine' K56.has_mk ?a ?l ?c ?k; (case a => k_is); (case l => k_is); (case c => k_is); (case k => k_is))
    (case h69 => refine' K56.has_mk ?a ?l ?c ?k; (case a => k_is); (case l => k_is); (case c => k_is); (case k => k_is))
    (case h52 => refine' K56.has_mk ?a ?l ?c ?k; (case a => k_is); (case l => k_is); (case c => k_is); (case k => k_is))
    (case h68 => refine' K56.has_mk ?a ?l ?c ?k; (case a => k_is); (case l => k_is); (case c => k_is); (case k => k_is))
    (case h74 => refine' K56.has_mk ?a ?l ?c ?k; (case a => k_is); (case l => k_is); (case c => k_is); (case k => k_is))
    (case h75 => refine' K56.has_mk ?a ?l ?c ?k; (case a => k_is); (case l => k_is); (case c => k_is); (case k => k_is))
    (case h76 => refine' K56.has_mk ?a ?l ?c ?k; (case a => k_is); (case l => k_is); (case c => k_is); (case k => k_is))
    (case h77 => refine' K56.has_mk ?a ?l ?c ?k; (case a => k_is); (case l => k_is); (case c => k_is); (case k => k_is))
    (case h83 => refine' K56.has_mk ?a ?l ?c ?k; (case a => k_is); (case l => k_is); (case c => k_is); (case k => k_is))
    (case h98 => refine' K56.has_mk ?a ?l ?c ?k; (case a => k_is); (case l => k_is); (case c => k_is); (case k => k_is))
    (case h100 => refine' K56.has_mk ?a ?l ?c ?k; (case a => k_is); (case l => k_is); (case c => k_is); (case k => k_is))
    (case h102 => refine' K56.has_mk ?a ?l ?c ?k; (case a => k_is); (case l => k_is); (case c => k_is); (case k => k_is))
    (case h18 => refine' K56.has_mk ?a ?l ?c ?k; (case a => k_is); (case l => k_is); (case c => k_is); (case k => k_is))
    (case h19 => refine' K56.has_mk ?a ?l ?c ?k; (case a => k_is); (case l => k_is); (case c => k_is); (case k => k_is))
    (case h27 => refine' K56.has_mk ?a ?l ?c ?k; (case a => k_is); (case l => k_is); (case c => k_is); (case k => k_is))
    (case h53 => refine' K56.has_mk ?a ?l ?c ?k; (case a => k_is); (case l => k_is); (case c => k_is); (case k => k_is))
    (case h70 => refine' K56.has_mk ?a ?l ?c ?k; (case a => k_is); (case l => k_is); (case c => k_is); (case k => k_is))
    (case h21 => refine' K56.has_mk ?a ?l ?c ?k; (case a => k_is); (case l => k_is); (case c => k_is); (case k => k_is))
    (case h56 => refine' K56.has_mk ?a ?l ?c ?k; (case a => k_is); (case l => k_is); (case c => k_is); (case k => k_is))
    (case h73 => refine' K56.has_mk ?a ?l ?c ?k; (case a => k_is); (case l => k_is); (case c => k_is); (case k => k_is))
    (case h82 => refine' K56.has_mk ?a ?l ?c ?k; (case a => k_is); (case l => k_is); (case c => k_is); (case k => k_is))
    (case h84 => refine' K56.has_mk ?a ?l ?c ?k; (case a => k_is); (case l => k_is); (case c => k_is); (case k => k_is))
    (case h112 => refine' K56.has_mk ?a ?l ?c ?k; (case a => k_is); (case l => k_is); (case c => k_is); (case k => k_is))
    (case h111 => refine' K56.has_mk ?a ?l ?c ?k; (case a => k_is); (case l => k_is); (case c => k_is); (case k => k_is))
    (case h113 => refine' K56.has_mk ?a ?l ?c ?k; (case a => k_is); (case l => k_is); (case c => k_is); (case k => k_is))
    (case h114 => refine' K56.has_mk ?a ?l ?c ?k; (case a => k_is); (case l => k_is); (case c => k_is); (case k => k_is))
    (case h115 => refine' K56.has_mk ?a ?l ?c ?k; (case a => k_is); (case l => k_is); (case c => k_is); (case k => k_is))
    (case h116 => refine' K56.has_mk ?a ?l ?c ?k; (case a => k_is); (case l => k_is); (case c => k_is); (case k => k_is))
    (case h117 => refine' K56.has_mk ?a ?l ?c ?k; (case a => k_is); (case l => k_is); (case c => k_is); (case k => k_is))
    (case h118 => refine' K56.has_mk ?a ?l ?c ?k; (case a => k_is); (case l => k_is); (case c => k_is); (case k => k_is))
    (case h119 => refine' K56.has_mk ?a ?l ?c ?k; (case a => k_is); (case l => k_is); (case c => k_is); (case k => k_is))
    (case h120 => refine' K56.has_mk ?a ?l ?c ?k; (case a => k_is); (case l => k_is); (case c => k_is); (case k => k_is))
    (case h121 => refine' K56.has_mk ?a ?l ?c ?k; (case a => k_is); (case l => k_is); (case c => k_is); (case k => k_is))
    (case c0 => refine' K56.hasInt_mk ?a; (case a => k_is))
    (case c1 => refine' K56.hasInt_mk ?a; (case a => k_is))
    (case c2 => refine' K56.hasInt_mk ?a; (case a => k_is))
    (case z0 => (show PySem.W.nsIn _ mainGlobals _ = some none); k_is)
    (case z1 => (show PySem.W.nsIn _ mainGlobals _ = some none); k_is)
    (case z2 => (show PySem.W.nsIn _ mainGlobals _ = some none); k_is)
    (case z3 => (show PySem.W.nsIn _ mainGlobals _ = some none); k_is)
    (case z4 => (show PySem.W.nsIn _ mainGlobals _ = some none); k_is)
    (case z5 => (show PySem.W.nsIn _ mainGlobals _ = some none); k_is)
    (case z6 => (show PySem.W.nsIn _ mainGlobals _ = some none); k_is)
    (case z7 => (show PySem.W.nsIn _ mainGlobals _ = some none); k_is)
    (case z8 => (show PySem.W.nsIn _ mainGlobals _ = some none); k_is)
    (case z9 => (show PySem.W.nsIn _ mainGlobals _ = some none); k_is)
    (case z10 => (show PySem.W.nsIn _ mainGlobals _ = some none); k_is)
    (case z11 => (show PySem.W.nsIn _ mainGlobals _ = some none); k_is)
    (case z12 => (show PySem.W.nsIn _ mainGlobals _ = some none); k_is)
    (case z13 => (show PySem.W.nsIn _ mainGlobals _ = some none); k_is)
    (case z14 => (show PySem.W.nsIn _ mainGlobals _ = some none); k_is)
    (case z15 => (show PySem.W.nsIn _ mainGlobals _ = some none); k_is)
    (case z16 => (show PySem.W.nsIn _ mainGlobals _ = some none); k_is)
    (case m0 => (show PySem.W.nsIn _ mainGlobals _ = some (some (.type "itertools.combinations"))); k_is)
    (case x0 => k_is)
    (case zv => (show PySem.W.nsIn _ mainGlobals _ = some none); k_is)
    (case x1 => refine' GL.hasErr_mk ?a1 ?a2 ?a3 ?a4 ?a5 ?a6 ?a7 ?b1 ?b2 ?b3 ?b4 ?b5 ?b6 ?b7 ?b8 ?b9 ?b10 ?c1 ?c2 ?c3 ?c4; (case a1 => k_is); (case a2 => k_is); (case a3 => decide +kernel); (case a4 => k_is); (case a5 => k_is); (case a6 => k_is); (case a7 => k_is); (case b1 => k_is); (case b2 => k_is); (case b3 => k_is); (case b4 => k_is); (case b5 => k_is); (case b6 => k_is); (case b7 => k_is); (case b8 => k_is); (case b9 => k_is); (case b10 => k_is); (case c1 => k_is); (case c2 => k_is); (case c3 => k_is); (case c4 => k_is))
    (case x2 => refine' GL.hasErr_mk ?a1 ?a2 ?a3 ?a4 ?a5 ?a6 ?a7 ?b1 ?b2 ?b3 ?b4 ?b5 ?b6 ?b7 ?b8 ?b9 ?b10 ?c1 ?c2 ?c3 ?c4; (case a1 => k_is); (case a2 => k_is); (case a3 => decide +kernel); (case a4 => k_is); (case a5 => k_is); (case a6 => k_is); (case a7 => k_is); (case b1 => k_is); (case b2 => k_is); (case b3 => k_is); (case b4 => k_is); (case b5 => k_is); (case b6 => k_is); (case b7 => k_is); (case b8 => k_is); (case b9 => k_is); (case b10 => k_is); (case c1 => k_is); (case c2 => k_is); (case c3 => k_is); (case c4 => k_is))
    (case x3 => refine' GL.hasErr_mk ?a1 ?a2 ?a3 ?a4 ?a5 ?a6 ?a7 ?b1 ?b2 ?b3 ?b4 ?b5 ?b6 ?b7 ?b8 ?b9 ?b10 ?c1 ?c2 ?c3 ?c4; (case a1 => k_is); (case a2 => k_is); (case a3 => decide +kernel); (case a4 => k_is); (case a5 => k_is); (case a6 => k_is); (case a7 => k_is); (case b1 => k_is); (case b2 => k_is); (case b3 => k_is); (case b4 => k_is); (case b5 => k_is); (case b6 => k_is); (case b7 => k_is); (case b8 => k_is); (case b9 => k_is); (case b10 => k_is); (case c1 => k_is); (case c2 => k_is); (case c3 => k_is); (case c4 => k_is))
    (case x4 => refine' GL.hasErr_mk ?a1 ?a2 ?a3 ?a4 ?a5 ?a6 ?a7 ?b1 ?b2 ?b3 ?b4 ?b5 ?b6 ?b7 ?b8 ?b9 ?b10 ?c1 ?c2 ?c3 ?c4; (case a1 => k_is); (case a2 => k_is); (case a3 => decide +kernel); (case a4 => k_is); (case a5 => k_is); (case a6 => k_is); (case a7 => k_is); (case b1 => k_is); (case b2 => k_is); (case b3 => k_is); (case b4 => k_is); (case b5 => k_is); (case b6 => k_is); (case b7 => k_is); (case b8 => k_is); (case b9 => k_is); (case b10 => k_is); (case c1 => k_is); (case c2 => k_is); (case c3 => k_is); (case c4 => k_is))
    (case x5 => refine' GL.hasErr_mk ?a1 ?a2 ?a3 ?a4 ?a5 ?a6 ?a7 ?b1 ?b2 ?b3 ?b4 ?b5 ?b6 ?b7 ?b8 ?b9 ?b10 ?c1 ?c2 ?c3 ?c4; (case a1 => k_is); (case a2 => k_is); (case a3 => decide +kernel); (case a4 => k_is); (case a5 => k_is); (case a6 => k_is); (case a7 => k_is); (case b1 => k_is); (case b2 => k_is); (case b3 => k_is); (case b4 => k_is); (case b5 => k_is); (case b6 => k_is); (case b7 => k_is); (case b8 => k_is); (case b9 => k_is); (case b10 => k_is); (case c1 => k_is); (case c2 => k_is); (case c3 => k_is); (case c4 => k_is))
    (case y0 => k_is)
    (case y1 => k_is)
    (case y2 => k_is)
    (case ym1 => k_is)
    (case yv1 => k_is)
    (case ym2 => k_is)
    (case yv2 => k_is)
    (case ym3 => k_is)
    (case yv3 => k_is)
    (case ym4 => k_is)
    (case yv4 => k_is)
    (case ym5 => k_is)
    (case yv5 => k_is)
    (case ys1_1 => k_is)
    (case ys1_2 => k_is)
    (case ys1_3 => k_is)
    (case ys1_4 => k_is)
    (case ys1_5 => k_is)
    (case ys2_1 => k_is)
    (case ys2_2 => k_is)
    (case ys2_3 => k_is)
    (case ys2_4 => k_is)
    (case ys2_5 => k_is)
    (case ys3_1 => k_is)
    (case ys3_2 => k_is)
    (case ys3_3 => k_is)
    (case ys3_4 => k_is)
    (case ys3_5 => k_is)
    (case ys4_1 => k_is)
    (case ys4_2 => k_is)
    (case ys4_3 => k_is)
    (case ys4_4 => k_is)
    (case ys4_5 => k_is)
    (case ys5_1 => k_is)
    (case ys5_2 => k_is)
    (case ys5_3 => k_is)
    (case ys5_4 => k_is)
    (case ys5_5 => k_is)

