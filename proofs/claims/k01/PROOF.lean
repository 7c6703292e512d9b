import PyProof.Rows.All
import Wide.All
import OpenK.AllK
import Wide.FinOn
import PyProof.ReprRoads
import HandS.ForMost
import HandS.IsInst
import HandS.Wide
import HandS.WideBits
import HandS.Conv
import HandS.Style
import HandS.Flow
import HandS.Walk
import PySem.Challenge.RW_twinties_k01_companies
set_option Elab.async false
set_option linter.all false
set_option maxRecDepth 100000
set_option maxHeartbeats 4000000
/-! Defs whose promise is told where no guard of a repr stands around: a def that asks repr of a list holds its promise there alone. -/
namespace GL
open PySem PySem.Spec PyProof.Rows L2

/-- a def's promise, told of calls around which no repr is under way -/
structure FnG (P : Program) (w : World) (K : PySem.W.Frag) (mg : Str → Option Value) (base : Heap) (CX : CXT) (k : Nat) (f : Addr) (fd : FuncData) (ps : List Str) (sp : Sp) : Prop where
  many : ∀ vs H Q E, sp vs H Q E → vs.length = ps.length
  goes : ∀ (A : Around) (outer : List Env) (s : Shared) (H : Hp) (args : Args) (us : List Value) (vs : List V) (Q : VK) (E : XK), A.guards = some [] → Room k A →
    Env0 P w K mg base A outer s H → BindsTo s fd args (ps.zip us) → Vals vs us → sp vs H Q E → codeAny (model P w) A (.call (.ref f) args) (CR CX outer P w H s Q E) s

section
variable {P : Program} {w : World} {K : PySem.W.Frag} {mg : Str → Option Value} {base : Heap} {CX : CXT} {k : Nat} {f : Addr} {fd : FuncData} {ps : List Str} {sp : Sp}
theorem FnG.of (F : FnOk P w K mg base CX k f fd ps sp) : FnG P w K mg base CX k f fd ps sp := ⟨F.len, fun A o s H a us vs Q E _ => F.run A o s H a us vs Q E⟩
end

section
variable {P : Program} {w : World} {K : PySem.W.Frag} {mg : Str → Option Value} {base : Heap}
/-- the body's walk gives the promise -/
theorem FnG.mk' {x qual : Str} {st : Stmt} {f : Addr} {fd : FuncData} {N ps : List Str} {k : Nat} {sp : Sp} (F : Fun K x qual st f fd) (S : FnScope N ps (defScope st)) (many : ∀ vs H Q E, sp vs H Q E → vs.length = ps.length)
    (walk : ∀ (cdv : Value) (A : Around) (outer : List Env) (s : Shared) (H : Hp) (vs : List V) (Q : VK) (E : XK), A.guards = some [] → Room k (A.deeper (envOfC qual (defScope st) s.heap.objs.size f cdv)) → sp vs H Q E →
      ∃ t, PSs (cxOf CX0 P w K mg base N qual (defScope st) f cdv A outer s H E).nox (defBody st) t ∧ t { nx := fun _ H' => Q .non H', rt := Q } (start N vs) H) : FnG P w K mg base CX0 (k + 1) f fd ps sp := by
  obtain ⟨oc, od, kV, doc, pm, an, cdv, ct, osl, efd, lk, hcd⟩ := F.ex
  subst efd
  refine ⟨many, ?_⟩
  intro A outer s H args us vs Q E hg hr e0 hb rv hsp
  have cnt := many _ _ _ _ hsp
  have up : ∀ b o, base.get? b = some o → s.heap.get? b = some o := fun b o e => (e0.bs b o e).1
  have inK : K.In s.heap := e0.mod.kin.keeps up
  have kinds : ∀ y ∈ ps.zip us, (defScope st).names.lookup y.1 = some .local ∨ ((defScope st).names.lookup y.1 = some .cell ∧ ((cellsFrom (s.heap.objs.size + 1) (defScope st).names []).lookup y.1).isSome = true) := by
    rintro ⟨n, v⟩ hy
    exact (S.par n (List.of_mem_zip hy).1).elim (fun q => .inl q) fun q => .inr ⟨q, PySem.W.cellsFrom_some _ _ _ (.inl q)⟩
  refine codeAny_call_function hr.depth (inK _ _ lk) rfl S.co S.gen rfl (PySem.W.codeRec_of inK hcd) (hb _ _ _ _ (wpAny_newFunctionEnv_cells S.kind kinds fun env he s1 x => ?_))
  subst he
  refine ⟨(e0.mod.nolimit.keeps up).keeps x.toInCall.keep, codeAny_func ?_⟩
  obtain ⟨t, ht, hq⟩ := walk cdv A outer s H vs Q E hg (hr.deeper _) hsp
  refine wpAny_mono (ht.nox.run [] s1 (start N vs) H _ (inv_start S hr.hd e0 cnt rv x) hq) (fun fl s' hs => ?_) fun e s' hs => hs
  cases fl with
  | next => exact let ⟨σ', H', J, q⟩ := hs; ⟨V.non, H', J.os, J.bare, J.base, J.hok, rfl, q⟩
  | ret u => exact let ⟨v, σ', H', J, rr, q⟩ := hs; ⟨v, H', J.os, J.bare, J.base, J.hok, rr, q⟩
  | brk => obtain ⟨σ', H', J, q⟩ := hs; exact q.elim
  | cont => obtain ⟨σ', H', J, q⟩ := hs; exact q.elim
end
end GL

namespace GL
open PySem PySem.Spec PyProof.Rows L2
open L2 (Room)
/-! ### a call of such a def from a body around which no guard stands -/
section
variable {X : Cx} {CX : CXT} {k : Nat} {f : Addr} {fd : FuncData} {ps : List Str} {sp : Sp} {ds : List Value} {dvs : List V} {E : XK} {x : Str} {e : Expr} {es : List Expr} {t : TA} {p pos : Pos}
theorem FnG.used {pins : List (Addr × Obj)} {σ : L2.St} {H : Hp} {s : Shared} {Q : VK} {us : List Value} {vs : List V} (F : FnG X.prog X.w X.K X.mg X.base CX k f fd ps sp) (hg : X.A.guards = some []) (hr : Room k X.A) (hb : Binds X.K fd ps ds)
    (hd : Vals dvs ds) (hx : Passes CX X E) (I : Inv X pins σ H s) (r : Vals vs us) (h : sp (vs ++ dvs) H Q E) : wpAny (model X.prog X.w) X.A (call (.ref f) us) (EP X pins σ Q) X.xe s := by
  have both : Vals (vs ++ dvs) (us ++ ds) := r.append hd
  have cnt : (us ++ ds).length = ps.length := (both.length).symm.trans (F.many _ _ _ _ h)
  refine wpAny_call (codeAny_mono (F.goes X.A X.stack s H ⟨us, []⟩ (us ++ ds) (vs ++ dvs) Q E hg hr I.env0 (hb s us I.kIn cnt) both h) ?_)
  rintro (er | fl) s' q
  · exact hx pins σ H s er s' I q
  · match fl, q with
    | .ret u, q => exact I.after q
theorem pe_callG (F : FnG X.prog X.w X.K X.mg X.base CX k f fd ps sp) (hgd : X.A.guards = some []) (hr : Room k X.A) (hg : Gl X x) (hm : X.mg x = some (.ref f)) (hk : PySem.W.keepIn X.K (.ref f) = true) (hb : Binds X.K fd ps ds) (hd : Vals dvs ds) (hx : Passes CX X E)
    (ha : PA X (e :: es) t) (hdb : (x == ("__debug__" : Str)) = false := by decide) (he : starEach (e :: es) X.env = (false, eval e X.env) :: starEach es X.env := by rfl) (hpl : (backTo pos (starEach es X.env)).any (·.1) = false := by rfl) :
    PE X (.Call (.Name x p) (e :: es) [] pos) (tCall sp dvs E t) :=
  ⟨fun pins s σ H Q I h => wpAny_Call_Name_kw (ld_glob I hg hm (PySem.W.callWith_K (h₀ := X.base) I.ok.mod.kin hk (thn (ha.run pos pins s σ H _ I h) fun us s1 hh => by
    obtain ⟨vs, H1, I1, r, q⟩ := hh
    exact ⟨I1.kIn, F.used hgd hr hb hd hx I1 r q⟩) he hpl) hdb)⟩
end
/-! ### the end -/
theorem law_callG {P : Program} {w : World} {K : PySem.W.Frag} {mg mb : Str → Option Value} {k : Nat} {fa a : Addr} {fd : FuncData} {x : Str} {sp : Sp} {s₁ : Shared} {vs : List Value} {ns : List Int}
    (KX : K.In s₁.heap) (hns : s₁.heap.Ns mainGlobals mg) (hb : s₁.heap.Ns builtinsNs mb) (hbb : ∀ x : Str, x ≠ "__name__" → mb x = bootBuiltins x) (hlim : s₁.heap.NoLimit) (hgen : s₁.gens = #[])
    (ha : s₁.heap.get? a = some { cls := .type "list", data := .seq vs.toArray }) (hi : IntsAre vs ns) (hl : ns.length ≤ sizeLine) (hr : Room k callerA)
    (F : ∀ base : Heap, K.In base → base.Ns mainGlobals mg → FnG P w K mg base CX0 k fa fd [x] sp) (hbind : ∀ (s : Shared) (u : Value), BindsTo s fd ⟨[u], []⟩ [(x, u)])
    (hsp : ∀ H : Hp, Only H → SqL K H a (ns.map V.int) → sp [.ref a] H (fun v _ => v = .bl true) fun _ _ _ => False) :
    codeAny (model P w) callerA (.call (.ref fa) ⟨[.ref a], []⟩) (fun r s' => r = .ok (.ret (.bool true)) ∧ OldK s₁.heap s'.heap ∧ s'.os = s₁.os ∧ AllBare s'.gens) s₁ := by
  have vals := vals_ints hi
  have cnt := hi.length
  -- whichever heap of tracked things holds the script alone
  suffices main : ∀ H : Hp, Only H → SqL K H a (ns.map V.int) → HOk P w H s₁.heap → (∀ b, H b ≠ none → b = a ∧ K.lookup a = none) →
      codeAny (model P w) callerA (.call (.ref fa) ⟨[.ref a], []⟩) (fun r s' => r = .ok (.ret (.bool true)) ∧ OldK s₁.heap s'.heap ∧ s'.os = s₁.os ∧ AllBare s'.gens) s₁ by
    by_cases hk : ∃ o, K.lookup a = some o
    · obtain ⟨o, hk⟩ := hk
      have eo : o = { cls := .type "list", data := .seq vs.toArray } := Option.some.inj ((KX a o hk).symm.trans ha)
      subst eo
      exact main (fun _ => none) (fun _ => Or.inl rfl) (Or.inr ⟨_, vs.toArray, _, hk, rfl, rfl, rfl, by rw [List.size_toArray, cnt]; exact hl, by simpa using vals⟩) (fun b u z => nomatch (show (none : Option HO) = some u from z)) fun b z => (z rfl).elim
    · have hk0 : K.lookup a = none := by
        cases q : K.lookup a with
        | none => rfl
        | some o => exact (hk ⟨o, q⟩).elim
      refine main (fun b => if b = a then some (.frz { cls := .type "list", data := .seq vs.toArray } (.lst (ns.map V.int))) else none) ?_ (Or.inl (Or.inr ⟨_, if_pos rfl⟩)) ?_ ?_
      · intro b
        by_cases e : b = a
        · exact Or.inr ⟨_, _, if_pos e⟩
        · exact Or.inl (if_neg e)
      · intro b u z
        by_cases e : b = a
        · subst e
          have z' := Option.some.inj ((if_pos rfl).symm.trans z)
          subst z'
          exact ⟨ha, by rw [List.length_map]; exact hl, vs, _, vals, ha⟩
        · exact nomatch ((if_neg e).symm.trans z : (none : Option HO) = some u)
      · intro b z
        by_cases e : b = a
        · exact ⟨e, hk0⟩
        · exact (z (if_neg e)).elim
  intro H hO hS hok hA
  have free : ∀ {b : Addr} {o : Obj} {es : Array DictEntry} {ep : Nat}, s₁.heap.get? b = some o → o.data = .dict es ep → H b = none := by
    intro b o es ep e d
    cases q : H b with
    | none => rfl
    | some u =>
      have eb := (hA b (by rw [q]; exact fun z => nomatch z)).1
      subst eb
      have eo := Option.some.inj (ha.symm.trans e)
      subst eo
      exact nomatch (show Data.seq vs.toArray _ = Data.dict es ep from d)
  have space : ∀ {b : Addr} {m : Str → Option Value}, s₁.heap.Ns b m → (hidT s₁.heap H).Ns b m := by
    rintro b m ⟨o, es, ep, e, d, r⟩
    exact ⟨o, es, ep, hidT_get e (free e d), d, r⟩
  have inB : K.In (hidT s₁.heap H) := by
    intro b o e
    refine hidT_get (KX b o e) ?_
    cases q : H b with
    | none => rfl
    | some u =>
      obtain ⟨eb, n⟩ := hA b (by rw [q]; exact fun z => nomatch z)
      subst eb
      exact nomatch (n.symm.trans e)
  have md : Mod K mg (hidT s₁.heap H) := ⟨inB, space hns, ⟨mb, space hb, hbb⟩, by obtain ⟨mc, h1, h2⟩ := hlim; exact ⟨mc, space h1, h2⟩⟩
  have en : Env0 P w K mg (hidT s₁.heap H) callerA [] s₁ H :=
    { frames := rfl, mod := md, bs := fun b o e => of_hidT e, bsz := Nat.le_of_eq (hidT_size _ _), funs := trivial, frf := fun b z => (List.not_mem_nil z).elim, hok := hok, bare := .of_eq hgen }
  refine codeAny_mono ((F _ inB (space hns)).goes callerA [] s₁ H ⟨[.ref a], []⟩ [.ref a] [.ref a] _ _ rfl hr en (hbind s₁ (.ref a)) (.cons rfl .nil) (hsp H hO hS)) ?_
  rintro (er | fl) s' h
  · exact (show False from h).elim
  · match fl, h with
    | .ret u, h =>
      obtain ⟨v, H', os, bare, un, hok', rr, q⟩ := h
      have ev : v = .bl true := q
      subst ev
      have eu : u = Value.bool true := rr
      subst eu
      refine ⟨rfl, OldK.of_keep ?_, os, bare⟩
      intro b o e
      rcases hO b with z | ⟨ob, xs, z⟩
      · exact un.keep b o e z (fun z => (List.not_mem_nil z).elim) (fun z => (List.not_mem_nil z).elim)
      · have e1 := (hok b _ z).1
        have e2 := (hok' b _ (un.frzs b ob _ z)).1
        exact e2.trans (e1.symm.trans e)
theorem walk_ofG {l : PySem.W.OpenLaw} {n k : Nat} {q : Program} {loose : List Str} {XP : (Str → Option Value) → Heap → Prop} {YP : World → Heap → Prop} {d : DefRec} {K : Params → PySem.W.Frag} {sp : PySem.W.Frag → Sp} {x : Str}
    (hn : l.most = some n) (hn2 : n ≤ sizeLine) (hdf : d.params.defaults = []) (hr : Room k callerA) (hY : ∀ (w : World) (h : Heap), YP w h → (K w.params).In h)
    (F : ∀ (w : World) (mg : Str → Option Value) (fa : Addr) (h : Heap), (K w.params).In h → h.Ns mainGlobals mg → mg d.name = some (.ref fa) →
      ∃ fd : FuncData, (∀ (s : Shared) (u : Value), BindsTo s fd ⟨[u], []⟩ [(x, u)]) ∧ ∀ base : Heap, (K w.params).In base → base.Ns mainGlobals mg → FnG l.prog w (K w.params) mg base CX0 k fa fd [x] (sp (K w.params)))
    (hsp : ∀ (K : PySem.W.Frag) (H : Hp) (a : Addr) (ns : List Int), ns.length ≤ n → Only H → SqL K H a (ns.map V.int) → sp K [.ref a] H (fun v _ => v = .bl true) fun _ _ _ => False) :
    PySem.W.WalkO q loose XP YP l.row.toRowW d [] (fun f vs => PySem.call f vs) := by
  refine Att.attach_call hn hdf ?_
  intro w s₀ s₁ mg mb fa o pm cd doc a vs ns G Y ho hd hcd hmg hobj hints hlen hgen
  obtain ⟨fd, hb, hF⟩ := F w mg fa _ (hY w _ Y) G.T.g hmg
  exact law_callG (hY w _ Y) G.T.g G.T.b G.T.builtins G.T.nolimit hgen hobj hints (Nat.le_trans hlen hn2) hr hF hb fun H hO hS => hsp _ H a ns hlen hO hS

/-! ### data -/
mutual
/-- x stands for the datum d: lists, tuples, empty dicts -/
inductive Dt (K : PySem.W.Frag) (H : Hp) : V → PyData → Prop
  | non : Dt K H .non .none
  | bl (b : Bool) : Dt K H (.bl b) (.bool b)
  | int (i : Int) : Dt K H (.int i) (.int i)
  | str (x : Str) : Dt K H (.str x) (.str x)
  | lst {a : Addr} {xs : List V} {ds : List PyData} : H a = some (.lst xs) → Dts K H xs ds → Dt K H (.ref a) (.list ds)
  | tup {a : Addr} {xs : List V} {ds : List PyData} : H a = some (.tup xs) → Dts K H xs ds → Dt K H (.ref a) (.tuple ds)
  | dct {a : Addr} : H a = some (.dK []) → Dt K H (.ref a) (.dict [])
inductive Dts (K : PySem.W.Frag) (H : Hp) : List V → List PyData → Prop
  | nil : Dts K H [] []
  | cons {v : V} {vs : List V} {d : PyData} {ds : List PyData} : Dt K H v d → Dts K H vs ds → Dts K H (v :: vs) (d :: ds)
end
section
variable {X : Cx} {pins : List (Addr × Obj)} {σ : L2.St} {H : Hp} {s : Shared}
theorem Dt.obL {K : PySem.W.Frag} {a : Addr} {xs : List V} (I : Inv X pins σ H s) (h : H a = some (.lst xs)) : ∃ (its : List Value) (n : Nat), Vals xs its ∧ s.heap.get? a = some { cls := .type "list", data := .seq its.toArray n } :=
  let ⟨_, its, n, rv, ho⟩ := (show ObjOk X.prog X.w H s.heap a (.lst xs) from I.hok _ _ h)
  ⟨its, n, rv, ho⟩
theorem Dt.obT {a : Addr} {xs : List V} (I : Inv X pins σ H s) (h : H a = some (.tup xs)) : ∃ (its : List Value) (o : Obj) (n : Nat), Vals xs its ∧ s.heap.get? a = some o ∧ o.cls = .type "tuple" ∧ o.data = .seq its.toArray n :=
  let ⟨_, its, rv, o, h1, h2, n, h3⟩ := (show ObjOk X.prog X.w H s.heap a (.tup xs) from I.hok _ _ h)
  ⟨its, o, n, rv, h1, h2, h3⟩
theorem Dt.obD {a : Addr} (I : Inv X pins σ H s) (h : H a = some (.dK [])) : ∃ (o : Obj) (n : Nat), s.heap.get? a = some o ∧ o.cls = .type "dict" ∧ o.data = .dict #[] n ∧ (a == sysModules) = false := by
  obtain ⟨_, hsys, vs, hv, o, es, ep, h1, h2, h3, _, h4, _⟩ := (show ObjOk X.prog X.w H s.heap a (.dK []) from I.hok _ _ h)
  cases hv
  have e : es = #[] := by
    cases es with
    | mk l => 
      have z : l = [] := by
        cases h4
        rfl
      rw [z]
  subst e
  exact ⟨o, ep, h1, h2.1, h3, hsys⟩
mutual
theorem Dt.reads (I : Inv X pins σ H s) : ∀ (d : PyData) (v : V) (u : Value), Dt X.K H v d → RelV v u → ∃ as, Reads s.heap u d as
  | .none, _, _, h, r => by
    cases h
    cases r
    exact ⟨_, .none⟩
  | .bool b, _, _, h, r => by
    cases h
    cases r
    exact ⟨_, .bool b⟩
  | .int i, _, _, h, r => by
    cases h
    obtain ⟨t, rfl⟩ := r
    exact ⟨_, .int i t⟩
  | .str x, _, _, h, r => by
    cases h
    obtain ⟨t, rfl⟩ := r
    exact ⟨_, .str x t⟩
  | .list ds, v, _, h, r => by
    cases h with
    | lst hs ha =>
      cases r
      obtain ⟨its, n, rv, ho⟩ := Dt.obL (K := X.K) I hs
      obtain ⟨as, hr⟩ := Dt.readsAll I ds _ its ha rv
      exact ⟨_, .list ho rfl rfl hr⟩
  | .tuple ds, _, _, h, r => by
    cases h with
    | tup hs ha =>
      cases r
      obtain ⟨its, o, n, rv, h1, h2, h3⟩ := Dt.obT I hs
      obtain ⟨as, hr⟩ := Dt.readsAll I ds _ its ha rv
      exact ⟨_, .tuple h1 h2 h3 hr⟩
  | .dict kvs, _, _, h, r => by
    cases h with
    | dct hs =>
      cases r
      obtain ⟨o, n, h1, h2, h3, _⟩ := Dt.obD I hs
      exact ⟨_, .dict h1 h2 h3 .nil .nil⟩
theorem Dt.readsAll (I : Inv X pins σ H s) : ∀ (ds : List PyData) (vs : List V) (us : List Value), Dts X.K H vs ds → Vals vs us → ∃ as, ReadsAll s.heap us ds as
  | [], _, _, h, r => by
    cases h
    cases r
    exact ⟨_, .nil⟩
  | d :: ds, _, _, h, r => by
    cases h with
    | cons h1 h2 =>
      cases r with
      | cons r1 r2 =>
        obtain ⟨as, q1⟩ := Dt.reads I d _ _ h1 r1
        obtain ⟨bs, q2⟩ := Dt.readsAll I ds _ _ h2 r2
        exact ⟨_, .cons q1 q2⟩
end
theorem dictText_nil : dictText [] = ("{}" : Str) := by decide +kernel
mutual
theorem Dt.rep (I : Inv X pins σ H s) : ∀ (d : PyData) (v : V) (u : Value), Dt X.K H v d → RelV v u → d.showable = true → d.shown.length ≤ sizeLine → ∃ bs, ReadAtMost s.heap d.depth bs ∧ ReprK X.prog X.w bs s.heap d.depth u d.shown
  | .none, _, _, h, r, _, _ => by
    cases h
    cases r
    exact ⟨[], (fun _ z => nomatch z), by simp only [PyData.shown]; exact .of_is ReprIs.none _ _ _⟩
  | .bool b, _, _, h, r, _, _ => by
    cases h
    cases r
    exact ⟨[], (fun _ z => nomatch z), by simp only [PyData.shown]; exact .of_is (ReprIs.bool b) _ _ _⟩
  | .int i, _, _, h, r, hs, _ => by
    cases h
    obtain ⟨t, rfl⟩ := r
    exact ⟨[], (fun _ z => nomatch z), by simp only [PyData.shown]; exact .of_is (ReprIs.int t (by simpa [PyData.showable] using hs)) _ _ _⟩
  | .str x, _, _, h, r, _, hz => by
    cases h
    obtain ⟨t, rfl⟩ := r
    exact ⟨[], (fun _ z => nomatch z), by simp only [PyData.shown]; exact .of_is (ReprIs.str x t (by simpa only [PyData.shown] using hz)) _ _ _⟩
  | .list ds, v, u, h, r, hs, hz => by
    obtain ⟨as0, whole⟩ := Dt.reads I (.list ds) v u h r
    have hz' : (listText (PyData.shownAll ds)).length ≤ sizeLine := by simpa only [PyData.shown] using hz
    cases h with
    | lst hh ha =>
      cases r
      obtain ⟨its, n, rv, ho⟩ := Dt.obL (K := X.K) I hh
      obtain ⟨bs, hb, hk⟩ := Dt.repAll I ds _ its ha rv (by simpa [PyData.showable] using hs) fun t ht => Nat.le_trans (listText_mem_le ht) hz'
      have out := not_mem_of_deeper whole (n := PyData.depthAll ds) (by simp only [PyData.depth]; omega) hb
      refine ⟨_ :: bs, ReadAtMost.cons whole (by simp only [PyData.depth]; omega) hb, ?_⟩
      simp only [PyData.depth, PyData.shown]
      cases its with
      | nil =>
        cases rv
        cases ha
        simp only [PyData.shownAll, listText_nil]
        exact ReprK.listEmpty ho rfl rfl
      | cons x l => exact ReprK.list ho rfl rfl out (by simpa using hk.length_eq) fun i y e => hk.item i y (by simpa using e)
  | .tuple ds, v, u, h, r, hs, hz => by
    obtain ⟨as0, whole⟩ := Dt.reads I (.tuple ds) v u h r
    have hz' : (tupleText (PyData.shownAll ds)).length ≤ sizeLine := by simpa only [PyData.shown] using hz
    cases h with
    | tup hh ha =>
      cases r
      obtain ⟨its, o, n, rv, h1, h2, h3⟩ := Dt.obT I hh
      obtain ⟨bs, hb, hk⟩ := Dt.repAll I ds _ its ha rv (by simpa [PyData.showable] using hs) fun t ht => Nat.le_trans (tupleText_mem_le ht) hz'
      have out := not_mem_of_deeper whole (n := PyData.depthAll ds) (by simp only [PyData.depth]; omega) hb
      refine ⟨_ :: bs, ReadAtMost.cons whole (by simp only [PyData.depth]; omega) hb, ?_⟩
      simp only [PyData.depth, PyData.shown]
      exact ReprK.tuple h1 h2 h3 out hk
  | .dict kvs, v, u, h, r, hs, hz => by
    obtain ⟨as0, whole⟩ := Dt.reads I (.dict kvs) v u h r
    cases h with
    | dct hh =>
      cases r
      obtain ⟨o, n, h1, h2, h3, h4⟩ := Dt.obD I hh
      refine ⟨[_], ReadAtMost.cons whole (Nat.le_refl _) (fun _ z => nomatch z), ?_⟩
      simp only [PyData.depth, PyData.shown, PyData.shownKv]
      exact ReprK.dict h1 h2 h3 h4 (by simp) .nil
theorem Dt.repAll (I : Inv X pins σ H s) : ∀ (ds : List PyData) (vs : List V) (us : List Value), Dts X.K H vs ds → Vals vs us → PyData.showableAll ds = true → (∀ t ∈ PyData.shownAll ds, t.length ≤ sizeLine) →
    ∃ bs, ReadAtMost s.heap (PyData.depthAll ds) bs ∧ ReprAllK X.prog X.w bs s.heap (PyData.depthAll ds) us (PyData.shownAll ds)
  | [], _, _, h, r, _, _ => by
    cases h
    cases r
    exact ⟨[], (fun _ z => nomatch z), by simp only [PyData.shownAll]; exact .nil⟩
  | d :: ds, _, _, h, r, hs, hz => by
    have hs' : d.showable = true ∧ PyData.showableAll ds = true := by simpa [PyData.showableAll] using hs
    cases h with
    | cons h1 h2 =>
      cases r with
      | cons r1 r2 =>
        obtain ⟨b1, hb1, k1⟩ := Dt.rep I d _ _ h1 r1 hs'.1 (hz _ (by simp [PyData.shownAll]))
        obtain ⟨b2, hb2, k2⟩ := Dt.repAll I ds _ _ h2 r2 hs'.2 fun t ht => hz t (by simp [PyData.shownAll, ht])
        refine ⟨b1 ++ b2, fun b hm => ?_, ?_⟩
        · rcases List.mem_append.mp hm with z | z
          · obtain ⟨d', as', r', q⟩ := hb1 b z
            exact ⟨d', as', r', Nat.le_trans q (by simp only [PyData.depthAll]; omega)⟩
          · obtain ⟨d', as', r', q⟩ := hb2 b z
            exact ⟨d', as', r', Nat.le_trans q (by simp only [PyData.depthAll]; omega)⟩
        · simp only [PyData.depthAll, PyData.shownAll]
          exact .cons ((k1.more fun b z => List.mem_append_left _ z).level_le (by omega)) (k2.more_le (fun b z => List.mem_append_right _ z) (by omega))
end
/-- repr(x), x data -/
def rRepD (K : PySem.W.Frag) : List V → Hp → VK → Prop := fun xs H Q => ∃ x d, xs = [x] ∧ Dt K H x d ∧ d.showable = true ∧ d.shown.length ≤ sizeLine ∧ d.depth ≤ 60 ∧ Q (.str d.shown) H
theorem call_repD (hg : X.A.guards = some []) (hu : X.A.units + 64 < cLine) : CallR X (.builtin "repr") (rRepD X.K) := by
  intro pins s σ H xs us Q I r h
  obtain ⟨x, d, rfl, hd, hs, hz, hn, q⟩ := h
  obtain ⟨u, rfl, r1⟩ := vals1 r
  have back : ∀ (h' : Heap) (t : Tok) (tk : Nat), (∀ b o, s.heap.get? b = some o → h'.get? b = some o) → EP X pins σ Q (.str d.shown t) { s with heap := h', toks := tk } := fun h' t tk k =>
    ⟨.str d.shown, H, I.kept k, ⟨t, rfl⟩, q⟩
  cases d with
  | none =>
    cases hd
    cases r1
    exact PySem.P.repr_of_none (back _ _ _ fun _ _ e => e)
  | bool b =>
    cases hd
    cases r1
    exact PySem.P.repr_of_bool (back _ _ _ fun _ _ e => e)
  | int i =>
    cases hd
    obtain ⟨t, rfl⟩ := r1
    exact PySem.P.repr_of_int (by simpa [PyData.showable] using hs) (back _ _ _ fun _ _ e => e)
  | str y =>
    cases hd
    obtain ⟨t, rfl⟩ := r1
    exact PySem.P.repr_of_str (back _ _ _ fun _ _ e => e) (by simpa only [PyData.shown] using hz)
  | list ds =>
    obtain ⟨as0, whole⟩ := Dt.reads I (.list ds) x u hd r1
    have hz' : (listText (PyData.shownAll ds)).length ≤ sizeLine := by simpa only [PyData.shown] using hz
    cases hd with
    | lst hh ha =>
      cases r1
      obtain ⟨its, n, rv, ho⟩ := Dt.obL (K := X.K) I hh
      obtain ⟨bs, hb, hk⟩ := Dt.repAll I ds _ its ha rv (by simpa [PyData.showable] using hs) fun t ht => Nat.le_trans (listText_mem_le ht) hz'
      have out := not_mem_of_deeper whole (n := PyData.depthAll ds) (by simp only [PyData.depth]; omega) hb
      simp only [PyData.depth] at hn
      refine call_repr_slot (by omega) ⟨_, ho, rfl⟩ F.slot_list_repr.toG ?_
      cases its with
      | nil =>
        cases rv
        cases ha
        simp only [PyData.shown, PyData.shownAll, listText_nil] at back
        exact call_list_repr_empty ⟨_, ho, rfl⟩ ho rfl ⟨_, _, rfl, back s.heap _ _ fun _ _ e => e⟩
      | cons y l =>
        simp only [PyData.shown] at back
        exact call_list_reprK ho rfl rfl out (by simpa using hk.length_eq) (fun i y e => hk.item i y (by simpa using e)) hg (fun b _ => Clear.nil b) (by show X.A.units + 1 + _ < _; omega) (fun _ _ e => e) (fun h' u tk k => ⟨_, _, rfl, back h' u tk k⟩) hz'
  | tuple ds =>
    obtain ⟨as0, whole⟩ := Dt.reads I (.tuple ds) x u hd r1
    have hz' : (tupleText (PyData.shownAll ds)).length ≤ sizeLine := by simpa only [PyData.shown] using hz
    cases hd with
    | tup hh ha =>
      cases r1
      obtain ⟨its, o, n, rv, h1, h2, h3⟩ := Dt.obT I hh
      obtain ⟨bs, hb, hk⟩ := Dt.repAll I ds _ its ha rv (by simpa [PyData.showable] using hs) fun t ht => Nat.le_trans (tupleText_mem_le ht) hz'
      have out := not_mem_of_deeper whole (n := PyData.depthAll ds) (by simp only [PyData.depth]; omega) hb
      simp only [PyData.depth] at hn
      simp only [PyData.shown] at back
      exact call_repr_slot (by omega) ⟨o, h1, h2⟩ F.slot_tuple_repr (call_tuple_reprK h1 h2 h3 out hk hg (fun b _ => Clear.nil b) (by show X.A.units + 1 + _ < _; omega) (fun _ _ e => e) (fun h' u tk k => ⟨_, _, rfl, back h' u tk k⟩) hz')
  | dict kvs =>
    cases hd with
    | dct hh =>
      cases r1
      obtain ⟨o, n, h1, h2, h3, h4⟩ := Dt.obD I hh
      simp only [PyData.shown, PyData.shownKv] at back hz
      exact call_repr_slot (by omega) ⟨o, h1, h2⟩ F.slot_dict_repr (call_dict_reprK (as := []) (d := 0) h1 h2 h3 h4 (by simp) .nil hg (fun b _ => Clear.nil b) (by show X.A.units + 1 + _ < _; omega) (fun _ _ e => e) (fun h' u tk k => ⟨_, _, rfl, back h' u tk k⟩) hz)
end
end GL

namespace GL
open PySem PySem.Spec PyProof.Rows L2
/-! ### a def of the text, ready to be called -/
structure Use (P : Program) (w : World) (K : PySem.W.Frag) (mg : Str → Option Value) (base : Heap) (x : Str) (ps : List Str) (sp : Sp) (k : Nat) : Prop where
  ex : ∃ f fd, FnOk P w K mg base CX0 k f fd ps sp ∧ mg x = some (.ref f) ∧ PySem.W.keepIn K (.ref f) = true ∧ Binds K fd ps []
structure UseG (P : Program) (w : World) (K : PySem.W.Frag) (mg : Str → Option Value) (base : Heap) (x : Str) (ps : List Str) (sp : Sp) (k : Nat) : Prop where
  ex : ∃ f fd, FnG P w K mg base CX0 k f fd ps sp ∧ mg x = some (.ref f) ∧ PySem.W.keepIn K (.ref f) = true ∧ Binds K fd ps []
section
variable {X : Cx} {ps : List Str} {sp : Sp} {x : Str} {e : Expr} {es : List Expr} {t : TA} {p pos : Pos} {k : Nat}
theorem pe_use (U : Use X.prog X.w X.K X.mg X.base x ps sp k) (hr : Room k X.A) (hg : Gl X x) (ha : PA X (e :: es) t)
    (hdb : (x == ("__debug__" : Str)) = false := by decide) (he : starEach (e :: es) X.env = (false, eval e X.env) :: starEach es X.env := by rfl) (hpl : (backTo pos (starEach es X.env)).any (·.1) = false := by rfl) :
    PE X (.Call (.Name x p) (e :: es) [] pos) (tCall sp [] E0 t) := by
  obtain ⟨f, fd, F, hm, hk, hb⟩ := U.ex
  exact pe_call F hr hg hm hk hb .nil pass0 ha hdb he hpl
theorem pe_useG (U : UseG X.prog X.w X.K X.mg X.base x ps sp k) (hgd : X.A.guards = some []) (hr : Room k X.A) (hg : Gl X x) (ha : PA X (e :: es) t)
    (hdb : (x == ("__debug__" : Str)) = false := by decide) (he : starEach (e :: es) X.env = (false, eval e X.env) :: starEach es X.env := by rfl) (hpl : (backTo pos (starEach es X.env)).any (·.1) = false := by rfl) :
    PE X (.Call (.Name x p) (e :: es) [] pos) (tCall sp [] E0 t) := by
  obtain ⟨f, fd, F, hm, hk, hb⟩ := U.ex
  exact pe_callG F hgd hr hg hm hk hb .nil pass0 ha hdb he hpl
/-- f(k = v, ..), nothing by place -/
theorem pe_kws {CX : CXT} {f : Addr} {fd : FuncData} {ks : List Str} {E : XK} {kws : List Keyword} {tk : TA} {g : List Value → List Value → List Value} {gV : List V → List V → List V}
    (F : FnOk X.prog X.w X.K X.mg X.base CX k f fd ps sp) (hr : Room k X.A) (hg : Gl X x) (hm : X.mg x = some (.ref f)) (hk : PySem.W.keepIn X.K (.ref f) = true) (hb : KBinds X.K fd ps ks g gV) (hx : Passes CX X E) (hkw : PK X kws tk)
    (hall : (backToKw pos (keywordEach kws X.env)).all (·.1.isSome) = true := by rfl) (hks : (backToKw pos (keywordEach kws X.env)).filterMap (·.1) = ks := by rfl) (hdb : (x == ("__debug__" : Str)) = false := by decide)
    (hpl : ((backTo pos (starEach [] X.env)).any (·.1) || (backToKw pos (keywordEach kws X.env)).any (·.1.isNone)) = false := by rfl) :
    PE X (.Call (.Name x p) [] kws pos) (tCallK sp gV E tNil tk) :=
  ⟨fun pins s σ H Q I h => wpAny_Call_Name_kw (ld_glob I hg hm (PySem.W.callWith_KW0 (h₀ := X.base) I.ok.mod.kin hk hall (thn (hkw.run pos pins s σ H _ I h) fun ws s2 hh => by
    obtain ⟨zs, H2, I2, rz, q2⟩ := hh
    refine ⟨I2.kIn, ?_⟩
    rw [hks]
    exact run_fnk F hr hb hx I2 .nil rz q2) hpl) hdb)⟩
end
/-! ### rules -/
section
variable {X : Cx} {pos : Pos}
def CPowW (i j : Int) : Prop := 0 ≤ j ∧ (Builtin.Int.intBits i : Int) * j ≤ 2 ^ 27
theorem op_powW : OpR X (binaryOp .Pow) (rI CPowW fun i j => .int (i ^ j.toNat)) := opI fun _ _ _ _ _ _ _ hc q => pow_int hc.1 hc.2 q
/-- xs != ys, ys an empty list -/
def rNeNil (K : PySem.W.Frag) : R2 := fun x y H Q => ∃ a b xs, x = .ref a ∧ y = .ref b ∧ SqL K H a xs ∧ SqL K H b [] ∧ Q (.bl (!xs.isEmpty)) H
theorem op_neNil (hu : X.A.units + 64 < cLine) : OpR X (compareOp .NotEq) (rNeNil X.K) := by
  intro pins s σ H x y v u Q I rx ry h
  obtain ⟨a, b, xs, rfl, rfl, ha, hb, q⟩ := h
  cases rx
  cases ry
  obtain ⟨is, ra, pa, _⟩ := I.list ha
  obtain ⟨js, rb, pb, _⟩ := I.list hb
  cases rb
  cases xs with
  | nil =>
    cases ra
    exact (SeqAt.RcNeAt.lists (e := fun _ => true) pa.isList pb.isList rfl (by omega) (fun j h1 => absurd h1 (by simp))) _ _ _ _ ⟨.bl _, H, I, rfl, q⟩
  | cons z zs =>
    cases ra with
    | cons r1 r2 => exact (SeqAt.RcNeAt.lists_lengths pa.isList pb.isList (by simp) (by omega)) _ _ _ _ ⟨.bl _, H, I, rfl, q⟩
/-- xs[::0 - 1] -/
theorem pe_revB {e : Expr} {te : TE} {k k2 : Nat} {p1 p2 p3 p4 : Pos} (he : PE X e te) : PE X (.Subscript e (.Slice none none (some (.BinOp (.Constant (.int 0) k p1) .Sub (.Constant (.int 1) k2 p4) p2)) p3) pos) (tRevL X.K te) := by
  refine ⟨fun pins s σ H Q I h => Subscript_ (thn (he.run pins s σ H _ I h) ?_)⟩
  rintro v s1 ⟨x, H1, I1, r1, a, xs, rfl, hx, q⟩
  cases r1
  have back : PO X (some (.BinOp (.Constant (.int 0) k p1) .Sub (.Constant (.int 1) k2 p4) p2)) (tPart (tOp (rI0 fun i j => .int (i - j)) (tC (.int 0)) (tC (.int 1)))) := po_some (pe_op op_sub pe_int pe_int)
  refine wpAny_Slice (thn (po_none.run pins s1 σ H1 (fun o H2 => o = none ∧ H2 = H1) I1 ⟨rfl, rfl⟩) ?_)
  rintro vl s2 ⟨l, H2, I2, pl, rfl, rfl⟩
  refine thn (po_none.run pins s2 σ H2 (fun o H3 => o = none ∧ H3 = H2) I2 ⟨rfl, rfl⟩) ?_
  rintro vu s3 ⟨u, H3, I3, pu, rfl, rfl⟩
  refine thn (back.run pins s3 σ H3 (fun o H4 => o = some (-1) ∧ H4 = H3) I3 ⟨0, 1, rfl, rfl, -1, rfl, rfl, rfl⟩) ?_
  rintro vs s4 ⟨o, H4, I4, ps, rfl, rfl⟩
  have I5 : Inv X pins σ H4 { s4 with heap := s4.heap.push { cls := .type "slice", data := .fields #[vl, vu, vs] } } := I4.kept (t' := s4.toks) fun b ob q => Heap.get?_push_of_some _ q
  obtain ⟨its, r, ht, hz⟩ := I5.list hx
  have cnt := r.length
  refine tail_any (ops := [.ref a, .ref s4.heap.objs.size]) ht.isList.typeIs PySem.slot_list_getitem.lookup (wpAny_getItem_list_slice ht.isList (Heap.IsSliceOf.new _ vl vu vs) pl pu ps (by decide) ?_ (by rw [List.size_toArray]; omega)) (by with_unfolding_all rfl)
  rw [PySem.W.krv_pick]
  exact ⟨.ref _, _, I5.laid (t' := s4.toks) (o := .lst xs.reverse) (fun b ob q => Heap.get?_push_of_some _ q) (Nat.le_refl _) ⟨by rw [List.length_reverse]; exact hz, _, 0, r.reverse, Heap.get?_push_size _ rfl⟩, rfl, q _ (I5.hok.fresh (Nat.le_refl _))⟩
end
end GL

namespace GL
open PySem PySem.Spec PyProof.Rows L2
theorem same_new {p : Addr} {H : Hp} {o : HO} (h : H p = none) : Same H (upd H p o) := fun b u e => by rw [upd_ne (ne_of_none e h)]; exact e
mutual
theorem Dt.same {K : PySem.W.Frag} {H H' : Hp} (s : Same H H') : ∀ (d : PyData) (v : V), Dt K H v d → Dt K H' v d
  | .none, _, h => by cases h; exact .non
  | .bool b, _, h => by cases h; exact .bl b
  | .int i, _, h => by cases h; exact .int i
  | .str x, _, h => by cases h; exact .str x
  | .list ds, _, h => by
    cases h with
    | lst e a => exact .lst (s _ _ e) (Dts.same s ds _ a)
  | .tuple ds, _, h => by
    cases h with
    | tup e a => exact .tup (s _ _ e) (Dts.same s ds _ a)
  | .dict kvs, _, h => by
    cases h with
    | dct e => exact .dct (s _ _ e)
theorem Dts.same {K : PySem.W.Frag} {H H' : Hp} (s : Same H H') : ∀ (ds : List PyData) (vs : List V), Dts K H vs ds → Dts K H' vs ds
  | [], _, h => by cases h; exact .nil
  | d :: ds, _, h => by
    cases h with
    | cons a b => exact .cons (Dt.same s d _ a) (Dts.same s ds _ b)
end
theorem Dts.length {K : PySem.W.Frag} {H : Hp} : ∀ {vs : List V} {ds : List PyData}, Dts K H vs ds → vs.length = ds.length
  | _, _, .nil => rfl
  | _, _, .cons _ b => congrArg (· + 1) b.length
theorem Dts.get {K : PySem.W.Frag} {H : Hp} : ∀ {vs : List V} {ds : List PyData} {i : Nat} {v : V}, Dts K H vs ds → vs[i]? = some v → ∃ d, ds[i]? = some d ∧ Dt K H v d
  | _, _, i, v, .nil, e => by simp at e
  | _, _, 0, v, .cons a _, e => by
    cases e
    exact ⟨_, rfl, a⟩
  | _, _, i + 1, v, .cons _ b, e => b.get (i := i) (v := v) e
theorem Dts.append {K : PySem.W.Frag} {H : Hp} : ∀ {vs ws : List V} {ds es : List PyData}, Dts K H vs ds → Dts K H ws es → Dts K H (vs ++ ws) (ds ++ es)
  | _, _, _, _, .nil, z => z
  | _, _, _, _, .cons a b, z => .cons a (b.append z)
def tyOf : PyData → String
  | .none => "NoneType" | .bool _ => "bool" | .int _ => "int" | .str _ => "str" | .list _ => "list" | .tuple _ => "tuple" | .dict _ => "dict"
theorem Dt.ty {K : PySem.W.Frag} {H : Hp} {x : V} {d : PyData} (h : Dt K H x d) : TyX K H x (.type (tyOf d)) := by
  cases h with
  | non => exact .base .non
  | bl b => exact .base (.bl b)
  | int i => exact .base (.int i)
  | str x => exact .base (.str x)
  | lst e _ => exact .base (.lst e)
  | tup e _ => exact .base (.tup e)
  | dct e => exact .base (.dK e)
def isInt : PyData → Bool
  | .bool _ => true | .int _ => true | _ => false
def isBool : PyData → Bool
  | .bool _ => true | _ => false
def isList : PyData → Bool
  | .list _ => true | _ => false
theorem kit_int {K : PySem.W.Frag} (d : PyData) : PySem.W.kitOne K (.type (tyOf d)) (.type "int") = some (isInt d) := by
  cases d with
  | none => exact kit_ty (show kitB "NoneType" "int" = some false by decide +kernel)
  | bool _ => exact kit_ty (show kitB "bool" "int" = some true by decide +kernel)
  | int _ => exact kit_ty (show kitB "int" "int" = some true by decide +kernel)
  | str _ => exact kit_ty (show kitB "str" "int" = some false by decide +kernel)
  | list _ => exact kit_ty (show kitB "list" "int" = some false by decide +kernel)
  | tuple _ => exact kit_ty (show kitB "tuple" "int" = some false by decide +kernel)
  | dict _ => exact kit_ty (show kitB "dict" "int" = some false by decide +kernel)
theorem kit_bool {K : PySem.W.Frag} (d : PyData) : PySem.W.kitOne K (.type (tyOf d)) (.type "bool") = some (isBool d) := by
  cases d with
  | none => exact kit_ty (show kitB "NoneType" "bool" = some false by decide +kernel)
  | bool _ => exact kit_ty (show kitB "bool" "bool" = some true by decide +kernel)
  | int _ => exact kit_ty (show kitB "int" "bool" = some false by decide +kernel)
  | str _ => exact kit_ty (show kitB "str" "bool" = some false by decide +kernel)
  | list _ => exact kit_ty (show kitB "list" "bool" = some false by decide +kernel)
  | tuple _ => exact kit_ty (show kitB "tuple" "bool" = some false by decide +kernel)
  | dict _ => exact kit_ty (show kitB "dict" "bool" = some false by decide +kernel)
theorem kit_list {K : PySem.W.Frag} (d : PyData) : PySem.W.kitOne K (.type (tyOf d)) (.type "list") = some (isList d) := by
  cases d with
  | none => exact kit_ty (show kitB "NoneType" "list" = some false by decide +kernel)
  | bool _ => exact kit_ty (show kitB "bool" "list" = some false by decide +kernel)
  | int _ => exact kit_ty (show kitB "int" "list" = some false by decide +kernel)
  | str _ => exact kit_ty (show kitB "str" "list" = some false by decide +kernel)
  | list _ => exact kit_ty (show kitB "list" "list" = some true by decide +kernel)
  | tuple _ => exact kit_ty (show kitB "tuple" "list" = some false by decide +kernel)
  | dict _ => exact kit_ty (show kitB "dict" "list" = some false by decide +kernel)
theorem yes_of {σ : L2.St} {H : Hp} {A B : Bool → Hp → Prop} (h : A true H) : tYes σ H (fun b H' => if b = true then A b H' else B b H') := by
  show (if true = true then A true H else B true H)
  exact iteT h
end GL

/-! Data whose repr is known to fit: leaves, and lists and tuples of at most fifty things, three deep. -/
namespace GL
open PySem PySem.Spec PyProof.Rows L2
def Leaf : PyData → Prop
  | .none => True
  | .bool _ => True
  | .int i => i.natAbs < 2 ^ 100
  | .str x => (reprText x).length ≤ 110
  | .dict kvs => kvs = []
  | _ => False
def Nice : Nat → PyData → Prop
  | 0, d => Leaf d
  | n + 1, d => Leaf d ∨ ∃ ds, (d = .list ds ∨ d = .tuple ds) ∧ ds.length ≤ 50 ∧ ∀ e ∈ ds, Nice n e
theorem Nice.leaf {n : Nat} {d : PyData} (h : Leaf d) : Nice n d := by
  cases n with
  | zero => exact h
  | succ n => exact .inl h
theorem Nice.up {n : Nat} {d : PyData} (h : Nice n d) : Nice (n + 1) d := by
  induction n generalizing d with
  | zero => exact .inl h
  | succ n ih =>
    rcases h with h | ⟨ds, e, l, a⟩
    · exact .inl h
    · exact .inr ⟨ds, e, l, fun x hx => ih (a x hx)⟩
theorem Nice.list {n : Nat} {ds : List PyData} (l : ds.length ≤ 50) (a : ∀ e ∈ ds, Nice n e) : Nice (n + 1) (.list ds) := .inr ⟨ds, .inl rfl, l, a⟩
theorem Nice.tuple {n : Nat} {ds : List PyData} (l : ds.length ≤ 50) (a : ∀ e ∈ ds, Nice n e) : Nice (n + 1) (.tuple ds) := .inr ⟨ds, .inr rfl, l, a⟩
theorem textFrom_le : ∀ (ts : List Str) (k : Nat) (acc : Str), (textFrom k acc ts).length ≤ acc.length + piled ts
  | [], k, acc => Nat.le_refl _
  | t :: r, k, acc => by
    have ih := textFrom_le r (k + 1) (acc ++ (if k > 0 then ", " else "" : String) ++ t)
    rw [strLen_append, strLen_append] at ih
    rw [piled_cons]
    show (textFrom (k + 1) (acc ++ (if k > 0 then ", " else "" : String) ++ t) r).length ≤ _
    have e : (Str.ofString (if k > 0 then ", " else "" : String)).length ≤ 2 := by
      by_cases h : k > 0
      · rw [if_pos h]
        exact Nat.le_of_eq rfl
      · rw [if_neg h]
        exact Nat.zero_le _
    omega
theorem listText_le (ts : List Str) : (listText ts).length ≤ 2 + piled ts := by
  unfold listText
  rw [strLen_append]
  have := textFrom_le ts 0 "["
  have e1 : (Str.ofString "[").length = 1 := rfl
  have e2 : (Str.ofString "]").length = 1 := rfl
  omega
theorem tupleText_le (ts : List Str) : (tupleText ts).length ≤ 3 + piled ts := by
  unfold tupleText
  rw [strLen_append, strLen_append]
  have e1 : (Str.ofString "(").length = 1 := rfl
  have e2 : (Str.ofString (if ts.length == 1 then ",)" else ")" : String)).length ≤ 2 := by
    by_cases h : (ts.length == 1) = true
    · rw [if_pos h]
      exact Nat.le_of_eq rfl
    · rw [if_neg h]
      exact Nat.le_succ _
  cases ts with
  | nil =>
    have e3 : (Str.join ", " ([] : List Str)).length = 0 := rfl
    omega
  | cons t r =>
    have := join_length_add (t :: r) (by simp)
    omega
theorem piled_le {B : Nat} : ∀ {ds : List PyData}, (∀ e ∈ ds, e.shown.length ≤ B) → piled (PyData.shownAll ds) ≤ ds.length * (B + 2)
  | [], _ => Nat.zero_le _
  | d :: ds, h => by
    have ih := piled_le (ds := ds) (B := B) fun e he => h e (List.mem_cons_of_mem _ he)
    have h0 := h d (List.mem_cons_self ..)
    simp only [PyData.shownAll]
    rw [piled_cons, List.length_cons, Nat.add_mul]
    omega
def Bound : Nat → Nat
  | 0 => 110
  | n + 1 => 3 + 50 * (Bound n + 2)
theorem Bound.up (n : Nat) : 110 ≤ Bound n := by
  induction n with
  | zero => exact Nat.le_refl _
  | succ n ih =>
    show 110 ≤ 3 + 50 * (Bound n + 2)
    omega
theorem log_of {i : Int} (h : i.natAbs < 2 ^ 100) : i.natAbs.log2 < 100 := PySem.Flt.log2_lt_of (by decide) h
theorem Leaf.shown {d : PyData} (h : Leaf d) : d.shown.length ≤ 110 ∧ d.showable = true ∧ d.depth ≤ 1 := by
  cases d with
  | none => exact ⟨by simp only [PyData.shown]; decide, by simp only [PyData.showable], by simp only [PyData.depth]; omega⟩
  | bool b => exact ⟨by simp only [PyData.shown]; cases b <;> decide, by simp only [PyData.showable], by simp only [PyData.depth]; omega⟩
  | int i =>
    have l := log_of h
    refine ⟨?_, by simp only [PyData.showable]; exact decide_eq_true (by omega), by simp only [PyData.depth]; omega⟩
    simp only [PyData.shown]
    have := int_text_length_le (k := 100) (by decide) l
    rw [PySem.ofString_length]
    omega
  | str x => exact ⟨by simp only [PyData.shown]; exact h, by simp only [PyData.showable], by simp only [PyData.depth]; omega⟩
  | dict kvs =>
    have e : kvs = [] := h
    subst e
    exact ⟨by simp only [PyData.shown, PyData.shownKv]; decide, by simp only [PyData.showable, PyData.showableKv], by simp only [PyData.depth, PyData.depthKv]; omega⟩
  | list ds => exact h.elim
  | tuple ds => exact h.elim
theorem showableAll_of : ∀ {ds : List PyData}, (∀ e ∈ ds, e.showable = true) → PyData.showableAll ds = true
  | [], _ => by simp only [PyData.showableAll]
  | d :: ds, h => by
    simp only [PyData.showableAll]
    rw [h d (List.mem_cons_self ..), showableAll_of fun e he => h e (List.mem_cons_of_mem _ he)]
    rfl
theorem depthAll_of {n : Nat} : ∀ {ds : List PyData}, (∀ e ∈ ds, e.depth ≤ n) → PyData.depthAll ds ≤ n
  | [], _ => by simp only [PyData.depthAll]; omega
  | d :: ds, h => by
    simp only [PyData.depthAll]
    have h0 := h d (List.mem_cons_self ..)
    have ih := depthAll_of (n := n) fun e he => h e (List.mem_cons_of_mem _ he)
    omega
theorem Nice.shown : ∀ {n : Nat} {d : PyData}, Nice n d → d.shown.length ≤ Bound n ∧ d.showable = true ∧ d.depth ≤ n + 1
  | 0, d, h => by
    obtain ⟨a, b, c⟩ := Leaf.shown h
    exact ⟨a, b, by omega⟩
  | n + 1, d, h => by
    rcases h with h | ⟨ds, e, l, a⟩
    · obtain ⟨x, y, z⟩ := Leaf.shown h
      exact ⟨Nat.le_trans x (Bound.up _), y, by omega⟩
    · have m : ds.length * (Bound n + 2) ≤ 50 * (Bound n + 2) := Nat.mul_le_mul_right _ l
      have pl := piled_le (B := Bound n) fun x hx => (Nice.shown (a x hx)).1
      have sh := showableAll_of fun x hx => (Nice.shown (a x hx)).2.1
      have dp := depthAll_of (n := n + 1) fun x hx => (Nice.shown (a x hx)).2.2
      rcases e with rfl | rfl
      · refine ⟨?_, by simp only [PyData.showable]; exact sh, by simp only [PyData.depth]; omega⟩
        simp only [PyData.shown]
        have := listText_le (PyData.shownAll ds)
        show _ ≤ 3 + 50 * (Bound n + 2)
        omega
      · refine ⟨?_, by simp only [PyData.showable]; exact sh, by simp only [PyData.depth]; omega⟩
        simp only [PyData.shown]
        have := tupleText_le (PyData.shownAll ds)
        show _ ≤ 3 + 50 * (Bound n + 2)
        omega
theorem Nice.fits {d : PyData} (h : Nice 3 d) : d.showable = true ∧ d.shown.length ≤ sizeLine ∧ d.depth ≤ 60 := by
  obtain ⟨a, b, c⟩ := h.shown
  refine ⟨b, Nat.le_trans a ?_, by omega⟩
  rw [sizeLine_eq]
  decide
/-! ### what is tracked, but for one thing -/
def hid (H : Hp) (g : Addr) : Hp := fun b => if b = g then none else H b
theorem hid_ne {H : Hp} {g b : Addr} (h : b ≠ g) : hid H g b = H b := if_neg h
theorem hid_same {H : Hp} {g : Addr} : Same (hid H g) H := fun b o e => by
  by_cases h : b = g
  · unfold hid at e
    rw [if_pos h] at e
    cases e
  · rw [hid_ne h] at e
    exact e
theorem hid_none {H : Hp} {g b : Addr} {o : HO} (h : hid H g b = some o) : b ≠ g := fun z => by
  unfold hid at h
  rw [if_pos z] at h
  cases h
end GL

namespace K1
open PySem PySem.Spec PyProof.Rows L2 GL
def topS (i : Nat) : Stmt := PySem.Challenge.pw_twinties_k01_companies.main.body.getD i (.Pass ⟨0, 0, 0, 0⟩)
abbrev sHash : Stmt := topS 16
abbrev sRandom : Stmt := topS 17
abbrev sCell : Stmt := topS 18
abbrev sGen : Stmt := topS 19
/-- the built-in names that the text uses are still the built-in ones -/
structure Bi (mg : Str → Option Value) : Prop where
  int : mg "int" = none
  len : mg "len" = none
  sum : mg "sum" = none
  max : mg "max" = none
  min : mg "min" = none
  range : mg "range" = none
  isinstance : mg "isinstance" = none
  bool : mg "bool" = none
  list : mg "list" = none
  tuple : mg "tuple" = none
  all : mg "all" = none
  enumerate : mg "enumerate" = none
  repr : mg "repr" = none
section
variable {P : Program} {w : World} {K : PySem.W.Frag} {mg : Str → Option Value} {base : Heap}
/-! ### numbers drawn -/
theorem scHash : FnScope ["_law_seed", "_law_index", "_law_mixed"] ["_law_seed", "_law_index"] (defScope sHash) := ⟨rfl, rfl, rfl, by decide +kernel, rfl, by decide +kernel, by decide +kernel⟩
def spHash : Sp := fun vs H Q _ => ∃ b c : Int, vs = [.int b, .int c] ∧ 0 ≤ b ∧ b < 2147483647 ∧ 0 ≤ c ∧ c < 1099511627776 ∧ ∀ r : Int, 0 ≤ r → r < 2147483647 → Q (.int r) H
theorem ok_hash {f : Addr} {fd : FuncData} (F : Fun K "_law_hash" "_law_hash" sHash f fd) (T : Bi mg) : FnOk P w K mg base CX0 1 f fd ["_law_seed", "_law_index"] spHash := by
  refine F.ok scHash (fun vs H Q E h => ?_) (fun cdv A outer s H vs Q E hr h => ?_)
  · obtain ⟨b, c, rfl, _⟩ := h
    rfl
  · obtain ⟨b, c, rfl, hb0, hb1, hc0, hc1, q⟩ := h
    refine ⟨_, pss_cons (ps_set (i := 2) scHash.nd rfl (Or.inl rfl) (pe_op op_mod (pe_callTy call_int1 (by rfl) T.int PyProof.Rows.boot_int (pa_cons
        (pe_op op_add (pe_op op_add (pe_op op_add (pe_op op_mul (pv 0) pe_int) (pe_op op_mul (pe_op op_mul pe_int (pv 1)) (pv 1))) (pe_op op_mul pe_int (pv 1))) pe_int) pa_nil)) pe_int))
      (pss_cons (ps_set (i := 2) scHash.nd rfl (Or.inl rfl) (pe_op op_mod (pe_callTy call_int1 (by rfl) T.int PyProof.Rows.boot_int (pa_cons
        (pe_op op_add (pe_op op_add (pe_op op_mul (pv 2) (pv 2)) (pe_op op_mul pe_int (pv 1))) pe_int) pa_nil)) pe_int))
      (pss_one (ps_ret (pe_op op_mod (pe_callTy call_int1 (by rfl) T.int PyProof.Rows.boot_int (pa_cons (pe_op op_mul (pv 2) pe_int) pa_nil)) pe_int)))), ?_⟩
    refine ⟨_, rfl, _, _, rfl, rfl, .inl ⟨by omega, by omega⟩, _, rfl, _, _, rfl, rfl, .inl ⟨by omega, by omega⟩, _, rfl, _, _, rfl, rfl, .inr ⟨by omega, by omega⟩, _, _, rfl, rfl, _, rfl, _, _, rfl, rfl, .inl ⟨by omega, by omega⟩, _, _, rfl, rfl, _, _, rfl, rfl,
      .inl ⟨_, rfl, _, _, rfl, rfl, (by show (0 : Int) < 2147483629; decide), ?_⟩⟩
    generalize hm : (b * 1140671 + 27644437 * c * c + 131 * c + 19) % 2147483629 = m
    have m0 : 0 ≤ m := by rw [← hm]; exact Int.emod_nonneg _ (by decide)
    have m1 : m < 2147483629 := by rw [← hm]; exact Int.emod_lt_of_pos _ (by decide)
    refine ⟨_, rfl, _, rfl, _, _, rfl, rfl, .inl ⟨by omega, by omega⟩, _, rfl, _, _, rfl, rfl, .inl ⟨by omega, by omega⟩, _, _, rfl, rfl, _, _, rfl, rfl,
      .inl ⟨_, rfl, _, _, rfl, rfl, (by show (0 : Int) < 2147483587; decide), ?_⟩⟩
    generalize hn : (m * m + 62089 * c + 32416187) % 2147483587 = n
    have n0 : 0 ≤ n := by rw [← hn]; exact Int.emod_nonneg _ (by decide)
    have n1 : n < 2147483587 := by rw [← hn]; exact Int.emod_lt_of_pos _ (by decide)
    refine ⟨_, rfl, _, _, rfl, rfl, .inl ⟨by omega, by omega⟩, .inl ⟨_, rfl, _, _, rfl, rfl, (by show (0 : Int) < 2147483647; decide), ?_⟩⟩
    exact q _ (Int.emod_nonneg _ (by decide)) (Int.emod_lt_of_pos _ (by decide))
end
end K1

namespace K1
open PySem PySem.Spec PyProof.Rows L2 GL
/-- a list of three numbers that is drawn from: n are the draws' steps that are left -/
def Gen (H : Hp) (g : Addr) (n : Nat) : Prop := ∃ a b c : Int, H g = some (.lst [.int a, .int b, .int c]) ∧ 0 ≤ b ∧ b < 2147483647 ∧ 0 ≤ c ∧ c + n ≤ 1099511627000
theorem Gen.less {H : Hp} {g : Addr} {n m : Nat} (h : Gen H g n) (l : m ≤ n) : Gen H g m := by
  obtain ⟨a, b, c, h1, h2, h3, h4, h5⟩ := h
  exact ⟨a, b, c, h1, h2, h3, h4, by omega⟩
/-- all that was tracked but g is as it was -/
def But (g : Addr) (H H' : Hp) : Prop := ∀ b o, H b = some o → b ≠ g → H' b = some o
theorem But.refl {g : Addr} {H : Hp} : But g H H := fun _ _ e _ => e
theorem But.trans {g : Addr} {H H1 H2 : Hp} (a : But g H H1) (b : But g H1 H2) : But g H H2 := fun c o e n => b c o (a c o e n) n
theorem But.of {g : Addr} {H H' : Hp} (s : Same H H') : But g H H' := fun b o e _ => s b o e
theorem same_new {p : Addr} {H : Hp} {o : HO} (h : H p = none) : Same H (upd H p o) := fun b u e => by rw [upd_ne (ne_of_none e h)]; exact e
theorem But.new {g p : Addr} {H : Hp} {o : HO} (h : H p = none) : But g H (upd H p o) := .of (same_new h)
theorem But.put {g : Addr} {H : Hp} {o : HO} : But g H (upd H g o) := fun b o' e n => by rw [upd_ne n]; exact e
theorem Gen.ne {H : Hp} {g p : Addr} {n : Nat} (h : Gen H g n) (e : H p = none) : g ≠ p := by
  obtain ⟨a, b, c, h1, _⟩ := h
  exact ne_of_none h1 e
theorem Gen.new {H : Hp} {g p : Addr} {n : Nat} {o : HO} (h : Gen H g n) (e : H p = none) : Gen (upd H p o) g n := by
  have ne := h.ne e
  obtain ⟨a, b, c, h1, r⟩ := h
  exact ⟨a, b, c, by rw [upd_ne ne]; exact h1, r⟩
theorem Gen.other {H : Hp} {g p : Addr} {n : Nat} {o : HO} (h : Gen H g n) (ne : p ≠ g) : Gen (upd H p o) g n := by
  obtain ⟨a, b, c, h1, r⟩ := h
  exact ⟨a, b, c, by rw [upd_ne ne.symm]; exact h1, r⟩
section
variable {P : Program} {w : World} {K : PySem.W.Frag} {mg : Str → Option Value} {base : Heap}
theorem scRandom : FnScope ["_law_generator_here", "_law_bound", "_law_drawn", "_law_turn"] ["_law_generator_here", "_law_bound"] (defScope sRandom) := ⟨rfl, rfl, rfl, by decide +kernel, rfl, by decide +kernel, by decide +kernel⟩
def spRandom : Sp := fun vs H Q _ => ∃ (g : Addr) (m : Int) (n : Nat), vs = [.ref g, .int m] ∧ 0 < m ∧ m < 1329227995784915872903807060280344576 ∧ Gen H g (n + 5) ∧
  ∀ (r : Int) (H' : Hp), 0 ≤ r → r < m → Gen H' g n → But g H H' → Q (.int r) H'
theorem bits_le {m : Int} (h0 : 0 < m) (h : m < 1329227995784915872903807060280344576) : (Builtin.Int.intBits m : Int) / 30 ≤ 4 ∧ 0 ≤ (Builtin.Int.intBits m : Int) / 30 := by
  have l : m.natAbs < 2 ^ 120 := by omega
  have b : Builtin.Int.intBits m ≤ 120 := by
    have x := PySem.Flt.log2_lt_of (by decide : 0 < 120) l
    unfold Builtin.Int.intBits
    split <;> omega
  omega
theorem ok_random {f : Addr} {fd : FuncData} (F : Fun K "_law_random" "_law_random" sRandom f fd) (T : Bi mg) (UH : Use P w K mg base "_law_hash" ["_law_seed", "_law_index"] spHash 1) : FnOk P w K mg base CX0 2 f fd ["_law_generator_here", "_law_bound"] spRandom := by
  refine F.ok scRandom (fun vs H Q E h => ?_) (fun cdv A outer s H vs Q E hr h => ?_)
  · obtain ⟨g, m, n, rfl, _⟩ := h
    rfl
  · obtain ⟨g, m, n, rfl, m0, m1, G, q⟩ := h
    refine ⟨_, pss_cons (ps_if (pt_cmpR op_gt (pe_ix ix_list (pv 0) pe_int (fun _ _ => rfl)) pe_int (nomark _))
        (pss_cons (ps_set (i := 2) scRandom.nd rfl (Or.inl rfl) (pe_op op_mod (pe_callTy call_int1 (by rfl) T.int PyProof.Rows.boot_int (pa_cons (pe_ix ix_list (pv 0) pe_int (fun _ _ => rfl)) pa_nil)) (pv 1)))
        (pss_cons (ps_asg (pe_op op_fdivW (pe_ix ix_list (pv 0) pe_int (fun _ _ => rfl)) (pv 1)) (pg_sub (pv 0) pe_int set_list))
        (pss_one (ps_ret (pv 2))))) pss_nil)
      (pss_cons (ps_set (i := 2) scRandom.nd rfl (Or.inl rfl) pe_int)
      (pss_cons (ps_for PassesOwn.never rfl (pi_range1 (by rfl) T.range (pa_cons (pe_op op_add pe_int (pe_op op_fdiv (pe_bits (pv 1)) pe_int)) pa_nil)) (pg_name (i := 3) scRandom.nd rfl (Or.inl rfl))
        (pss_cons (ps_asg (pe_op op_add (pe_ix ix_list (pv 0) pe_int (fun _ _ => rfl)) pe_int) (pg_sub (pv 0) pe_int set_list))
        (pss_one (ps_set (i := 2) scRandom.nd rfl (Or.inl rfl) (pe_op op_add (pe_op op_mul (pv 2) pe_int)
          (pe_use UH hr (by rfl) (pa_cons (pe_ix ix_list (pv 0) pe_int (fun _ _ => rfl)) (pa_cons (pe_ix ix_list (pv 0) pe_int (fun _ _ => rfl)) pa_nil))))))))
      (pss_one (ps_ret (pe_op op_mod (pe_callTy call_int1 (by rfl) T.int PyProof.Rows.boot_int (pa_cons (pv 2) pa_nil)) (pv 1)))))), ?_⟩
    obtain ⟨a, b, c, hg, b0, b1, c0, c1⟩ := G
    refine ⟨_, rfl, g, _, _, _, rfl, rfl, SqL.of hg, at_of (j := 0) rfl rfl, _, _, rfl, rfl, _, rfl, ?_⟩
    by_cases ha : 0 < a
    · refine ite2 (fun _ => ?_) (fun z => absurd (decide_eq_true ha) z)
      refine ⟨_, rfl, g, _, _, _, rfl, rfl, SqL.of hg, at_of (j := 0) rfl rfl, .inl ⟨_, rfl, _, rfl, _, _, rfl, rfl, m0, ?_⟩⟩
      refine ⟨_, rfl, g, _, _, _, rfl, rfl, SqL.of hg, at_of (j := 0) rfl rfl, _, rfl, _, _, rfl, rfl, wide_div (b := 120) m0 (by omega) (by decide) (by decide), _, rfl, g, _, _, 0, rfl, rfl, hg, rfl, ?_⟩
      refine ⟨_, rfl, q _ _ (Int.emod_nonneg _ (by omega)) (Int.emod_lt_of_pos _ m0) ⟨_, b, c, upd_same, b0, b1, c0, by omega⟩ But.put⟩
    · refine ite2 (fun z => absurd (of_decide_eq_true z) ha) (fun _ => ?_)
      obtain ⟨u1, u0⟩ := bits_le m0 m1
      generalize hu : (Builtin.Int.intBits m : Int) / 30 = u at u0 u1
      refine ⟨_, rfl, _, rfl, _, _, rfl, rfl, ⟨by decide, by decide⟩, _, _, rfl, rfl, 1 + u, by rw [hu], by omega, by omega,
        for_range (lo := 0) (n := (1 + u).toNat) (fun i σ H' => ∃ (d : Int) (t : Option V) (c' : Int), σ = [some (.ref g), some (.int m), some (.int d), t] ∧ But g H H' ∧ H' g = some (.lst [.int a, .int b, .int c']) ∧ c ≤ c' ∧ c' ≤ c + i)
        ⟨0, none, c, rfl, But.refl, hg, by omega, by omega⟩ ?_ ?_⟩
      · rintro i σ H' hi ⟨d, t, c', rfl, bt, hg', c2, c3⟩
        refine ⟨_, rfl, g, _, _, _, rfl, rfl, SqL.of hg', at_of (j := 2) rfl rfl, _, _, rfl, rfl, _, rfl, g, _, _, 2, rfl, rfl, hg', rfl, ?_⟩
        refine ⟨_, rfl, _, _, rfl, rfl, .inr ⟨by decide, by decide⟩, _, rfl, g, _, _, _, rfl, rfl, SqL.of upd_same, at_of (j := 1) rfl rfl, _, rfl, g, _, _, _, rfl, rfl, SqL.of upd_same, at_of (j := 2) rfl rfl,
          b, c' + 1, rfl, b0, b1, by omega, by omega, fun r r0 r1 => ⟨_, _, rfl, rfl, ?_⟩⟩
        exact ⟨_, _, c' + 1, rfl, bt.trans But.put, upd_same, by omega, by omega⟩
      · rintro σ H' ⟨d, t, c', rfl, bt, hg', c2, c3⟩
        refine ⟨_, rfl, .inl ⟨_, rfl, _, rfl, _, _, rfl, rfl, m0, ?_⟩⟩
        exact q _ _ (Int.emod_nonneg _ (by omega)) (Int.emod_lt_of_pos _ m0) ⟨a, b, c', hg', b0, b1, by omega, by omega⟩ bt
end
end K1

namespace K1
open PySem PySem.Spec PyProof.Rows L2 GL
theorem cut_ints (ns : List Int) (lo hi : Option Int) : ∃ l : List Int, cutV (ns.map V.int) lo hi = l.map V.int ∧ l.length ≤ ns.length := by
  refine ⟨(ns.drop (HT.sIx (ns.map V.int).length 0 lo)).take (HT.sIx (ns.map V.int).length (ns.map V.int).length hi - HT.sIx (ns.map V.int).length 0 lo), ?_, ?_⟩
  · unfold cutV
    rw [← List.map_drop, ← List.map_take]
  · rw [List.length_take, List.length_drop]
    omega
section
variable {P : Program} {w : World} {K : PySem.W.Frag} {mg : Str → Option Value} {base : Heap}
theorem scCell : FnScope ["_law_script", "_law_index"] ["_law_script", "_law_index"] (defScope sCell) := ⟨rfl, rfl, rfl, by decide +kernel, rfl, by decide +kernel, by decide +kernel⟩
def spCell (K : PySem.W.Frag) : Sp := fun vs H Q _ => ∃ (a : Addr) (ns : List Int) (i : Nat), vs = [.ref a, .int i] ∧ SqL K H a (ns.map V.int) ∧ ∀ (r : Int) (H' : Hp), Same H H' → Q (.int r) H'
theorem ok_cell {f : Addr} {fd : FuncData} (F : Fun K "_law_cell" "_law_cell" sCell f fd) (T : Bi mg) : FnOk P w K mg base CX0 1 f fd ["_law_script", "_law_index"] (spCell K) := by
  refine F.ok scCell (fun vs H Q E h => ?_) (fun cdv A outer s H vs Q E hr h => ?_)
  · obtain ⟨a, ns, i, rfl, _⟩ := h
    rfl
  · obtain ⟨a, ns, i, rfl, hS, q⟩ := h
    refine ⟨_, pss_cons (ps_if (pt_cmpR op_lt (pv 1) (pe_callB call_len_seq (by rfl) T.len PySem.boot_len (pa_cons (pv 0) pa_nil)) (nomark _)) (pss_one (ps_ret (pe_ix ix_list (pv 0) (pv 1) (fun _ _ => rfl)))) pss_nil)
      (pss_one (ps_ret (pe_op op_mod (pe_callB (cr_sum rfl) (by rfl) T.sum (by decide +kernel) (pa_cons (pe_slice sl_list (pv 0) po_none (po_some pe_int)) pa_nil)) pe_int))), ?_⟩
    refine ⟨_, rfl, _, rfl, a, _, rfl, .inl hS, _, _, rfl, rfl, _, rfl, ite2 (fun c => ?_) (fun c => ?_)⟩
    · have hl := of_decide_eq_true c
      rw [List.length_map] at hl
      have hi : i < ns.length := by omega
      exact ⟨_, rfl, _, rfl, a, _, _, _, rfl, rfl, hS, at_of (j := i) rfl (by rw [List.getElem?_map, List.getElem?_eq_getElem hi]; rfl), q _ _ (Same.refl _)⟩
    · refine ⟨_, rfl, 1, rfl, a, _, rfl, hS, fun c nc => ?_⟩
      obtain ⟨l, el, _⟩ := cut_ints ns none (some 1)
      refine ⟨c, l, rfl, by rw [← el]; exact SqL.of upd_same, _, _, rfl, rfl, (by show (0 : Int) < 1000003; decide), q _ _ (same_new nc)⟩
theorem scGen : FnScope ["_law_script", "_law_index", "_law_seed"] ["_law_script", "_law_index"] (defScope sGen) := ⟨rfl, rfl, rfl, by decide +kernel, rfl, by decide +kernel, by decide +kernel⟩
def spGen (K : PySem.W.Frag) : Sp := fun vs H Q _ => ∃ (a : Addr) (ns : List Int) (i : Nat), vs = [.ref a, .int i] ∧ i ≤ 100 ∧ SqL K H a (ns.map V.int) ∧ ∀ (g : Addr) (H' : Hp), Same H H' → H g = none → Gen H' g 1000000 → Q (.ref g) H'
theorem pow60 : CPowW ((10 : Int) ^ (60 : Int).toNat) 10 := ⟨by decide, by decide +kernel⟩
theorem pow600 : (0 : Int) < ((10 : Int) ^ (60 : Int).toNat) ^ (10 : Int).toNat := Int.pow_pos (Int.pow_pos (by decide))
theorem ok_gen {f : Addr} {fd : FuncData} (F : Fun K "_law_generator" "_law_generator" sGen f fd) (T : Bi mg) (U : Use P w K mg base "_law_cell" ["_law_script", "_law_index"] (spCell K) 1) : FnOk P w K mg base CX0 2 f fd ["_law_script", "_law_index"] (spGen K) := by
  refine F.ok scGen (fun vs H Q E h => ?_) (fun cdv A outer s H vs Q E hr h => ?_)
  · obtain ⟨a, ns, i, rfl, _⟩ := h
    rfl
  · obtain ⟨a, ns, i, rfl, hi, hS, q⟩ := h
    refine ⟨_, pss_cons (ps_set (i := 2) scGen.nd rfl (Or.inl rfl) (pe_use U hr (by rfl) (pa_cons (pv 0) (pa_cons (pv 1) pa_nil))))
      (pss_one (ps_ret (pe_lst (pa_cons (pe_op op_mod (pe_callTy call_int1 (by rfl) T.int PyProof.Rows.boot_int (pa_cons (pe_callB (call_max2 rfl) (by rfl) T.max (by decide +kernel) (pa_cons (pe_op op_sub (pv 2) (pe_op op_pow pe_int pe_int)) (pa_cons pe_int pa_nil))) pa_nil)) (pe_op op_powW (pe_op op_pow pe_int pe_int) pe_int))
        (pa_cons (pe_op op_mod (pe_callTy call_int1 (by rfl) T.int PyProof.Rows.boot_int (pa_cons (pv 2) pa_nil)) pe_int) (pa_cons (pe_op op_mul pe_int (pv 1)) pa_nil)))))), ?_⟩
    refine ⟨_, rfl, _, rfl, a, ns, i, rfl, hS, fun r H1 s1 => ?_⟩
    refine ⟨_, rfl, _, _, rfl, rfl, ⟨by decide, by decide, by decide⟩, _, _, rfl, rfl, _, _, rfl, .inl ⟨_, rfl, _, _, rfl, rfl, ⟨by decide, by decide, by decide⟩, _, _, rfl, rfl, pow60, _, _, rfl, rfl, pow600, ?_⟩⟩
    refine ⟨_, rfl, .inl ⟨_, rfl, _, _, rfl, rfl, (by show (0 : Int) < 2147483647; decide), _, rfl, _, _, rfl, rfl, .inl ⟨by decide, by decide⟩, (by show 3 ≤ sizeLine; decide), fun g hg => ?_⟩⟩
    exact q g _ (s1.trans (same_new hg)) (s1.free hg) ⟨_, _, _, upd_same, Int.emod_nonneg _ (by decide), Int.emod_lt_of_pos _ (by decide), by omega, by omega⟩
end
end K1

namespace K1
open PySem PySem.Spec PyProof.Rows L2 GL
abbrev sWhole : Stmt := topS 7
abbrev sBelow : Stmt := topS 8
abbrev sKinds : Stmt := topS 9
abbrev sRow : Stmt := topS 10
abbrev sCompOf : Stmt := topS 11
abbrev sCheck : Stmt := topS 12
abbrev sIs : Stmt := topS 14
/-! ### what a company is -/
def whole (d : PyData) : Bool := isInt d && !isBool d
def below (k : Int) : PyData → Bool
  | .int i => decide (0 ≤ i) && decide (i < k)
  | _ => false
def rowOk (k n : Int) : PyData → Bool
  | .list ds => decide ((ds.length : Int) = n) && ds.all (below k)
  | _ => false
def rowsOk (k : Int) : Nat → List PyData → Bool
  | _, [] => true
  | n, d :: ds => rowOk k n d && rowsOk k (n + 1) ds
def compOk (k : Int) : PyData → Bool
  | .list ds => (decide (1 ≤ ds.length) && decide (ds.length ≤ 40)) && rowsOk k 0 ds
  | _ => false
section
variable {P : Program} {w : World} {K : PySem.W.Frag} {mg : Str → Option Value} {base : Heap}
theorem scWhole : FnScope ["value"] ["value"] (defScope sWhole) := ⟨rfl, rfl, rfl, by decide +kernel, rfl, by decide +kernel, by decide +kernel⟩
def spWhole (K : PySem.W.Frag) : Sp := fun vs H Q _ => ∃ x d, vs = [x] ∧ Dt K H x d ∧ Q (.bl (whole d)) H
theorem ok_whole {f : Addr} {fd : FuncData} (F : Fun K "is_whole" "is_whole" sWhole f fd) (T : Bi mg) : FnOk P w K mg base CX0 1 f fd ["value"] (spWhole K) := by
  refine F.ok scWhole (fun vs H Q E h => ?_) (fun cdv A outer s H vs Q E hr h => ?_)
  · obtain ⟨x, d, rfl, _⟩ := h
    rfl
  · obtain ⟨x, d, rfl, hd, q⟩ := h
    refine ⟨_, pss_one (ps_ret (pe_and (pe_callB call_isi (by rfl) T.isinstance (by decide +kernel) (pa_cons (pv 0) (pa_cons (pe_bltn (v := .ty "int") (by rfl) T.int PyProof.Rows.boot_int rfl) pa_nil)))
      (pe_one (pe_not (pe_callB call_isi (by rfl) T.isinstance (by decide +kernel) (pa_cons (pv 0) (pa_cons (pe_bltn (v := .ty "bool") (by rfl) T.bool (by decide +kernel) rfl) pa_nil))))))), ?_⟩
    refine ⟨_, rfl, _, _, _, _, _, rfl, .ty "int", hd.ty, kit_int d, _, rfl, ?_⟩
    cases e : isInt d with
    | false =>
      refine iteF ?_
      have z : whole d = false := by unfold whole; rw [e]; rfl
      rw [← z]
      exact q
    | true =>
      refine iteT ⟨_, rfl, _, _, _, _, _, rfl, .ty "bool", hd.ty, kit_bool d, _, rfl, ?_⟩
      have z : whole d = !isBool d := by unfold whole; rw [e]; rfl
      rw [← z]
      exact q
theorem scBelow : FnScope ["value", "bound"] ["value", "bound"] (defScope sBelow) := ⟨rfl, rfl, rfl, by decide +kernel, rfl, by decide +kernel, by decide +kernel⟩
def spBelow (K : PySem.W.Frag) : Sp := fun vs H Q _ => ∃ x d k, vs = [x, .int k] ∧ Dt K H x d ∧ Q (.bl (below k d)) H
theorem whole_cases (d : PyData) : (∃ i, d = .int i ∧ whole d = true) ∨ (whole d = false ∧ ∀ k, below k d = false) := by
  cases d with
  | int i => exact .inl ⟨i, rfl, rfl⟩
  | _ => exact .inr ⟨rfl, fun _ => rfl⟩
theorem ok_below {f : Addr} {fd : FuncData} (F : Fun K "is_below" "is_below" sBelow f fd) (U : Use P w K mg base "is_whole" ["value"] (spWhole K) 1) : FnOk P w K mg base CX0 2 f fd ["value", "bound"] (spBelow K) := by
  refine F.ok scBelow (fun vs H Q E h => ?_) (fun cdv A outer s H vs Q E hr h => ?_)
  · obtain ⟨x, d, k, rfl, _⟩ := h
    rfl
  · obtain ⟨x, d, k, rfl, hd, q⟩ := h
    refine ⟨_, pss_one (ps_ret (pe_and (pe_use U hr (by rfl) (pa_cons (pv 0) pa_nil)) (pe_one (pe_chain op_le op_lt pe_int (pv 0) (pv 1))))), ?_⟩
    refine ⟨_, rfl, _, d, rfl, hd, _, rfl, ?_⟩
    rcases whole_cases d with ⟨i, rfl, e⟩ | ⟨e, z⟩
    · rw [e]
      cases hd
      refine iteT ⟨_, rfl, _, _, rfl, rfl, _, rfl, ?_⟩
      cases c : decide ((0 : Int) ≤ i) with
      | true =>
        refine iteT ⟨_, rfl, _, _, rfl, rfl, ?_⟩
        have z : below k (.int i) = decide (i < k) := by
          show (decide (0 ≤ i) && decide (i < k)) = decide (i < k)
          rw [c, Bool.true_and]
        rw [z] at q
        exact q
      | false =>
        refine iteF ?_
        have z : below k (.int i) = false := by
          show (decide (0 ≤ i) && decide (i < k)) = false
          rw [c, Bool.false_and]
        rw [z] at q
        exact q
    · rw [e]
      refine iteF ?_
      rw [← z k]
      exact q
theorem scKinds : FnScope ["value"] ["value"] (defScope sKinds) := ⟨rfl, rfl, rfl, by decide +kernel, rfl, by decide +kernel, by decide +kernel⟩
def spKinds (K : PySem.W.Frag) : Sp := fun vs H Q _ => ∃ k : Int, vs = [.int k] ∧ 2 ≤ k ∧ k ≤ 9 ∧ Q (.bl true) H
/-- the bounds, as the text has written them -/
structure Cs (mg : Str → Option Value) : Prop where
  least : ∃ t, mg "LEAST_KINDS" = some (.int 2 t)
  most : ∃ t, mg "MOST_KINDS" = some (.int 9 t)
  people : ∃ t, mg "MOST_PEOPLE" = some (.int 40 t)
theorem ok_kinds {f : Addr} {fd : FuncData} (F : Fun K "are_kinds" "are_kinds" sKinds f fd) (C : Cs mg) (U : Use P w K mg base "is_whole" ["value"] (spWhole K) 1) : FnOk P w K mg base CX0 2 f fd ["value"] (spKinds K) := by
  refine F.ok scKinds (fun vs H Q E h => ?_) (fun cdv A outer s H vs Q E hr h => ?_)
  · obtain ⟨k, rfl, _⟩ := h
    rfl
  · obtain ⟨k, rfl, h2, h9, q⟩ := h
    obtain ⟨t1, c1⟩ := C.least
    obtain ⟨t2, c2⟩ := C.most
    refine ⟨_, pss_one (ps_ret (pe_and (pe_use U hr (by rfl) (pa_cons (pv 0) pa_nil)) (pe_one (pe_chain op_le op_le (pe_glob (v := .int 2) rfl c1 ⟨_, rfl⟩) (pv 0) (pe_glob (v := .int 9) rfl c2 ⟨_, rfl⟩))))), ?_⟩
    refine ⟨_, rfl, _, .int k, rfl, .int k, _, rfl, iteT ⟨_, rfl, _, _, rfl, rfl, _, rfl, ?_⟩⟩
    rw [decide_eq_true h2]
    rw [← decide_eq_true h9] at q
    exact iteT ⟨_, _, rfl, rfl, q⟩
theorem scRow : FnScope ["kinds", "many", "value", "kind"] ["kinds", "many", "value"] (defScope sRow) := ⟨rfl, rfl, rfl, by decide +kernel, rfl, by decide +kernel, by decide +kernel⟩
def spRow (K : PySem.W.Frag) : Sp := fun vs H Q _ => ∃ x d k n, vs = [.int k, .int n, x] ∧ n ≤ 1000 ∧ Dt K H x d ∧ ∀ H', Same H H' → Q (.bl (rowOk k n d)) H'
theorem take_more {α β : Type} (f : α → β) {l : List α} {i : Nat} {x : α} (h : l[i]? = some x) : (l.take (i + 1)).map f = (l.take i).map f ++ [f x] := by
  rw [List.take_add_one, h, List.map_append]
  rfl
theorem ok_row {f : Addr} {fd : FuncData} (F : Fun K "is_row" "is_row" sRow f fd) (T : Bi mg) (U : Use P w K mg base "is_below" ["value", "bound"] (spBelow K) 2) : FnOk P w K mg base CX0 3 f fd ["kinds", "many", "value"] (spRow K) := by
  refine F.ok scRow (fun vs H Q E h => ?_) (fun cdv A outer s H vs Q E hr h => ?_)
  · obtain ⟨x, d, k, n, rfl, _⟩ := h
    rfl
  · obtain ⟨x, d, k, n, rfl, hn, hd, q⟩ := h
    refine ⟨_, pss_one (ps_ret (pe_and (pe_callB call_isi (by rfl) T.isinstance (by decide +kernel) (pa_cons (pv 2) (pa_cons (pe_bltn (v := .ty "list") (by rfl) T.list PyProof.Rows.boot_list rfl) pa_nil)))
      (pe_and (pe_cmpR op_eq (pe_callB call_len_seq (by rfl) T.len PySem.boot_len (pa_cons (pv 2) pa_nil)) (pv 1) (nomark _))
      (pe_one (pe_callB (cr_all rfl) (by rfl) T.all (by decide +kernel) (pa_cons (pe_lc (own := [("kind", 3)]) (g := gName 3) (tt := tYes) rfl scRow.nd (pi_list (pv 2)) (blkOk_by (N := ["kinds", "many", "value", "kind"]) (sc := defScope sRow) (by decide +kernel))
        (fun _ _ _ _ _ => pg_name (i := 3) scRow.nd rfl (Or.inl rfl)) (fun _ _ _ _ _ => pts_nil) (fun _ _ _ _ _ => pe_use U hr (by rfl) (pa_cons (pv 3) (pa_cons (pv 0) pa_nil)))) pa_nil)))))), ?_⟩
    refine ⟨_, rfl, _, _, _, _, _, rfl, .ty "list", hd.ty, kit_list d, _, rfl, ?_⟩
    by_cases e : ∃ ds, d = .list ds
    · obtain ⟨ds, rfl⟩ := e
      cases hd with
      | @lst a xs _ ha hs =>
        have hl := hs.length
        refine iteT ⟨_, rfl, a, xs, rfl, .inl (SqL.of ha), _, rfl, rfl, _, rfl, ?_⟩
        rw [hl]
        by_cases c : (ds.length : Int) = n
        · rw [decide_eq_true (congrArg V.int c)]
          refine iteT ⟨_, rfl, a, rfl, ⟨_, SqL.of ha⟩, fun D hD => ?_⟩
          refine lc_list (K := K) (a := a) (xs := xs) (fun i H' => Same H H' ∧ H' D = some (.lst (((ds.take i).map (below k)).map V.bl))) ⟨same_new hD, upd_same⟩ (fun i H' _ z => (z.1).seq (SqL.of ha)) ?_ ?_
          · rintro i y H' hi ⟨s1, hD'⟩
            obtain ⟨dy, e1, d1⟩ := hs.get hi
            refine ⟨rfl, yes_of ?_⟩
            refine ⟨_, rfl, _, rfl, y, dy, k, rfl, Dt.same s1 dy _ d1, _, hD', ?_, ?_, ?_⟩
            · rw [List.length_map, List.length_map, List.length_take]
              exact small1000 (by omega)
            · exact fun b o z => by rw [upd_ne (ne_of_none z hD)]; exact s1 b o z
            · rw [upd_same, take_more (below k) e1, List.map_append]
              rfl
          · rintro H' ⟨s1, hD'⟩
            rw [hl, List.take_length] at hD'
            refine ⟨D, ds.map (below k), rfl, SqL.of hD', ?_⟩
            have z : rowOk k n (.list ds) = (ds.map (below k)).all id := by
              show (decide ((ds.length : Int) = n) && ds.all (below k)) = _
              rw [decide_eq_true c, Bool.true_and, List.all_map]
              rfl
            rw [← z]
            exact q _ s1
        · rw [decide_eq_false (fun z => c (V.int.inj z))]
          refine iteF ?_
          have z : rowOk k n (.list ds) = false := by
            show (decide ((ds.length : Int) = n) && ds.all (below k)) = false
            rw [decide_eq_false c]
            rfl
          rw [← z]
          exact q _ (Same.refl _)
    · have z : isList d = false ∧ rowOk k n d = false := by
        cases d with
        | list ds => exact (e ⟨ds, rfl⟩).elim
        | _ => exact ⟨rfl, rfl⟩
      rw [z.1]
      refine iteF ?_
      rw [← z.2]
      exact q _ (Same.refl _)
end
end K1

namespace K1
open PySem PySem.Spec PyProof.Rows L2 GL
theorem rowsOk_all (k : Int) : ∀ (ds : List PyData) (n : Nat), rowsOk k n ds = (((List.range ds.length).map fun j => rowOk k ((n + j : Nat) : Int) (ds.getD j .none))).all id
  | [], _ => rfl
  | d :: ds, n => by
    have ih := rowsOk_all k ds (n + 1)
    show (rowOk k n d && rowsOk k (n + 1) ds) = _
    rw [ih, List.length_cons, List.range_succ_eq_map, List.map_cons, List.map_map, List.all_cons]
    have e : (List.range ds.length).map (fun j => rowOk k ((n + 1 + j : Nat) : Int) (ds.getD j .none)) = (List.range ds.length).map ((fun j => rowOk k ((n + j : Nat) : Int) ((d :: ds).getD j .none)) ∘ Nat.succ) := by
      refine List.map_congr_left fun j _ => ?_
      show rowOk k ((n + 1 + j : Nat) : Int) (ds.getD j .none) = rowOk k ((n + (j + 1) : Nat) : Int) (ds.getD j .none)
      rw [show n + 1 + j = n + (j + 1) by omega]
    rw [e]
    rfl
theorem all_range_more (f : Nat → Bool) (i : Nat) : (((List.range (i + 1)).map f).map V.bl) = ((List.range i).map f).map V.bl ++ [V.bl (f i)] := by
  rw [List.range_succ, List.map_append, List.map_append]
  rfl
section
variable {P : Program} {w : World} {K : PySem.W.Frag} {mg : Str → Option Value} {base : Heap}
theorem scCompOf : FnScope ["kinds", "value", "person", "row"] ["kinds", "value"] (defScope sCompOf) := ⟨rfl, rfl, rfl, by decide +kernel, rfl, by decide +kernel, by decide +kernel⟩
def spCompOf (K : PySem.W.Frag) : Sp := fun vs H Q _ => ∃ x d k, vs = [.int k, x] ∧ Dt K H x d ∧ ∀ H', Same H H' → Q (.bl (compOk k d)) H'
theorem ok_compOf {f : Addr} {fd : FuncData} (F : Fun K "is_company_of" "is_company_of" sCompOf f fd) (T : Bi mg) (C : Cs mg) (U : Use P w K mg base "is_row" ["kinds", "many", "value"] (spRow K) 3) : FnOk P w K mg base CX0 4 f fd ["kinds", "value"] (spCompOf K) := by
  refine F.ok scCompOf (fun vs H Q E h => ?_) (fun cdv A outer s H vs Q E hr h => ?_)
  · obtain ⟨x, d, k, rfl, _⟩ := h
    rfl
  · obtain ⟨x, d, k, rfl, hd, q⟩ := h
    obtain ⟨t3, c3⟩ := C.people
    refine ⟨_, pss_cons (ps_if (PW.pt (pw_or (pt_not (pt_val (pe_callB call_isi (by rfl) T.isinstance (by decide +kernel) (pa_cons (pv 1) (pa_cons (pe_bltn (v := .ty "list") (by rfl) T.list PyProof.Rows.boot_list rfl) pa_nil)))))
        (pw_or1 (pt_not (pt_chain op_le op_le pe_int (pe_callB call_len_seq (by rfl) T.len PySem.boot_len (pa_cons (pv 1) pa_nil)) (pe_glob (v := .int 40) rfl c3 ⟨_, rfl⟩)))))) (pss_one (ps_ret pe_bl)) pss_nil)
      (pss_one (ps_ret (pe_callB (cr_all rfl) (by rfl) T.all (by decide +kernel) (pa_cons (pe_lc (own := [("person", 2), ("row", 3)]) (g := gTup K 2 (gCons (gName 2) (gCons (gName 3) gNil))) (tt := tYes) rfl scCompOf.nd (pi_enum (by rfl) T.enumerate (pa_cons (pv 1) pa_nil))
        (blkOk_by (N := ["kinds", "value", "person", "row"]) (sc := defScope sCompOf) (by decide +kernel)) (fun _ _ _ _ _ => pg_tup rfl (pgs_cons (pg_name (i := 2) scCompOf.nd rfl (Or.inl rfl)) (pgs_cons (pg_name (i := 3) scCompOf.nd rfl (Or.inl rfl)) pgs_nil)))
        (fun _ _ _ _ _ => pts_nil) (fun _ _ _ _ _ => pe_use U hr (by rfl) (pa_cons (pv 0) (pa_cons (pv 2) (pa_cons (pv 3) pa_nil))))) pa_nil)))), ?_⟩
    refine ⟨_, rfl, _, _, _, _, _, rfl, .ty "list", hd.ty, kit_list d, _, rfl, ?_⟩
    by_cases e : ∃ ds, d = .list ds
    · obtain ⟨ds, rfl⟩ := e
      cases hd with
      | @lst a xs _ ha hs =>
        have hl := hs.length
        refine iteF ⟨_, rfl, a, xs, rfl, .inl (SqL.of ha), _, _, rfl, rfl, _, rfl, ?_⟩
        rw [hl]
        by_cases c1 : (1 : Int) ≤ (ds.length : Int)
        · rw [decide_eq_true c1]
          refine iteT ⟨_, _, rfl, rfl, _, rfl, ?_⟩
          by_cases c2 : (ds.length : Int) ≤ 40
          · rw [decide_eq_true c2]
            refine iteF ⟨_, rfl, a, xs, rfl, SqL.of ha, fun D hD => ?_⟩
            refine lc_it (walk_enum (K := K) (a := a) (xs := xs)) (fun i H' => Same H H' ∧ H' D = some (.lst (((List.range i).map fun j => rowOk k ((0 + j : Nat) : Int) (ds.getD j .none)).map V.bl))) ⟨same_new hD, upd_same⟩ (fun i H' _ z => (z.1).seq (SqL.of ha)) ?_ ?_
            · rintro i y H' H'' hi ⟨s1, hD'⟩ ⟨T, x1, x2, rfl, nT, rfl, e1, e2⟩
              have e1' : x1 = .int (i : Nat) := (Option.some.inj e1).symm
              subst e1'
              obtain ⟨dy, f1, f2⟩ := hs.get e2
              have s2 := s1.trans (same_new (o := .tup [.int (i : Nat), x2]) nT)
              have ne : D ≠ T := ne_of_none hD' nT
              refine ⟨T, [.int (i : Nat), x2], rfl, SqT.of upd_same, rfl, _, _, rfl, _, _, rfl, rfl, rfl, yes_of ?_⟩
              refine ⟨_, rfl, _, rfl, _, rfl, x2, dy, k, i, rfl, by omega, Dt.same s2 dy _ f2, fun H3 s3 => ⟨_, s3 D _ (by rw [upd_ne ne]; exact hD'), ?_, ?_, ?_⟩⟩
              · rw [List.length_map, List.length_map, List.length_range]
                exact small1000 (by omega)
              · exact fun b o z => by rw [upd_ne (ne_of_none z hD)]; exact s3 b o (s2 b o z)
              · rw [upd_same, all_range_more]
                have ez : (0 + i : Nat) = i := Nat.zero_add i
                have eg : ds.getD i .none = dy := by rw [List.getD_eq_getElem?_getD, f1]; rfl
                rw [ez, eg]
            · rintro H' ⟨s1, hD'⟩
              refine ⟨D, _, rfl, SqL.of hD', ?_⟩
              rw [hl, ← rowsOk_all]
              have z : compOk k (.list ds) = rowsOk k 0 ds := by
                show ((decide (1 ≤ ds.length) && decide (ds.length ≤ 40)) && rowsOk k 0 ds) = _
                rw [decide_eq_true (by omega : 1 ≤ ds.length), decide_eq_true (by omega : ds.length ≤ 40)]
                rfl
              rw [← z]
              exact q _ s1
          · rw [decide_eq_false c2]
            refine iteT ?_
            have z : compOk k (.list ds) = false := by
              show ((decide (1 ≤ ds.length) && decide (ds.length ≤ 40)) && rowsOk k 0 ds) = _
              rw [decide_eq_false (by omega : ¬ ds.length ≤ 40), Bool.and_false, Bool.false_and]
            have q' := q _ (Same.refl _)
            rw [z] at q'
            exact q'
        · rw [decide_eq_false c1]
          refine iteF ⟨_, rfl, iteT ?_⟩
          have z : compOk k (.list ds) = false := by
            show ((decide (1 ≤ ds.length) && decide (ds.length ≤ 40)) && rowsOk k 0 ds) = _
            rw [decide_eq_false (by omega : ¬ 1 ≤ ds.length), Bool.false_and, Bool.false_and]
          have q' := q _ (Same.refl _)
          rw [z] at q'
          exact q'
    · have z : isList d = false ∧ compOk k d = false := by
        cases d with
        | list ds => exact (e ⟨ds, rfl⟩).elim
        | _ => exact ⟨rfl, rfl⟩
      rw [z.1]
      refine iteT ?_
      have q' := q _ (Same.refl _)
      rw [z.2] at q'
      exact q'
end
end K1

namespace K1
open PySem PySem.Spec PyProof.Rows L2 GL
abbrev sYes : Stmt := topS 20
abbrev sWhole2 : Stmt := topS 21
abbrev sTie : Stmt := topS 22
section
variable {P : Program} {w : World} {K : PySem.W.Frag} {mg : Str → Option Value} {base : Heap}
theorem scCheck : FnScope ["kinds"] ["kinds"] (defScope sCheck) := ⟨rfl, rfl, rfl, by decide +kernel, rfl, by decide +kernel, by decide +kernel⟩
def spCheck : Sp := fun vs H Q _ => ∃ k : Int, vs = [.int k] ∧ 2 ≤ k ∧ k ≤ 9 ∧ Q .non H
theorem ok_check {f : Addr} {fd : FuncData} (F : Fun K "check_kinds" "check_kinds" sCheck f fd) (U : Use P w K mg base "are_kinds" ["value"] (spKinds K) 2) : FnOk P w K mg base CX0 3 f fd ["kinds"] spCheck := by
  refine F.ok scCheck (fun vs H Q E h => ?_) (fun cdv A outer s H vs Q E hr h => ?_)
  · obtain ⟨k, rfl, _⟩ := h
    rfl
  · obtain ⟨k, rfl, h2, h9, q⟩ := h
    refine ⟨_, pss_one (ps_if (pt_not (pt_val (pe_use U hr (by rfl) (pa_cons (pv 0) pa_nil)))) (pss_one ps_never) pss_nil), ?_⟩
    exact ⟨_, rfl, k, rfl, h2, h9, _, rfl, iteF q⟩
theorem scIs : FnScope ["kinds", "value"] ["kinds", "value"] (defScope sIs) := ⟨rfl, rfl, rfl, by decide +kernel, rfl, by decide +kernel, by decide +kernel⟩
def spIs (K : PySem.W.Frag) : Sp := fun vs H Q _ => ∃ x d k, vs = [.int k, x] ∧ 2 ≤ k ∧ k ≤ 9 ∧ Dt K H x d ∧ ∀ H', Same H H' → Q (.bl (compOk k d)) H'
theorem ok_is {f : Addr} {fd : FuncData} (F : Fun K "is_company" "is_company" sIs f fd) (U : Use P w K mg base "check_kinds" ["kinds"] spCheck 3) (V : Use P w K mg base "is_company_of" ["kinds", "value"] (spCompOf K) 4) : FnOk P w K mg base CX0 5 f fd ["kinds", "value"] (spIs K) := by
  refine F.ok scIs (fun vs H Q E h => ?_) (fun cdv A outer s H vs Q E hr h => ?_)
  · obtain ⟨x, d, k, rfl, _⟩ := h
    rfl
  · obtain ⟨x, d, k, rfl, h2, h9, hd, q⟩ := h
    refine ⟨_, pss_cons (ps_expr (pe_use U (hr.mono (by decide)) (by rfl) (pa_cons (pv 0) pa_nil))) (pss_one (ps_ret (pe_use V hr (by rfl) (pa_cons (pv 0) (pa_cons (pv 1) pa_nil))))), ?_⟩
    exact ⟨_, rfl, k, rfl, h2, h9, _, rfl, _, rfl, x, d, k, rfl, hd, q⟩
theorem scYes : FnScope ["_law_told", "_law_due"] ["_law_told", "_law_due"] (defScope sYes) := ⟨rfl, rfl, rfl, by decide +kernel, rfl, by decide +kernel, by decide +kernel⟩
def spYes : Sp := fun vs H Q _ => ∃ b : Bool, vs = [.bl b, .bl b] ∧ Q (.bl true) H
theorem ok_yes {f : Addr} {fd : FuncData} (F : Fun K "_law_yes" "_law_yes" sYes f fd) (T : Bi mg) : FnOk P w K mg base CX0 1 f fd ["_law_told", "_law_due"] spYes := by
  refine F.ok scYes (fun vs H Q E h => ?_) (fun cdv A outer s H vs Q E hr h => ?_)
  · obtain ⟨b, rfl, _⟩ := h
    rfl
  · obtain ⟨b, rfl, q⟩ := h
    refine ⟨_, pss_one (ps_ret (pe_and (pe_callB call_isi (by rfl) T.isinstance (by decide +kernel) (pa_cons (pv 0) (pa_cons (pe_bltn (v := .ty "bool") (by rfl) T.bool (by decide +kernel) rfl) pa_nil))) (pe_one (pe_cmpR op_eq (pv 0) (pv 1) (nomark _))))), ?_⟩
    refine ⟨_, rfl, _, _, _, _, _, rfl, .ty "bool", (Dt.bl (K := K) b).ty, kit_bool (.bool b), _, rfl, iteT ⟨_, rfl, _, rfl, rfl, ?_⟩⟩
    show Q (V.bl (decide (V.bl b = V.bl b))) H
    rw [decide_eq_true rfl]
    exact q
theorem scWhole2 : FnScope ["_law_value"] ["_law_value"] (defScope sWhole2) := ⟨rfl, rfl, rfl, by decide +kernel, rfl, by decide +kernel, by decide +kernel⟩
theorem ok_whole2 {f : Addr} {fd : FuncData} (F : Fun K "_law_is_whole" "_law_is_whole" sWhole2 f fd) (T : Bi mg) : FnOk P w K mg base CX0 1 f fd ["_law_value"] (spWhole K) := by
  refine F.ok scWhole2 (fun vs H Q E h => ?_) (fun cdv A outer s H vs Q E hr h => ?_)
  · obtain ⟨x, d, rfl, _⟩ := h
    rfl
  · obtain ⟨x, d, rfl, hd, q⟩ := h
    refine ⟨_, pss_one (ps_ret (pe_and (pe_callB call_isi (by rfl) T.isinstance (by decide +kernel) (pa_cons (pv 0) (pa_cons (pe_bltn (v := .ty "int") (by rfl) T.int PyProof.Rows.boot_int rfl) pa_nil)))
      (pe_one (pe_not (pe_callB call_isi (by rfl) T.isinstance (by decide +kernel) (pa_cons (pv 0) (pa_cons (pe_bltn (v := .ty "bool") (by rfl) T.bool (by decide +kernel) rfl) pa_nil))))))), ?_⟩
    refine ⟨_, rfl, _, _, _, _, _, rfl, .ty "int", hd.ty, kit_int d, _, rfl, ?_⟩
    have z : whole d = (isInt d && !isBool d) := rfl
    cases e : isInt d with
    | false =>
      rw [e] at z
      rw [z] at q
      exact iteF q
    | true =>
      rw [e] at z
      rw [z] at q
      exact iteT ⟨_, rfl, _, _, _, _, _, rfl, .ty "bool", hd.ty, kit_bool d, _, rfl, q⟩
/-! ### tables of numbers -/
/-- at c a list of the lists at rs, which hold the numbers kss -/
structure Tab (H : Hp) (c : Addr) (rs : List Addr) (kss : List (List Int)) : Prop where
  top : H c = some (.lst (rs.map V.ref))
  len : rs.length = kss.length
  row : ∀ (i : Nat) (r : Addr) (ks : List Int), rs[i]? = some r → kss[i]? = some ks → H r = some (.lst (ks.map V.int))
  nd : rs.Nodup
/-- the numbers of a company -/
def Fine (kss : List (List Int)) : Prop := ∀ (i : Nat) (ks : List Int), kss[i]? = some ks → ks.length = i ∧ ∀ z ∈ ks, 0 ≤ z ∧ z < 10
def Co (H : Hp) (c : Addr) (n : Nat) : Prop := ∃ rs kss, Tab H c rs kss ∧ kss.length = n ∧ Fine kss
theorem Tab.same {H H' : Hp} {c : Addr} {rs : List Addr} {kss : List (List Int)} (t : Tab H c rs kss) (s : Same H H') : Tab H' c rs kss := ⟨s _ _ t.top, t.len, fun i r ks a b => s _ _ (t.row i r ks a b), t.nd⟩
theorem Co.same {H H' : Hp} {c : Addr} {n : Nat} (t : Co H c n) (s : Same H H') : Co H' c n := by
  obtain ⟨rs, kss, a, b, d⟩ := t
  exact ⟨rs, kss, a.same s, b, d⟩
theorem Tab.at {H : Hp} {c : Addr} {rs : List Addr} {kss : List (List Int)} (t : Tab H c rs kss) {i : Nat} (hi : i < kss.length) : ∃ r ks, rs[i]? = some r ∧ kss[i]? = some ks ∧ H r = some (.lst (ks.map V.int)) := by
  have h2 : i < rs.length := by rw [t.len]; exact hi
  exact ⟨rs[i], kss[i], List.getElem?_eq_getElem h2, List.getElem?_eq_getElem hi, t.row i _ _ (List.getElem?_eq_getElem h2) (List.getElem?_eq_getElem hi)⟩
theorem scTie : FnScope ["_law_company_here", "_law_one", "_law_other"] ["_law_company_here", "_law_one", "_law_other"] (defScope sTie) := ⟨rfl, rfl, rfl, by decide +kernel, rfl, by decide +kernel, by decide +kernel⟩
def spTie : Sp := fun vs H Q _ => ∃ (c : Addr) (n one other : Nat), vs = [.ref c, .int one, .int other] ∧ Co H c n ∧ one < n ∧ other < n ∧ one ≠ other ∧ ∀ z : Int, 0 ≤ z → z < 10 → Q (.int z) H
theorem ok_tie {f : Addr} {fd : FuncData} (F : Fun K "_law_tie" "_law_tie" sTie f fd) (T : Bi mg) : FnOk P w K mg base CX0 1 f fd ["_law_company_here", "_law_one", "_law_other"] spTie := by
  refine F.ok scTie (fun vs H Q E h => ?_) (fun cdv A outer s H vs Q E hr h => ?_)
  · obtain ⟨c, n, i, j, rfl, _⟩ := h
    rfl
  · obtain ⟨c, n, i, j, rfl, ⟨rs, kss, t, hn, fine⟩, hi, hj, ne, q⟩ := h
    refine ⟨_, pss_one (ps_ret (pe_ix ix_list (pe_ix ix_list (pv 0) (pe_callB (call_max2 rfl) (by rfl) T.max (by decide +kernel) (pa_cons (pv 1) (pa_cons (pv 2) pa_nil))) (fun _ _ => rfl)) (pe_callB (call_min2 rfl) (by rfl) T.min (by decide +kernel) (pa_cons (pv 1) (pa_cons (pv 2) pa_nil))) (fun _ _ => rfl))), ?_⟩
    obtain ⟨hi', lo', e1, e2, hlt, hh⟩ : ∃ hi' lo' : Nat, (if (j : Int) > (i : Int) then (j : Int) else (i : Int)) = (hi' : Int) ∧ (if (j : Int) < (i : Int) then (j : Int) else (i : Int)) = (lo' : Int) ∧ lo' < hi' ∧ hi' < n := by
      by_cases c : i < j
      · exact ⟨j, i, if_pos (by omega), if_neg (by omega), c, hj⟩
      · exact ⟨i, j, if_neg (by omega), if_pos (by omega), by omega, hi⟩
    obtain ⟨r, ks, a1, a2, a3⟩ := t.at (i := hi') (by omega)
    obtain ⟨b1, b2⟩ := fine _ _ a2
    have hlo : lo' < ks.length := by omega
    have zz := b2 ks[lo'] (List.getElem_mem hlo)
    refine ⟨_, rfl, _, rfl, _, rfl, _, _, rfl, c, _, _, _, rfl, rfl, SqL.of t.top, at_of (j := hi') (v := V.ref r) e1 (by rw [List.getElem?_map, a1]; rfl), _, rfl, _, rfl, _, _, rfl, r, _, _, _, rfl, rfl, SqL.of a3, at_of (j := lo') (v := V.int ks[lo']) e2 (by rw [List.getElem?_map, List.getElem?_eq_getElem hlo]; rfl), ?_⟩
    exact q _ zz.1 zz.2
end
end K1

namespace K1
open PySem PySem.Spec PyProof.Rows L2 GL
abbrev sNamed : Stmt := topS 23
abbrev sOrder : Stmt := topS 24
def exprOf : Stmt → Expr
  | .Return (some e) _ => e
  | .Assign _ e _ => e
  | _ => .Name "" ⟨0, 0, 0, 0⟩
def stmtIn (l : List Stmt) (i : Nat) : Stmt := l.getD i (.Pass ⟨0, 0, 0, 0⟩)
def compScope : Expr → Scope
  | .ListComp _ _ sc _ => sc
  | _ => { kind := .function, names := [], isGenerator := false, isCoroutine := false }
theorem cut_to {xs : List V} {i : Nat} (h : i ≤ xs.length) : cutV xs none (some (i : Int)) = xs.take i := by
  unfold cutV
  rw [HT.sIx_none, HT.sIx_nat, Nat.min_eq_left h]
  rfl
theorem Tab.push {H H4 : Hp} {c p : Addr} {rs : List Addr} {kss : List (List Int)} {ks : List Int} (t : Tab H c rs kss) (nc : c ∉ rs) (s : ∀ r ∈ rs, ∀ o, H r = some o → H4 r = some o) (hp : H p = none) (h4 : H4 p = some (.lst (ks.map V.int))) :
    Tab (upd H4 c (.lst (rs.map V.ref ++ [V.ref p]))) c (rs ++ [p]) (kss ++ [ks]) ∧ c ∉ rs ++ [p] := by
  have pc : c ≠ p := ne_of_none t.top hp
  have held : ∀ r ∈ rs, ∃ o, H r = some o := fun r hr => by
    obtain ⟨i, hi⟩ := List.getElem?_of_mem hr
    have h2 : i < kss.length := by rw [← t.len]; exact (List.getElem?_eq_some_iff.mp hi).1
    exact ⟨_, t.row i r _ hi (List.getElem?_eq_getElem h2)⟩
  have np : p ∉ rs := fun hr => by
    obtain ⟨o, e⟩ := held p hr
    rw [hp] at e
    cases e
  refine ⟨⟨?_, ?_, ?_, ?_⟩, ?_⟩
  · rw [upd_same, List.map_append]
    rfl
  · rw [List.length_append, List.length_append, t.len]
    rfl
  · intro i r ks' h1 h2
    by_cases hi : i < rs.length
    · rw [List.getElem?_append_left hi] at h1
      rw [List.getElem?_append_left (by rw [← t.len]; exact hi)] at h2
      have e := t.row i r ks' h1 h2
      have rc : r ≠ c := fun z => nc (by rw [← z]; exact List.mem_of_getElem? h1)
      rw [upd_ne rc]
      exact s r (List.mem_of_getElem? h1) _ e
    · rw [List.getElem?_append_right (by omega)] at h1
      rw [List.getElem?_append_right (by rw [← t.len]; omega)] at h2
      have i0 : i - rs.length = 0 := by
        have := (List.getElem?_eq_some_iff.mp h1).1
        simp at this
        omega
      rw [i0] at h1
      rw [← t.len, i0] at h2
      cases h1
      cases h2
      rw [upd_ne pc.symm]
      exact h4
  · rw [List.nodup_append]
    refine ⟨t.nd, by simp, fun a ha b hb => ?_⟩
    rw [List.mem_singleton] at hb
    subst hb
    exact fun z => np (by rw [← z]; exact ha)
  · rw [List.mem_append, List.mem_singleton]
    rintro (z | z)
    · exact nc z
    · exact pc z
theorem Fine.nil : Fine [] := fun i ks h => by simp at h
theorem Fine.push {kss : List (List Int)} {ks : List Int} (f : Fine kss) (l : ks.length = kss.length) (b : ∀ z ∈ ks, 0 ≤ z ∧ z < 10) : Fine (kss ++ [ks]) := by
  intro i ks' h
  by_cases hi : i < kss.length
  · rw [List.getElem?_append_left hi] at h
    exact f i ks' h
  · rw [List.getElem?_append_right (by omega)] at h
    have i0 : i - kss.length = 0 := by
      have := (List.getElem?_eq_some_iff.mp h).1
      simp at this
      omega
    rw [i0] at h
    cases h
    exact ⟨by omega, b⟩
section
variable {P : Program} {w : World} {K : PySem.W.Frag} {mg : Str → Option Value} {base : Heap}
/-- a company all of whose lists are new since H0 -/
def CoN (H0 H : Hp) (c : Addr) (n : Nat) : Prop := ∃ rs kss, Tab H c rs kss ∧ kss.length = n ∧ Fine kss ∧ c ∉ rs ∧ H0 c = none ∧ ∀ r ∈ rs, H0 r = none
theorem CoN.co {H0 H : Hp} {c : Addr} {n : Nat} (h : CoN H0 H c n) : Co H c n := by
  obtain ⟨rs, kss, a, b, d, _⟩ := h
  exact ⟨rs, kss, a, b, d⟩
theorem Tab.but {H H' : Hp} {c g : Addr} {rs : List Addr} {kss : List (List Int)} (t : Tab H c rs kss) (b : But g H H') (h1 : c ≠ g) (h2 : g ∉ rs) : Tab H' c rs kss :=
  ⟨b _ _ t.top h1, t.len, fun i r ks x y => b _ _ (t.row i r ks x y) fun z => h2 (by rw [← z]; exact List.mem_of_getElem? x), t.nd⟩
theorem CoN.but {H0 H H' : Hp} {c g : Addr} {n : Nat} {o : HO} (h : CoN H0 H c n) (hg : H0 g = some o) (b : But g H H') : CoN H0 H' c n := by
  obtain ⟨rs, kss, t, l, f, nc, n1, n2⟩ := h
  have h1 : c ≠ g := (ne_of_none hg n1).symm
  have h2 : g ∉ rs := fun z => by
    have := n2 g z
    rw [hg] at this
    cases this
  exact ⟨rs, kss, t.but b h1 h2, l, f, nc, n1, n2⟩
theorem scNamed : FnScope ["_law_company_here", "_law_order_here", "_law_place", "_law_person", "_law_mate"] ["_law_company_here", "_law_order_here"] (defScope sNamed) := ⟨rfl, rfl, rfl, by decide +kernel, rfl, by decide +kernel, by decide +kernel⟩
def natV (os : List Nat) : List V := os.map fun (j : Nat) => V.int (j : Int)
def spNamed : Sp := fun vs H Q _ => ∃ (c o : Addr) (n : Nat) (os : List Nat), vs = [.ref c, .ref o] ∧ Co H c n ∧ H o = some (.lst (natV os)) ∧ os.Nodup ∧ (∀ j ∈ os, j < n) ∧ os.length ≤ 100 ∧ ∀ (p : Addr) (H' : Hp), Same H H' → CoN H H' p os.length → Q (.ref p) H'
theorem ok_named {f : Addr} {fd : FuncData} (F : Fun K "_law_named" "_law_named" sNamed f fd) (T : Bi mg) (U : Use P w K mg base "_law_tie" ["_law_company_here", "_law_one", "_law_other"] spTie 1) : FnOk P w K mg base CX0 2 f fd ["_law_company_here", "_law_order_here"] spNamed := by
  refine F.ok scNamed (fun vs H Q E h => ?_) (fun cdv A outer s H vs Q E hr h => ?_)
  · obtain ⟨c, o, n, os, rfl, _⟩ := h
    rfl
  · obtain ⟨c, o, n, os, rfl, hc, ho, nd, bd, len, q⟩ := h
    refine ⟨_, pss_one (ps_ret (pe_lc (own := [("_law_place", 2), ("_law_person", 3)]) (g := gTup K 2 (gCons (gName 2) (gCons (gName 3) gNil))) (tt := tYes) (te := tLc (iList K (tSl (rSlL K) (tVar 1) tNoPart (tPart (tVar 2)))) (gName 4) tYes (tCall spTie [] E0 (tCons (tVar 0) (tCons (tVar 3) (tCons (tVar 4) tNil)))) [4]) rfl scNamed.nd (pi_enum (by rfl) T.enumerate (pa_cons (pv 1) pa_nil))
        (blkOk_by (N := ["_law_company_here", "_law_order_here", "_law_place", "_law_person", "_law_mate"]) (sc := defScope sNamed) (by decide +kernel)) (fun _ _ _ _ _ => pg_tup rfl (pgs_cons (pg_name (i := 2) scNamed.nd rfl (Or.inl rfl)) (pgs_cons (pg_name (i := 3) scNamed.nd rfl (Or.inr rfl)) pgs_nil)))
        (fun _ _ _ _ _ => pts_nil)
        (fun _ _ _ _ _ => by exact (pe_lc (own := [("_law_mate", 4)]) (g := gName 4) (tt := tYes) rfl scNamed.nd (pi_list (pe_slice sl_list (pv 1) po_none (po_some (pv 2))))
          (blkOk_by (N := ["_law_company_here", "_law_order_here", "_law_place", "_law_person", "_law_mate"]) (sc := relS (compScope (exprOf (stmtIn (defBody sNamed) 0))) (defScope sNamed)) (by decide +kernel)) (fun _ _ _ _ _ => pg_name (i := 4) scNamed.nd rfl (Or.inl rfl))
          (fun _ _ _ _ _ => pts_nil) (fun _ _ _ _ _ => pe_use U hr (by rfl) (pa_cons (pv 0) (pa_cons (pv 3) (pa_cons (pv 4) pa_nil)))))))), ?_⟩
    refine ⟨_, rfl, o, natV os, rfl, SqL.of ho, fun D hD => ?_⟩
    have lo : (natV os).length = os.length := List.length_map _
    refine lc_it (walk_enum (K := K) (a := o) (xs := natV os)) (fun i H' => Same H H' ∧ ∃ rs kss, Tab H' D rs kss ∧ kss.length = i ∧ Fine kss ∧ D ∉ rs ∧ ∀ r ∈ rs, H r = none) ⟨same_new hD, [], [], ⟨upd_same, rfl, fun i r ks h => by simp at h, List.nodup_nil⟩, rfl, Fine.nil, by simp, by simp⟩ (fun i H' _ z => (z.1).seq (SqL.of ho)) ?_ ?_
    · rintro i y H' H'' hi ⟨s1, rs, kss, t, lk, fine, nD, nR⟩ ⟨A2, x1, x2, rfl, nA, rfl, e1, e2⟩
      have e1' : x1 = .int (i : Nat) := (Option.some.inj e1).symm
      subst e1'
      rw [lo] at hi
      have e2' : x2 = .int (os[i] : Nat) := by
        have e3 : (natV os)[i]? = some x2 := e2
        unfold natV at e3
        rw [List.getElem?_map, List.getElem?_eq_getElem hi] at e3
        exact (Option.some.inj e3).symm
      subst e2'
      have s2 := s1.trans (same_new (o := .tup [.int (i : Nat), .int (os[i] : Nat)]) nA)
      refine ⟨A2, [.int (i : Nat), .int (os[i] : Nat)], rfl, SqT.of upd_same, rfl, _, _, rfl, _, _, rfl, rfl, rfl, yes_of ?_⟩
      refine ⟨_, rfl, _, rfl, _, rfl, o, _, rfl, SqL.of (s2 _ _ ho), fun C hC => ?_⟩
      rw [cut_to (by rw [lo]; omega)]
      have s3 := s2.trans (same_new (o := .lst ((natV os).take i)) hC)
      refine ⟨_, rfl, ⟨_, SqL.of upd_same⟩, fun D2 hD2 => ?_⟩
      refine lc_list (K := K) (a := C) (xs := (natV os).take i) (fun j H5 => Same (upd (upd H' A2 (.tup [.int (i : Nat), .int (os[i] : Nat)])) C (.lst ((natV os).take i))) H5 ∧ ∃ ks : List Int, H5 D2 = some (.lst (ks.map V.int)) ∧ ks.length = j ∧ ∀ z ∈ ks, 0 ≤ z ∧ z < 10)
        ⟨same_new hD2, [], upd_same, rfl, by simp⟩ (fun j H5 _ z => (z.1).seq (SqL.of upd_same)) ?_ ?_
      · rintro j y H5 hj ⟨s5, ks, h5, l5, b5⟩
        have hji : j < i := by
          have := (List.getElem?_eq_some_iff.mp hj).1
          rw [List.length_take] at this
          omega
        have ey : y = .int (os[j] : Nat) := by
          rw [List.getElem?_take_of_lt hji] at hj
          unfold natV at hj
          rw [List.getElem?_map, List.getElem?_eq_getElem (by omega)] at hj
          exact (Option.some.inj hj).symm
        subst ey
        refine ⟨rfl, yes_of ?_⟩
        refine ⟨_, rfl, _, rfl, _, rfl, c, n, os[i], os[j], rfl, hc.same (s3.trans s5), bd _ (List.getElem_mem _), bd _ (List.getElem_mem _), fun z => ?_, fun z z0 z1 => ⟨_, h5, ?_, fun b o' zz => ?_, ks ++ [z], ?_, ?_, ?_⟩⟩
        · have := (List.getElem_inj nd).mp z
          omega
        · rw [List.length_map]
          exact small1000 (by omega)
        · have nb : b ≠ D2 := ne_of_none zz hD2
          rw [upd_ne nb]
          exact s5 b o' zz
        · rw [upd_same, List.map_append]
          rfl
        · rw [List.length_append, l5]
          rfl
        · intro z' hz
          rcases List.mem_append.mp hz with hz | hz
          · exact b5 z' hz
          · rw [List.mem_singleton] at hz
            subst hz
            exact ⟨z0, z1⟩
      · rintro H5 ⟨s5, ks, h5, l5, b5⟩
        have l6 : ks.length = i := by
          rw [l5, List.length_take, lo]
          omega
        have nA' : ∀ b o', H' b = some o' → H5 b = some o' := fun b o' e => s5 b o' ((same_new hC) b o' ((same_new nA) b o' e))
        have hp : H' D2 = none := (same_new nA).free ((same_new hC).free hD2)
        refine ⟨rs.map V.ref, nA' _ _ t.top, ?_, fun b o' e => ?_, ?_⟩
        · rw [List.length_map, t.len]
          exact small1000 (by omega)
        · rw [upd_ne (ne_of_none e hD)]
          exact nA' b o' (s1 b o' e)
        · obtain ⟨t2, n2⟩ := t.push nD (fun r _ o' e => nA' r o' e) hp h5
          exact ⟨_, _, t2, by rw [List.length_append, lk]; rfl, fine.push (by omega) b5, n2, fun r hr => by
            rcases List.mem_append.mp hr with hr | hr
            · exact nR r hr
            · rw [List.mem_singleton] at hr
              subst hr
              exact s1.free hp⟩
    · rintro H' ⟨s1, rs, kss, t, lk, fine, nD, nR⟩
      exact q D H' s1 ⟨rs, kss, t, by rw [lk, lo], fine, nD, hD, nR⟩
end
end K1

namespace K1
open PySem PySem.Spec PyProof.Rows L2 GL
theorem seq_in {r : Int} {n : Nat} (h0 : 0 ≤ r) (h1 : r < n) : seqIndex? r n = some r.toNat := by
  unfold seqIndex?
  rw [if_neg (by omega : ¬ r < 0), if_pos (by simp [h0, h1])]
theorem rg_nat (n : Nat) : rgV 0 (n : Int) = natV (List.range n) := by
  unfold rgV natV
  rw [show ((n : Int) - 0).toNat = n by omega]
  exact List.map_congr_left fun j _ => by rw [Int.zero_add]
theorem erase_map : ∀ {os : List Nat} (k : Nat), (natV os).eraseIdx k = natV (os.eraseIdx k)
  | [], k => by cases k <;> rfl
  | a :: os, 0 => rfl
  | a :: os, k + 1 => congrArg (V.int (a : Int) :: ·) (erase_map (os := os) k)
section
variable {P : Program} {w : World} {K : PySem.W.Frag} {mg : Str → Option Value} {base : Heap}
theorem scOrder : FnScope ["_law_generator_here", "_law_many", "_law_left", "_law_found", "_law_turn"] ["_law_generator_here", "_law_many"] (defScope sOrder) := ⟨rfl, rfl, rfl, by decide +kernel, rfl, by decide +kernel, by decide +kernel⟩
def spOrder : Sp := fun vs H Q _ => ∃ (g : Addr) (m n : Nat), vs = [.ref g, .int m] ∧ m ≤ 60 ∧ Gen H g (n + 5 * m) ∧
  ∀ (o : Addr) (H' : Hp) (os : List Nat), But g H H' → H o = none → Gen H' g n → H' o = some (.lst (natV os)) → os.Nodup → (∀ j ∈ os, j < m) → os.length = m → Q (.ref o) H'
theorem perm_erase : ∀ {l : List Nat} {k : Nat} {y : Nat}, l[k]? = some y → (y :: l.eraseIdx k).Perm l
  | [], k, y, h => by simp at h
  | a :: l, 0, y, h => by
    cases h
    exact .refl _
  | a :: l, k + 1, y, h => (List.Perm.swap a y (l.eraseIdx k)).trans (List.Perm.cons a (perm_erase (l := l) (k := k) h))
theorem ok_order {f : Addr} {fd : FuncData} (F : Fun K "_law_order" "_law_order" sOrder f fd) (T : Bi mg) (U : Use P w K mg base "_law_random" ["_law_generator_here", "_law_bound"] spRandom 2) : FnOk P w K mg base CX0 3 f fd ["_law_generator_here", "_law_many"] spOrder := by
  refine F.ok scOrder (fun vs H Q E h => ?_) (fun cdv A outer s H vs Q E hr h => ?_)
  · obtain ⟨g, m, n, rfl, _⟩ := h
    rfl
  · obtain ⟨g, m, n, rfl, hm, G, q⟩ := h
    refine ⟨_, pss_cons (ps_par (i := 2) (j := 3) rfl scOrder.nd rfl rfl (by decide) rfl rfl (pa_cons (pe_listRg rfl (by rfl) T.list (prg_1 (by rfl) T.range (pv 1))) (pa_cons (pe_lst pa_nil) pa_nil)) (by rfl))
      (pss_cons (ps_for PassesOwn.never rfl (pi_range1 (by rfl) T.range (pa_cons (pv 1) pa_nil)) (pg_name (i := 4) scOrder.nd rfl (Or.inl rfl))
        (pss_one (ps_expr (pe_bm PySem.F.plainAttrs_list PySem.F.slot_list_append PySem.F.type_list_append mt_append (pv 3) (pa_cons (pe_bm PySem.F.plainAttrs_list PySem.F.slot_list_pop PySem.F.type_list_pop mt_popAt (pv 2)
          (pa_cons (pe_use U hr (by rfl) (pa_cons (pv 0) (pa_cons (pe_callB call_len_seq (by rfl) T.len PySem.boot_len (pa_cons (pv 2) pa_nil)) pa_nil))) pa_nil)) pa_nil)))))
      (pss_one (ps_ret (pv 3)))), ?_⟩
    refine ⟨_, rfl, _, rfl, RgOk.of_le (by omega) (by omega) (by omega) (by omega), fun l hl => ⟨Nat.zero_le _, fun d hd => ⟨_, _, rfl, ?_⟩⟩⟩
    have ld : l ≠ d := fun z => by
      rw [← z, upd_same] at hd
      cases hd
    have hd0 : H d = none := (same_new hl).free hd
    have gl : g ≠ l := G.ne hl
    have gd : g ≠ d := G.ne hd0
    refine ⟨_, rfl, m, rfl, by omega, by omega, ?_⟩
    refine for_range (lo := 0) (n := (m : Int).toNat) (fun i σ H' => ∃ (L Fd : List Nat) (t : Option V), σ = [some (.ref g), some (.int m), some (.ref l), some (.ref d), t] ∧ But g H H' ∧ H' l = some (.lst (natV L)) ∧ H' d = some (.lst (natV Fd)) ∧
        (Fd ++ L).Perm (List.range m) ∧ Fd.length = i ∧ Gen H' g (n + 5 * (m - i)))
      ⟨List.range m, [], none, rfl, (But.new hl).trans (But.new hd), by rw [upd_ne ld, upd_same, rg_nat], upd_same, .refl _, rfl, (G.new hl).new hd⟩ ?_ ?_
    · rintro i σ H' hi ⟨L, Fd, t, rfl, bt, h1, h2, pm, lf, G'⟩
      have cnt : (Fd ++ L).length = m := by rw [pm.length_eq, List.length_range]
      rw [List.length_append] at cnt
      have him : i < m := by omega
      have lL : (natV L).length = L.length := List.length_map _
      have G2 : Gen H' g (n + 5 * (m - (i + 1)) + 5) := by
        rw [show n + 5 * (m - (i + 1)) + 5 = n + 5 * (m - i) by omega]
        exact G'
      refine ⟨_, rfl, .inl ⟨rfl, _, SqL.of h2⟩, _, rfl, .inl ⟨rfl, _, SqL.of h1⟩, _, rfl, _, rfl, l, natV L, rfl, .inl (SqL.of h1), g, (natV L).length, n + 5 * (m - (i + 1)), rfl, by omega, by omega, G2, ?_⟩
      intro r H2 r0 r1 G3 bt2
      have h1' := bt2 l _ h1 gl.symm
      have h2' := bt2 d _ h2 gd.symm
      have rk : r.toNat < L.length := by omega
      refine ⟨l, natV L, r, r.toNat, V.int (L[r.toNat] : Nat), rfl, rfl, h1', by omega, by omega, seq_in r0 r1, ?_, ?_⟩
      · unfold natV
        rw [List.getElem?_map, List.getElem?_eq_getElem rk]
        rfl
      · refine ⟨d, natV Fd, _, rfl, rfl, by rw [upd_ne ld.symm]; exact h2', ?_, ?_⟩
        · unfold natV
          rw [List.length_map]
          exact small1000 (by omega)
        · refine ⟨L.eraseIdx r.toNat, Fd ++ [L[r.toNat]], _, rfl, ?_, ?_, ?_, ?_, ?_, ?_⟩
          · intro b o e nb
            have e' := bt2 b o (bt b o e nb) nb
            rw [upd_ne (ne_of_none e hd0), upd_ne (ne_of_none e hl)]
            exact e'
          · rw [upd_ne ld, upd_same, erase_map]
          · rw [upd_same]
            unfold natV
            rw [List.map_append]
            rfl
          · refine List.Perm.trans ?_ pm
            rw [List.append_assoc]
            exact List.Perm.append_left _ (perm_erase (List.getElem?_eq_getElem rk))
          · rw [List.length_append, lf]
            rfl
          · exact (G3.other gl.symm).other gd.symm
    · rintro σ H' ⟨L, Fd, t, rfl, bt, h1, h2, pm, lf, G'⟩
      have cnt : (Fd ++ L).length = m := by rw [pm.length_eq, List.length_range]
      rw [List.length_append] at cnt
      have lf' : Fd.length = m := by omega
      have L0 : L = [] := List.length_eq_zero_iff.mp (by omega)
      subst L0
      rw [List.append_nil] at pm
      refine ⟨_, rfl, q d H' Fd bt hd0 (G'.less (by omega)) h2 (pm.nodup_iff.mpr List.nodup_range) (fun j hj => List.mem_range.mp (pm.mem_iff.mp hj)) lf'⟩
end
end K1

namespace K1
open PySem PySem.Spec PyProof.Rows L2 GL
abbrev sCompany : Stmt := topS 25
def ifBody : Stmt → List Stmt
  | .If _ b _ _ => b
  | _ => []
def forBody : Stmt → List Stmt
  | .For _ _ b _ _ => b
  | _ => []
theorem rep_one (n : Nat) (k : Int) : (List.replicate n [V.int k]).flatten = (List.replicate n k).map V.int := by
  induction n with
  | zero => rfl
  | succ n ih =>
    rw [List.replicate_succ, List.replicate_succ, List.flatten_cons, ih]
    rfl
/-- between the turns of the loop that grows a company -/
def CI (H : Hp) (g f : Addr) (k : Int) (m n i : Nat) (σ : L2.St) (H' : Hp) : Prop := ∃ (pv wv ov kv rv : Option V), σ = [some (.ref g), some (.int k), some (.int m), pv, some (.ref f), wv, ov, kv, rv, none] ∧ But g H H' ∧ Gen H' g (n + 19000 - 15 * i) ∧
  ∃ rs kss, Tab H' f rs kss ∧ kss.length = i + 1 ∧ Fine kss ∧ f ∉ rs ∧ H f = none ∧ ∀ r ∈ rs, H r = none
theorem notin_new {H : Hp} {g : Addr} {n : Nat} {rs : List Addr} (G : Gen H g n) (nR : ∀ r ∈ rs, H r = none) : g ∉ rs := fun z => by
  obtain ⟨a, b, c, h1, _⟩ := G
  have := nR g z
  rw [h1] at this
  cases this
theorem but_free {H H' : Hp} {g p : Addr} {n' : Nat} (b : But g H H') (G' : Gen H' g n') (hp : H' p = none) : H p = none := by
  have pg : p ≠ g := (G'.ne hp).symm
  cases q : H p with
  | none => rfl
  | some o =>
    rw [b p o q pg] at hp
    cases hp
theorem CI.next {H H' H3 : Hp} {g f p : Addr} {k : Int} {m n i nn n' : Nat} {rs : List Addr} {kss : List (List Int)} {ks : List Int} {pv wv ov kv rv : Option V} (G0 : Gen H g nn) (bt : But g H H') (G' : Gen H' g n') (t : Tab H' f rs kss) (lk : kss.length = i + 1) (fine : Fine kss) (nf : f ∉ rs)
    (hf : H f = none) (nR : ∀ r ∈ rs, H r = none) (b3 : But g H' H3) (G3 : Gen H3 g (n + 19000 - 15 * (i + 1))) (hp : H' p = none) (h3 : H3 p = some (.lst (ks.map V.int))) (lks : ks.length = i + 1) (bk : ∀ z ∈ ks, 0 ≤ z ∧ z < 10) :
    H3 f = some (.lst (rs.map V.ref)) ∧ CI H g f k m n (i + 1) [some (.ref g), some (.int k), some (.int m), pv, some (.ref f), wv, ov, kv, rv, none] (upd H3 f (.lst (rs.map V.ref ++ [V.ref p]))) := by
  have gf : g ≠ f := G0.ne hf
  have gr : g ∉ rs := notin_new G0 nR
  obtain ⟨t2, n2⟩ := t.push nf (H4 := H3) (fun r hr o e => b3 r o e (fun z => gr (by rw [← z]; exact hr))) hp h3
  refine ⟨b3 _ _ t.top gf.symm, pv, wv, ov, kv, rv, rfl, ?_, G3.other gf.symm, _, _, t2, by rw [List.length_append, lk]; rfl, fine.push (by omega) bk, n2, hf, ?_⟩
  · intro b o e nb
    rw [upd_ne (ne_of_none e hf)]
    exact b3 b o (bt b o e nb) nb
  · intro r hr
    rcases List.mem_append.mp hr with hr | hr
    · exact nR r hr
    · rw [List.mem_singleton] at hr
      subst hr
      exact but_free bt G' hp
theorem Gen.same {H H' : Hp} {g : Addr} {n : Nat} (h : Gen H g n) (s : Same H H') : Gen H' g n := by
  obtain ⟨a, b, c, h1, r⟩ := h
  exact ⟨a, b, c, s _ _ h1, r⟩
theorem CoN.back {H0 H1 H : Hp} {c : Addr} {n : Nat} (h : CoN H1 H c n) (f : ∀ a, H1 a = none → H0 a = none) : CoN H0 H c n := by
  obtain ⟨rs, kss, t, l, fi, nc, n1, n2⟩ := h
  exact ⟨rs, kss, t, l, fi, nc, f _ n1, fun r hr => f _ (n2 r hr)⟩
section
variable {P : Program} {w : World} {K : PySem.W.Frag} {mg : Str → Option Value} {base : Heap}
abbrev nCompany : List Str := ["_law_generator_here", "_law_kinds", "_law_many", "_law_person", "_law_found", "_law_way", "_law_one", "_law_kind", "_law_row", "_law_mate"]
theorem scCompany : FnScope nCompany ["_law_generator_here", "_law_kinds", "_law_many"] (defScope sCompany) := ⟨rfl, rfl, rfl, by decide +kernel, rfl, by decide +kernel, by decide +kernel⟩
def spCompany : Sp := fun vs H Q _ => ∃ (g : Addr) (k : Int) (m n : Nat), vs = [.ref g, .int k, .int m] ∧ 2 ≤ k ∧ k ≤ 9 ∧ 1 ≤ m ∧ m ≤ 50 ∧ Gen H g (n + 20000) ∧ ∀ (p : Addr) (H' : Hp), But g H H' → Gen H' g n → CoN H H' p m → Q (.ref p) H'
theorem ok_company {f : Addr} {fd : FuncData} (F : Fun K "_law_company" "_law_company" sCompany f fd) (T : Bi mg) (U : Use P w K mg base "_law_random" ["_law_generator_here", "_law_bound"] spRandom 2)
    (UT : Use P w K mg base "_law_tie" ["_law_company_here", "_law_one", "_law_other"] spTie 1) (UN : Use P w K mg base "_law_named" ["_law_company_here", "_law_order_here"] spNamed 2) (UO : Use P w K mg base "_law_order" ["_law_generator_here", "_law_many"] spOrder 3) :
    FnOk P w K mg base CX0 4 f fd ["_law_generator_here", "_law_kinds", "_law_many"] spCompany := by
  refine F.ok scCompany (fun vs H Q E h => ?_) (fun cdv A outer s H vs Q E hr h => ?_)
  · obtain ⟨g, k, m, n, rfl, _⟩ := h
    rfl
  · obtain ⟨g, k, m, n, rfl, k2, k9, m1, m50, G, q⟩ := h
    have hr2 : Room 2 (A.deeper (envOfC "_law_company" (defScope sCompany) s.heap.objs.size f cdv)) := hr.mono (by decide)
    have hr1 : Room 1 (A.deeper (envOfC "_law_company" (defScope sCompany) s.heap.objs.size f cdv)) := hr.mono (by decide)
    refine ⟨_, pss_cons (ps_if (pt_cmpR op_eq (pe_use U hr2 (by rfl) (pa_cons (pv 0) (pa_cons pe_int pa_nil))) pe_int (nomark _))
        (pss_one (ps_ret (pe_lc (own := [("_law_person", 3)]) (g := gName 3) (tt := tYes) (te := tLc (iRng1 (tCons (tVar 3) tNil)) (gName 9) tYes (tCall spRandom [] E0 (tCons (tVar 0) (tCons (tVar 1) tNil))) [9]) rfl scCompany.nd (pi_range1 (by rfl) T.range (pa_cons (pv 2) pa_nil))
          (blkOk_by (N := nCompany) (sc := defScope sCompany) (by decide +kernel)) (fun _ _ _ _ _ => pg_name (i := 3) scCompany.nd rfl (Or.inl rfl)) (fun _ _ _ _ _ => pts_nil)
          (fun _ _ _ _ _ => by exact (pe_lc (own := [("_law_mate", 9)]) (g := gName 9) (tt := tYes) rfl scCompany.nd (pi_range1 (by rfl) T.range (pa_cons (pv 3) pa_nil))
            (blkOk_by (N := nCompany) (sc := relS (compScope (exprOf (stmtIn (ifBody (stmtIn (defBody sCompany) 0)) 0))) (defScope sCompany)) (by decide +kernel)) (fun _ _ _ _ _ => pg_name (i := 9) scCompany.nd rfl (Or.inl rfl))
            (fun _ _ _ _ _ => pts_nil) (fun _ _ _ _ _ => pe_use U hr2 (by rfl) (pa_cons (pv 0) (pa_cons (pv 1) pa_nil))))))) ) pss_nil)
      (pss_cons (ps_set (i := 4) scCompany.nd rfl (Or.inr rfl) (pe_lst (pa_cons (pe_lst pa_nil) pa_nil)))
      (pss_cons (ps_for PassesOwn.never rfl (pi_range2 (by rfl) T.range (pa_cons pe_int (pa_cons (pv 2) pa_nil))) (pg_name (i := 3) scCompany.nd rfl (Or.inl rfl))
        (pss_cons (ps_asg (pe_tup (pa_cons (pe_use U hr2 (by rfl) (pa_cons (pv 0) (pa_cons pe_int pa_nil))) (pa_cons (pe_use U hr2 (by rfl) (pa_cons (pv 0) (pa_cons (pv 3) pa_nil))) (pa_cons (pe_use U hr2 (by rfl) (pa_cons (pv 0) (pa_cons (pv 1) pa_nil))) pa_nil))))
            (pg_tup rfl (pgs_cons (pg_name (i := 5) scCompany.nd rfl (Or.inl rfl)) (pgs_cons (pg_name (i := 6) scCompany.nd rfl (Or.inr rfl)) (pgs_cons (pg_name (i := 7) scCompany.nd rfl (Or.inr rfl)) pgs_nil)))))
        (pss_cons (ps_set (i := 8) scCompany.nd rfl (Or.inl rfl) (pe_op op_rep (pe_lst (pa_cons (pv 7) pa_nil)) (pv 3)))
        (pss_cons (ps_if (pt_cmpR op_gt (pv 5) pe_int (nomark _))
            (pss_one (ps_setLc (i := 8) (own := [("_law_mate", 9)]) (g := gName 9) (tt := tYes) rfl scCompany.nd rfl rfl (sw_true rfl rfl rfl (by decide +kernel)) (pi_range1 (by rfl) T.range (pa_cons (pv 3) pa_nil))
              (blkOk_by (N := nCompany) (sc := defScope sCompany) (by decide +kernel)) (fun _ _ _ _ _ => pg_name (i := 9) scCompany.nd rfl (Or.inl rfl)) (fun _ _ _ _ _ => pts_nil)
              (fun _ _ _ _ _ => pe_ifExp (pt_cmpR op_eq (pv 9) (pv 6) (nomark _)) (pv 7) (pe_use UT hr1 (by rfl) (pa_cons (pv 4) (pa_cons (pv 6) (pa_cons (pv 9) pa_nil))))))) pss_nil)
        (pss_one (ps_expr (pe_bm PySem.F.plainAttrs_list PySem.F.slot_list_append PySem.F.type_list_append mt_append (pv 4) (pa_cons (pv 8) pa_nil))))))))
      (pss_one (ps_ret (pe_use UN hr2 (by rfl) (pa_cons (pv 4) (pa_cons (pe_use UO hr (by rfl) (pa_cons (pv 0) (pa_cons (pv 2) pa_nil))) pa_nil))))))), ?_⟩
    refine ⟨_, rfl, g, 3, n + 19995, rfl, by decide, by decide, G, fun r H1 r0 r1 G1 b1 => ⟨rfl, _, rfl, ite2 (fun c => ?_) (fun c => ?_)⟩⟩
    · -- drawn ties
      refine ⟨_, rfl, m, rfl, by omega, by omega, fun D hD => ?_⟩
      have hD0 : H D = none := but_free b1 G1 hD
      have gD : D ≠ g := (G.ne hD0).symm
      refine lc_it (walk_range (lo := 0) (n := (m : Int).toNat)) (fun i H' => But g H H' ∧ Gen H' g (n + 19000 - 250 * i) ∧ ∃ rs kss, Tab H' D rs kss ∧ kss.length = i ∧ Fine kss ∧ D ∉ rs ∧ ∀ r ∈ rs, H r = none)
        ⟨b1.trans (But.new hD), (G1.new hD).less (by omega), [], [], ⟨upd_same, rfl, fun i r ks h => by simp at h, List.nodup_nil⟩, rfl, Fine.nil, by simp, by simp⟩ (fun _ _ _ _ => trivial) ?_ ?_
      · rintro i y H' H'' hi ⟨bt, G', rs, kss, t, lk, fine, nD, nR⟩ ⟨rfl, rfl⟩
        have gr : g ∉ rs := notin_new G nR
        refine ⟨rfl, yes_of ?_⟩
        refine ⟨_, rfl, (0 + (i : Int)), rfl, by omega, by omega, fun D2 hD2 => ?_⟩
        have gD2 : D2 ≠ g := (G'.ne hD2).symm
        refine lc_it (walk_range (lo := 0) (n := (0 + (i : Int)).toNat)) (fun j H5 => But g H'' H5 ∧ Gen H5 g (n + 19000 - 250 * i - 5 * j) ∧ ∃ ks : List Int, H5 D2 = some (.lst (ks.map V.int)) ∧ ks.length = j ∧ ∀ z ∈ ks, 0 ≤ z ∧ z < 10)
          ⟨But.new hD2, G'.new hD2, [], upd_same, rfl, by simp⟩ (fun _ _ _ _ => trivial) ?_ ?_
        · rintro j y H5 H6 hj ⟨b5, G5, ks, h5, l5, bb⟩ ⟨rfl, rfl⟩
          refine ⟨rfl, yes_of ?_⟩
          refine ⟨_, rfl, _, rfl, g, k, n + 19000 - 250 * i - 5 * (j + 1), rfl, by omega, by omega, G5.less (by omega), fun r2 H7 q0 q1 G7 b7 => ⟨_, b7 _ _ h5 gD2, ?_, ?_, G7.other gD2, ks ++ [r2], ?_, ?_, ?_⟩⟩
          · rw [List.length_map]
            exact small1000 (by omega)
          · intro b o e nb
            rw [upd_ne (ne_of_none e hD2)]
            exact b7 b o (b5 b o e nb) nb
          · rw [upd_same, List.map_append]
            rfl
          · rw [List.length_append, l5]
            rfl
          · intro z hz
            rcases List.mem_append.mp hz with hz | hz
            · exact bb z hz
            · rw [List.mem_singleton] at hz
              subst hz
              exact ⟨q0, by omega⟩
        · rintro H5 ⟨b5, G5, ks, h5, l5, bb⟩
          obtain ⟨t2, n2⟩ := t.push nD (H4 := H5) (fun r hr o e => b5 r o e fun z => gr (by rw [← z]; exact hr)) hD2 h5
          refine ⟨_, b5 _ _ t.top gD, ?_, ?_, (G5.less (by omega)).other gD, _, _, t2, ?_, fine.push (by omega) bb, n2, ?_⟩
          · rw [List.length_map, t.len]
            exact small1000 (by omega)
          · intro b o e nb
            rw [upd_ne (ne_of_none e hD0)]
            exact b5 b o (bt b o e nb) nb
          · rw [List.length_append, lk]
            rfl
          · intro r hr
            rcases List.mem_append.mp hr with hr | hr
            · exact nR r hr
            · rw [List.mem_singleton] at hr
              subst hr
              exact but_free bt G' hD2
      · rintro H' ⟨bt, G', rs, kss, t, lk, fine, nD, nR⟩
        exact q D H' bt (G'.less (by omega)) ⟨rs, kss, t, by omega, fine, nD, hD0, nR⟩
    · -- people put beside others
      refine ⟨Nat.zero_le _, fun l0 hl0 => ⟨(by show 1 ≤ sizeLine; decide), fun f0 hf0 => ?_⟩⟩
      have hl00 : H l0 = none := but_free b1 G1 hl0
      have hf1 : H1 f0 = none := (same_new hl0).free hf0
      have hf00 : H f0 = none := but_free b1 G1 hf1
      have lf : l0 ≠ f0 := fun z => by
        rw [← z, upd_same] at hf0
        cases hf0
      have gf : g ≠ f0 := G.ne hf00
      refine ⟨_, rfl, 1, m, rfl, ⟨by omega, by omega, by omega, by omega⟩, ?_⟩
      refine for_range (lo := 1) (n := ((m : Int) - 1).toNat) (CI H g f0 k m n) ⟨none, none, none, none, none, rfl, (b1.trans (But.new hl0)).trans (But.new hf0), ((G1.new hl0).new hf0).less (by omega), [l0], [[]], ⟨upd_same, rfl, ?_, by simp⟩, rfl, ?_, ?_, hf00, ?_⟩ ?_ ?_
      · intro i r ks h1 h2
        have i0 : i = 0 := by
          have := (List.getElem?_eq_some_iff.mp h1).1
          simp at this
          exact this
        subst i0
        cases h1
        cases h2
        rw [upd_ne lf, upd_same]
        rfl
      · intro i ks h
        have i0 : i = 0 := by
          have := (List.getElem?_eq_some_iff.mp h).1
          simp at this
          exact this
        subst i0
        cases h
        exact ⟨rfl, by simp⟩
      · rw [List.mem_singleton]
        exact lf.symm
      · intro r hr
        rw [List.mem_singleton] at hr
        subst hr
        exact hl00
      · rintro i σ H' hi ⟨pv0, wv, ov, kv, rv, rfl, bt, G', rs, kss, t, lk, fine, nf, _, nR⟩
        have gr : g ∉ rs := notin_new G nR
        refine ⟨_, rfl, g, 3, n + 19000 - 15 * i - 5, rfl, by decide, by decide, G'.less (by omega), fun wy Ha w0 w1 Ga ba => ?_⟩
        refine ⟨_, rfl, _, rfl, g, 1 + (i : Int), n + 19000 - 15 * i - 10, rfl, by omega, by omega, Ga.less (by omega), fun one Hb o0 o1 Gb bb => ?_⟩
        obtain ⟨u, rfl⟩ : ∃ u : Nat, one = (u : Int) := ⟨one.toNat, by omega⟩
        refine ⟨_, rfl, _, rfl, g, k, n + 19000 - 15 * i - 15, rfl, by omega, by omega, Gb.less (by omega), fun kd Hc kk0 kk1 Gc bc => ?_⟩
        refine ⟨(by show 3 ≤ sizeLine; decide), fun t3 ht3 => ?_⟩
        refine ⟨t3, _, rfl, SqT.of upd_same, rfl, _, _, rfl, _, _, rfl, _, _, rfl, rfl, ?_⟩
        refine ⟨_, rfl, (by show 1 ≤ sizeLine; decide), fun l hl => ⟨_, rfl, l, _, _, rfl, rfl, upd_same, by omega, by omega, ?_, fun p hp => ?_⟩⟩
        · have : ([V.int kd] : List V).length * (1 + (i : Int)).toNat ≤ 1000 := by
            show 1 * (1 + (i : Int)).toNat ≤ 1000
            omega
          exact Nat.le_of_lt (small1000 this)
        have bHc : But g H' Hc := (ba.trans bb).trans bc
        have hpc : Hc p = none := (same_new ht3).free ((same_new hl).free hp)
        have hpH : H' p = none := but_free bHc Gc hpc
        have b4 : But g H' (upd (upd (upd Hc t3 (.tup [V.int wy, V.int (u : Int), V.int kd])) l (.lst [V.int kd])) p (.lst (List.replicate (1 + (i : Int)).toNat [V.int kd]).flatten)) := bHc.trans ((But.new ht3).trans ((But.new hl).trans (But.new hp)))
        have G4 : Gen (upd (upd (upd Hc t3 (.tup [V.int wy, V.int (u : Int), V.int kd])) l (.lst [V.int kd])) p (.lst (List.replicate (1 + (i : Int)).toNat [V.int kd]).flatten)) g (n + 19000 - 15 * (i + 1)) := (((Gc.new ht3).new hl).new hp).less (by omega)
        have szf : (rs.map V.ref).length < sizeLine := by
          rw [List.length_map, t.len]
          exact small1000 (by omega)
        refine ⟨_, rfl, _, _, rfl, rfl, _, rfl, ite2 (fun cw => ?_) (fun cw => ?_)⟩
        · refine ⟨_, rfl, 1 + (i : Int), rfl, by omega, by omega, fun D2 hD2 => ?_⟩
          refine lc_it (walk_range (lo := 0) (n := (1 + (i : Int)).toNat)) (fun j H5 => Same (upd (upd (upd Hc t3 (.tup [V.int wy, V.int (u : Int), V.int kd])) l (.lst [V.int kd])) p (.lst (List.replicate (1 + (i : Int)).toNat [V.int kd]).flatten)) H5 ∧ ∃ ks : List Int, H5 D2 = some (.lst (ks.map V.int)) ∧ ks.length = j ∧ ∀ z ∈ ks, 0 ≤ z ∧ z < 10)
            ⟨same_new hD2, [], upd_same, rfl, by simp⟩ (fun _ _ _ _ => trivial) ?_ ?_
          · rintro j y H5 H6 hj ⟨s5, ks, h5, l5, bb5⟩ ⟨rfl, rfl⟩
            have more : ∀ (z : Int), 0 ≤ z → z < 10 → ∃ acc, H6 D2 = some (.lst acc) ∧ acc.length < sizeLine ∧ Same (upd (upd (upd Hc t3 (.tup [V.int wy, V.int (u : Int), V.int kd])) l (.lst [V.int kd])) p (.lst (List.replicate (1 + (i : Int)).toNat [V.int kd]).flatten)) (upd H6 D2 (.lst (acc ++ [V.int z]))) ∧
                ∃ ks : List Int, (upd H6 D2 (.lst (acc ++ [V.int z]))) D2 = some (.lst (ks.map V.int)) ∧ ks.length = j + 1 ∧ ∀ z ∈ ks, 0 ≤ z ∧ z < 10 := by
              intro z z0 z1
              refine ⟨_, h5, ?_, fun b o e => ?_, ks ++ [z], ?_, ?_, ?_⟩
              · rw [List.length_map]
                exact small1000 (by omega)
              · rw [upd_ne (ne_of_none e hD2)]
                exact s5 b o e
              · rw [upd_same, List.map_append]
                rfl
              · rw [List.length_append, l5]
                rfl
              · intro z' hz
                rcases List.mem_append.mp hz with hz | hz
                · exact bb5 z' hz
                · rw [List.mem_singleton] at hz
                  subst hz
                  exact ⟨z0, z1⟩
            refine ⟨rfl, yes_of ?_⟩
            refine ⟨_, rfl, _, rfl, rfl, _, rfl, ite2 (fun ce => ?_) (fun ce => ?_)⟩
            · exact ⟨_, rfl, more kd kk0 (by omega)⟩
            · have ne : u ≠ j := fun z => ce (by
                subst z
                exact decide_eq_true (show V.int (0 + (u : Int)) = V.int (u : Int) by rw [Int.zero_add]))
              refine ⟨_, rfl, _, rfl, _, rfl, f0, i + 1, u, j, (show [V.ref f0, V.int (u : Int), V.int (0 + (j : Int))] = [V.ref f0, V.int (u : Int), V.int (j : Int)] by rw [Int.zero_add]), ⟨rs, kss, (t.but b4 gf.symm gr).same s5, lk, fine⟩, by omega, by omega, ne, more⟩
          · rintro H5 ⟨s5, ks, h5, l5, bb5⟩
            obtain ⟨e1, e2⟩ := CI.next (k := k) (m := m) (n := n) (pv := some (V.int (1 + (i : Int)))) (wv := some (V.int wy)) (ov := some (V.int (u : Int))) (kv := some (V.int kd)) (rv := some (V.ref D2)) G bt G' t lk fine nf hf00 nR (b4.trans (.of s5)) (G4.same s5) (but_free b4 G4 hD2) h5 (by omega) bb5
            exact ⟨_, rfl, .inl ⟨rfl, _, SqL.of e1⟩, _, rfl, f0, _, _, rfl, rfl, e1, szf, e2⟩
        · obtain ⟨e1, e2⟩ := CI.next (k := k) (m := m) (n := n) (ks := List.replicate (1 + (i : Int)).toNat kd) (pv := some (V.int (1 + (i : Int)))) (wv := some (V.int wy)) (ov := some (V.int (u : Int))) (kv := some (V.int kd)) (rv := some (V.ref p)) G bt G' t lk fine nf hf00 nR b4 G4 hpH (by rw [upd_same, rep_one]) (by rw [List.length_replicate]; omega) (fun z hz => by
            rw [List.eq_of_mem_replicate hz]
            exact ⟨kk0, by omega⟩)
          exact ⟨_, rfl, .inl ⟨rfl, _, SqL.of e1⟩, _, rfl, f0, _, _, rfl, rfl, e1, szf, e2⟩
      · rintro σ H' ⟨pv0, wv, ov, kv, rv, rfl, bt, G', rs, kss, t, lk, fine, nf, _, nR⟩
        have gr : g ∉ rs := notin_new G nR
        refine ⟨_, rfl, _, rfl, _, rfl, g, m, n + 1000, rfl, by omega, G'.less (by omega), fun o Ho os bo ho Go hos nd bd lo => ?_⟩
        refine ⟨f0, o, m, os, rfl, ⟨rs, kss, t.but bo gf.symm gr, by omega, fine⟩, hos, nd, bd, by omega, fun p Hp sp cp => ?_⟩
        rw [lo] at cp
        exact q p Hp ((bt.trans bo).trans (.of sp)) ((Go.same sp).less (by omega)) (cp.back fun a ha => but_free (bt.trans bo) Go ha)
end
end K1

namespace K1
open PySem PySem.Spec PyProof.Rows L2 GL
abbrev sIs2 : Stmt := topS 26
theorem rows_get {k : Int} {ds : List PyData} (n : Nat) : rowsOk k n ds = true ↔ ∀ (j : Nat) (d : PyData), ds[j]? = some d → rowOk k ((n + j : Nat) : Int) d = true := by
  induction ds generalizing n with
  | nil => exact ⟨fun _ j d h => by simp at h, fun _ => rfl⟩
  | cons a ds ih =>
    show (rowOk k n a && rowsOk k (n + 1) ds) = true ↔ _
    rw [Bool.and_eq_true, ih]
    constructor
    · rintro ⟨h1, h2⟩ j d h
      cases j with
      | zero =>
        cases h
        exact h1
      | succ j =>
        have := h2 j d h
        rwa [show n + 1 + j = n + (j + 1) by omega] at this
    · intro h
      refine ⟨h 0 a rfl, fun j d hd => ?_⟩
      have := h (j + 1) d hd
      rwa [show n + (j + 1) = n + 1 + j by omega] at this
theorem comp_false {k : Int} {ds : List PyData} {i : Nat} {d : PyData} (h : ds[i]? = some d) (r : rowOk k (i : Int) d = false) : compOk k (.list ds) = false := by
  have z : rowsOk k 0 ds = false := by
    cases e : rowsOk k 0 ds with
    | false => rfl
    | true =>
      have := (rows_get (k := k) 0).mp e i d h
      rw [Nat.zero_add, r] at this
      cases this
  show ((decide (1 ≤ ds.length) && decide (ds.length ≤ 40)) && rowsOk k 0 ds) = false
  rw [z, Bool.and_false]
theorem below_split (k : Int) (d : PyData) : (∃ i, d = .int i ∧ whole d = true ∧ below k d = (decide (0 ≤ i) && decide (i < k))) ∨ (whole d = false ∧ below k d = false) := by
  cases d with
  | int i => exact .inl ⟨i, rfl, rfl, rfl⟩
  | _ => exact .inr ⟨rfl, rfl⟩
theorem all_take {k : Int} {es : List PyData} {j : Nat} {e : PyData} (h : es[j]? = some e) : (es.take (j + 1)).all (below k) = ((es.take j).all (below k) && below k e) := by
  rw [List.take_add_one, h, List.all_append]
  show (_ && (below k e && true)) = _
  rw [Bool.and_true]
section
variable {P : Program} {w : World} {K : PySem.W.Frag} {mg : Str → Option Value} {base : Heap}
abbrev nIs2 : List Str := ["_law_kinds", "_law_value", "_law_person", "_law_row", "_law_item"]
theorem scIs2 : FnScope nIs2 ["_law_kinds", "_law_value"] (defScope sIs2) := ⟨rfl, rfl, rfl, by decide +kernel, rfl, by decide +kernel, by decide +kernel⟩
theorem ok_is2 {f : Addr} {fd : FuncData} (F : Fun K "_law_is_company" "_law_is_company" sIs2 f fd) (T : Bi mg) (U : Use P w K mg base "_law_is_whole" ["_law_value"] (spWhole K) 1) : FnOk P w K mg base CX0 2 f fd ["_law_kinds", "_law_value"] (spCompOf K) := by
  refine F.ok scIs2 (fun vs H Q E h => ?_) (fun cdv A outer s H vs Q E hr h => ?_)
  · obtain ⟨x, d, k, rfl, _⟩ := h
    rfl
  · obtain ⟨x, d, k, rfl, hd, q⟩ := h
    refine ⟨_, pss_cons (ps_if (PW.pt (pw_or (pt_not (pt_val (pe_callB call_isi (by rfl) T.isinstance (by decide +kernel) (pa_cons (pv 1) (pa_cons (pe_bltn (v := .ty "list") (by rfl) T.list PyProof.Rows.boot_list rfl) pa_nil)))))
        (pw_or1 (pt_not (pt_chain op_le op_le pe_int (pe_callB call_len_seq (by rfl) T.len PySem.boot_len (pa_cons (pv 1) pa_nil)) pe_int))))) (pss_one (ps_ret pe_bl)) pss_nil)
      (pss_cons (ps_for PassesOwn.never rfl (pi_enum (by rfl) T.enumerate (pa_cons (pv 1) pa_nil)) (pg_tup rfl (pgs_cons (pg_name (i := 2) scIs2.nd rfl (Or.inl rfl)) (pgs_cons (pg_name (i := 3) scIs2.nd rfl (Or.inl rfl)) pgs_nil)))
        (pss_cons (ps_if (PW.pt (pw_or (pt_not (pt_val (pe_callB call_isi (by rfl) T.isinstance (by decide +kernel) (pa_cons (pv 3) (pa_cons (pe_bltn (v := .ty "list") (by rfl) T.list PyProof.Rows.boot_list rfl) pa_nil)))))
            (pw_or1 (pt_cmpR op_ne (pe_callB call_len_seq (by rfl) T.len PySem.boot_len (pa_cons (pv 3) pa_nil)) (pv 2) (nomark _))))) (pss_one (ps_ret pe_bl)) pss_nil)
        (pss_one (ps_if (pt_cmpR (op_neNil hr.units) (pe_lc (own := [("_law_item", 4)]) (g := gName 4) rfl scIs2.nd (pi_list (pv 3))
            (blkOk_by (N := nIs2) (sc := defScope sIs2) (by decide +kernel)) (fun _ _ _ _ _ => pg_name (i := 4) scIs2.nd rfl (Or.inl rfl))
            (fun _ _ _ _ _ => pts_one (PW.pt (pw_or (pt_not (pt_val (pe_use U hr (by rfl) (pa_cons (pv 4) pa_nil)))) (pw_or1 (pt_not (pt_chain op_le op_lt pe_int (pv 4) (pv 0)))))))
            (fun _ _ _ _ _ => pv 4)) (pe_lst pa_nil) (nomark _)) (pss_one (ps_ret pe_bl)) pss_nil))))
      (pss_one (ps_ret pe_bl))), ?_⟩
    refine ⟨_, rfl, _, _, _, _, _, rfl, .ty "list", hd.ty, kit_list d, _, rfl, ?_⟩
    by_cases e : ∃ ds, d = .list ds
    · obtain ⟨ds, rfl⟩ := e
      cases hd with
      | @lst a xs _ ha hs =>
        have hl := hs.length
        refine iteF ⟨_, rfl, a, xs, rfl, .inl (SqL.of ha), _, _, rfl, rfl, _, rfl, ?_⟩
        rw [hl]
        by_cases c1 : (1 : Int) ≤ (ds.length : Int)
        · rw [decide_eq_true c1]
          refine iteT ⟨_, _, rfl, rfl, _, rfl, ?_⟩
          by_cases c2 : (ds.length : Int) ≤ 40
          · rw [decide_eq_true c2]
            refine iteF ⟨_, rfl, a, xs, rfl, SqL.of ha, ?_⟩
            refine for_it (walk_enum (K := K) (a := a) (xs := xs)) (fun i σ H' => ∃ p r : Option V, σ = [some (.int k), some (.ref a), p, r, none] ∧ Same H H' ∧ ∀ (j : Nat) (d : PyData), j < i → ds[j]? = some d → rowOk k (j : Int) d = true)
              ⟨none, none, rfl, Same.refl _, fun j d hj => absurd hj (by omega)⟩ (fun i σ H' _ ⟨_, _, _, s1, _⟩ => s1.seq (SqL.of ha)) ?_ ?_
            · rintro i y σ H' H'' hi ⟨p0, r0, rfl, s1, done⟩ ⟨T0, x1, x2, rfl, nT, rfl, e1, e2⟩
              have e1' : x1 = .int (i : Nat) := (Option.some.inj e1).symm
              subst e1'
              obtain ⟨dy, f1, f2⟩ := hs.get e2
              have s2 := s1.trans (same_new (o := .tup [.int (i : Nat), x2]) nT)
              have d2 : Dt K (upd H' T0 (.tup [.int (i : Nat), x2])) x2 dy := Dt.same s2 dy _ f2
              have no : rowOk k (i : Int) dy = false → ∀ H3, Same H H3 → Q (.bl false) H3 := fun r H3 s3 => by
                have q' := q H3 s3
                rw [comp_false f1 r] at q'
                exact q'
              refine ⟨T0, [.int (i : Nat), x2], rfl, SqT.of upd_same, rfl, _, _, rfl, _, _, rfl, rfl, ?_⟩
              refine ⟨_, rfl, _, _, _, _, _, rfl, .ty "list", d2.ty, kit_list dy, _, rfl, ?_⟩
              by_cases ee : ∃ es, dy = .list es
              · obtain ⟨es, rfl⟩ := ee
                cases d2 with
                | @lst b ys _ hb ht =>
                  have hl2 := ht.length
                  refine iteF ⟨_, rfl, b, ys, rfl, .inl (SqL.of hb), _, rfl, rfl, _, rfl, ?_⟩
                  rw [hl2]
                  by_cases c3 : (es.length : Int) = (i : Int)
                  · refine iteNS (congrArg V.int c3) ?_
                    refine ⟨_, rfl, b, rfl, ⟨_, SqL.of hb⟩, fun D hD => ?_⟩
                    refine lc_list (K := K) (a := b) (xs := ys) (fun j H5 => Same (upd H' T0 (.tup [.int (i : Nat), .ref b])) H5 ∧ ∃ acc : List V, H5 D = some (.lst acc) ∧ acc.length ≤ j ∧ (acc.isEmpty = (es.take j).all (below k)))
                      ⟨same_new hD, [], upd_same, Nat.le_refl _, rfl⟩ (fun j H5 _ z => (z.1).seq (SqL.of hb)) ?_ ?_
                    · rintro j y H5 hj ⟨s5, acc, h5, l5, q5⟩
                      obtain ⟨di, g1, g2⟩ := ht.get hj
                      have g3 : Dt K H5 y di := Dt.same s5 di _ g2
                      have jl : j < es.length := (List.getElem?_eq_some_iff.mp g1).1
                      have bad : below k di = false → ∃ ac, H5 D = some (.lst ac) ∧ ac.length < sizeLine ∧ Same (upd H' T0 (.tup [.int (i : Nat), .ref b])) (upd H5 D (.lst (ac ++ [y]))) ∧
                          ∃ acc : List V, (upd H5 D (.lst (ac ++ [y]))) D = some (.lst acc) ∧ acc.length ≤ j + 1 ∧ (acc.isEmpty = (es.take (j + 1)).all (below k)) := fun z => by
                        refine ⟨acc, h5, small1000 (by omega), fun b' o' e' => ?_, acc ++ [y], upd_same, ?_, ?_⟩
                        · rw [upd_ne (ne_of_none e' hD)]
                          exact s5 b' o' e'
                        · rw [List.length_append]
                          show acc.length + 1 ≤ j + 1
                          omega
                        · rw [all_take g1, z, Bool.and_false]
                          cases acc <;> rfl
                      have good : below k di = true → Same (upd H' T0 (.tup [.int (i : Nat), .ref b])) H5 ∧ ∃ acc : List V, H5 D = some (.lst acc) ∧ acc.length ≤ j + 1 ∧ (acc.isEmpty = (es.take (j + 1)).all (below k)) := fun z =>
                        ⟨s5, acc, h5, by omega, by rw [all_take g1, z, Bool.and_true]; exact q5⟩
                      refine ⟨rfl, _, rfl, _, di, rfl, g3, _, rfl, ?_⟩
                      rcases below_split k di with ⟨z, rfl, w1, b1⟩ | ⟨w1, b1⟩
                      · rw [w1]
                        cases g3
                        refine iteF ⟨_, rfl, _, _, rfl, rfl, _, rfl, ?_⟩
                        cases c0 : decide ((0 : Int) ≤ z) with
                        | true =>
                          refine iteT ⟨_, rfl, _, _, rfl, rfl, _, rfl, ?_⟩
                          rw [c0, Bool.true_and] at b1
                          cases ck : decide (z < k) with
                          | true =>
                            rw [ck] at b1
                            exact iteF (good b1)
                          | false =>
                            rw [ck] at b1
                            exact iteT ⟨_, rfl, bad b1⟩
                        | false =>
                          rw [c0, Bool.false_and] at b1
                          exact iteF ⟨_, rfl, iteT ⟨_, rfl, bad b1⟩⟩
                      · rw [w1]
                        exact iteT (iteT ⟨_, rfl, bad b1⟩)
                    · rintro H5 ⟨s5, acc, h5, l5, q5⟩
                      rw [hl2, List.take_length] at q5
                      refine ⟨Nat.zero_le _, fun p2 hp2 => ?_⟩
                      have s6 := s2.trans (s5.trans (same_new (o := .lst []) hp2))
                      have h6 : (upd H5 p2 (.lst [])) D = some (.lst acc) := by
                        rw [upd_ne (ne_of_none h5 hp2)]
                        exact h5
                      refine ⟨D, p2, acc, rfl, rfl, SqL.of h6, SqL.of upd_same, _, rfl, ?_⟩
                      rw [q5]
                      have rk : rowOk k (i : Int) (.list es) = es.all (below k) := by
                        show (decide ((es.length : Int) = (i : Int)) && es.all (below k)) = _
                        rw [decide_eq_true c3, Bool.true_and]
                      cases ea : es.all (below k) with
                      | true =>
                        refine iteF ⟨_, _, rfl, s6, fun j d hj hd => ?_⟩
                        by_cases ji : j < i
                        · exact done j d ji hd
                        · have : j = i := by omega
                          subst this
                          rw [f1] at hd
                          cases hd
                          rw [rk]
                          exact ea
                      | false => exact iteT (no (by rw [rk]; exact ea) _ s6)
                  · have z : (!decide (V.int (es.length : Int) = V.int (i : Int))) = true := by
                      rw [decide_eq_false fun z => c3 (V.int.inj z)]
                      rfl
                    rw [z]
                    refine iteT (no ?_ _ s2)
                    show (decide ((es.length : Int) = (i : Int)) && es.all (below k)) = false
                    rw [decide_eq_false c3, Bool.false_and]
              · have z : isList dy = false ∧ rowOk k (i : Int) dy = false := by
                  cases dy with
                  | list es => exact (ee ⟨es, rfl⟩).elim
                  | _ => exact ⟨rfl, rfl⟩
                rw [z.1]
                exact iteT (iteT (no z.2 _ s2))
            · rintro σ H' ⟨p0, r0, rfl, s1, done⟩
              have z : compOk k (.list ds) = true := by
                show ((decide (1 ≤ ds.length) && decide (ds.length ≤ 40)) && rowsOk k 0 ds) = true
                rw [decide_eq_true (by omega : 1 ≤ ds.length), decide_eq_true (by omega : ds.length ≤ 40), (rows_get (k := k) 0).mpr fun j d hd => by
                  rw [Nat.zero_add]
                  exact done j d (by rw [hl]; exact (List.getElem?_eq_some_iff.mp hd).1) hd]
                rfl
              have q' := q _ s1
              rw [z] at q'
              exact q'
          · rw [decide_eq_false c2]
            refine iteT ?_
            have z : compOk k (.list ds) = false := by
              show ((decide (1 ≤ ds.length) && decide (ds.length ≤ 40)) && rowsOk k 0 ds) = _
              rw [decide_eq_false (by omega : ¬ ds.length ≤ 40), Bool.and_false, Bool.false_and]
            have q' := q _ (Same.refl _)
            rw [z] at q'
            exact q'
        · rw [decide_eq_false c1]
          refine iteF ⟨_, rfl, iteT ?_⟩
          have z : compOk k (.list ds) = false := by
            show ((decide (1 ≤ ds.length) && decide (ds.length ≤ 40)) && rowsOk k 0 ds) = _
            rw [decide_eq_false (by omega : ¬ 1 ≤ ds.length), Bool.false_and, Bool.false_and]
          have q' := q _ (Same.refl _)
          rw [z] at q'
          exact q'
    · have z : isList d = false ∧ compOk k d = false := by
        cases d with
        | list ds => exact (e ⟨ds, rfl⟩).elim
        | _ => exact ⟨rfl, rfl⟩
      rw [z.1]
      refine iteT (iteT ?_)
      have q' := q _ (Same.refl _)
      rw [z.2] at q'
      exact q'
end
end K1

namespace K1
open PySem PySem.Spec PyProof.Rows L2 GL
theorem Dts.of {K : PySem.W.Frag} {H : Hp} : ∀ {vs : List V} {ds : List PyData}, vs.length = ds.length → (∀ (i : Nat) v d, vs[i]? = some v → ds[i]? = some d → Dt K H v d) → Dts K H vs ds
  | [], [], _, _ => .nil
  | [], _ :: _, l, _ => by simp at l
  | _ :: _, [], l, _ => by simp at l
  | v :: vs, d :: ds, l, h => .cons (h 0 v d rfl rfl) (Dts.of (by simpa using l) fun i x y a b => h (i + 1) x y a b)
theorem dts_ints {K : PySem.W.Frag} {H : Hp} : ∀ ks : List Int, Dts K H (ks.map V.int) (ks.map PyData.int)
  | [] => .nil
  | k :: ks => .cons (.int k) (dts_ints ks)
/-- the datum of a list of numbers -/
def rowD (ks : List Int) : PyData := .list (ks.map PyData.int)
/-- what is tracked, but for g and d -/
def hid2 (H : Hp) (g d : Addr) : Hp := fun b => if b = g ∨ b = d then none else H b
theorem hid2_at {H : Hp} {g d a : Addr} {o : HO} (h : H a = some o) (h1 : a ≠ g) (h2 : a ≠ d) : hid2 H g d a = some o := by
  unfold hid2
  rw [if_neg (fun z => z.elim h1 h2)]
  exact h
theorem of_hid2 {H : Hp} {g d a : Addr} {o : HO} (h : hid2 H g d a = some o) : H a = some o ∧ a ≠ g ∧ a ≠ d := by
  unfold hid2 at h
  by_cases c : a = g ∨ a = d
  · rw [if_pos c] at h
    cases h
  · rw [if_neg c] at h
    exact ⟨h, fun z => c (.inl z), fun z => c (.inr z)⟩
/-- all that was tracked but g and d is as it was -/
def But2 (g d : Addr) (H H' : Hp) : Prop := ∀ b o, H b = some o → b ≠ g → b ≠ d → H' b = some o
theorem But2.hid {g d : Addr} {H H' : Hp} (b : But2 g d H H') : Same (hid2 H g d) (hid2 H' g d) := fun a o e => by
  obtain ⟨h, h1, h2⟩ := of_hid2 e
  exact hid2_at (b a o h h1 h2) h1 h2
theorem But2.trans {g d : Addr} {H H1 H2 : Hp} (a : But2 g d H H1) (b : But2 g d H1 H2) : But2 g d H H2 := fun c o e n1 n2 => b c o (a c o e n1 n2) n1 n2
theorem But2.of {g d : Addr} {H H' : Hp} (s : Same H H') : But2 g d H H' := fun b o e _ _ => s b o e
theorem But2.but {g d : Addr} {H H' : Hp} (s : But g H H') : But2 g d H H' := fun b o e n _ => s b o e n
theorem But2.put {g d : Addr} {H : Hp} {o : HO} : But2 g d H (upd H d o) := fun b o' e _ n => by rw [upd_ne n]; exact e
theorem But2.dts {K : PySem.W.Frag} {g d : Addr} {H H' : Hp} (b : But2 g d H H') {vs : List V} {ds : List PyData} (h : Dts K (hid2 H g d) vs ds) : Dts K (hid2 H' g d) vs ds := Dts.same b.hid ds vs h
theorem hid2_hid {H : Hp} {g d : Addr} : Same (hid2 H g d) H := fun a o e => (of_hid2 e).1
/-- the reading of a comprehension over the lists of a table, each of which gives a new thing -/
theorem comp_rowsI {K : PySem.W.Frag} {te : TE} {σ : L2.St} {H : Hp} {Q : VK} {ti : TE} {rs : List Addr} {kss : List (List Int)} {v : Nat} {ob : List Int → HO} (short : kss.length ≤ 100) (hi : ∀ R : VK, (∀ (c : Addr) (H1 : Hp), Same H H1 → Tab H1 c rs kss → R (.ref c) H1) → ti σ H R)
    (el : ∀ (r : Addr) (ks : List Int) (H5 : Hp) (Q' : VK), H5 r = some (.lst (ks.map V.int)) → ks ∈ kss → (∀ p H6, Same H5 H6 → H5 p = none → H6 p = some (ob ks) → Q' (.ref p) H6) → te ((wipe σ [v]).set v (some (.ref r))) H5 Q')
    (hw : ∀ x, wipe ((wipe σ [v]).set v (some x)) [v] = wipe σ [v])
    (fin : ∀ (D : Addr) (H' : Hp) (ps : List Addr), H D = none → Same H H' → H' D = some (.lst (ps.map V.ref)) → ps.length = kss.length → (∀ (i : Nat) p ks, ps[i]? = some p → kss[i]? = some ks → H' p = some (ob ks)) → ps.Nodup → D ∉ ps → (∀ p ∈ ps, H p = none) → Q (.ref D) H') :
    tLc (iList K ti) (gName v) tYes te [v] σ H Q := by
  refine hi _ fun c H1 s0 t => ⟨c, rfl, ⟨_, SqL.of t.top⟩, fun D hD => ?_⟩
  have lr : (rs.map V.ref).length = kss.length := by rw [List.length_map, t.len]
  refine lc_list (K := K) (a := c) (xs := rs.map V.ref) (fun i H' => Same H1 H' ∧ ∃ ps : List Addr, H' D = some (.lst (ps.map V.ref)) ∧ ps.length = i ∧ (∀ (j : Nat) p ks, ps[j]? = some p → kss[j]? = some ks → H' p = some (ob ks)) ∧ ps.Nodup ∧ D ∉ ps ∧ (∀ p ∈ ps, H1 p = none) ∧ ∀ p ∈ ps, ∃ o, H' p = some o)
    ⟨same_new hD, [], upd_same, rfl, by simp, List.nodup_nil, by simp, by simp, by simp⟩ (fun i H' _ z => SqL.of (z.1 _ _ t.top)) ?_ ?_
  · rintro i y H' hj ⟨s1, ps, h1, l1, at1, nd, nD, fr, tr⟩
    rw [List.getElem?_map] at hj
    have il : i < kss.length := by
      have := (List.getElem?_eq_some_iff.mp (show (rs.map V.ref)[i]? = some y by rw [List.getElem?_map]; exact hj)).1
      omega
    obtain ⟨r, ks, a1, a2, a3⟩ := t.at il
    rw [a1] at hj
    cases hj
    refine ⟨hw _, yes_of ?_⟩
    refine el r ks H' _ (s1 _ _ a3) (List.mem_of_getElem? a2) fun p H6 s6 np h6 => ⟨_, s6 _ _ h1, ?_, fun b o e => ?_, ps ++ [p], ?_, ?_, ?_, ?_, ?_, ?_, ?_⟩
    · rw [List.length_map]
      exact small1000 (by omega)
    · rw [upd_ne (ne_of_none e hD)]
      exact s6 b o (s1 b o e)
    · rw [upd_same, List.map_append]
      rfl
    · rw [List.length_append, l1]
      rfl
    · intro j q ks' e1 e2
      have qD : q ≠ D := by
        by_cases jl : j < ps.length
        · rw [List.getElem?_append_left jl] at e1
          exact fun z => nD (by rw [← z]; exact List.mem_of_getElem? e1)
        · rw [List.getElem?_append_right (by omega)] at e1
          have : q = p := by
            have j0 : j - ps.length = 0 := by
              have := (List.getElem?_eq_some_iff.mp e1).1
              simp at this
              omega
            rw [j0] at e1
            cases e1
            rfl
          rw [this]
          exact (ne_of_none h1 np).symm
      rw [upd_ne qD]
      by_cases jl : j < ps.length
      · rw [List.getElem?_append_left jl] at e1
        exact s6 _ _ (at1 j q ks' e1 e2)
      · rw [List.getElem?_append_right (by omega)] at e1
        have j0 : j - ps.length = 0 := by
          have := (List.getElem?_eq_some_iff.mp e1).1
          simp at this
          omega
        rw [j0] at e1
        cases e1
        have ji : j = i := by omega
        rw [ji, a2] at e2
        cases e2
        exact h6
    · rw [List.nodup_append]
      refine ⟨nd, by simp, fun a ha b hb => ?_⟩
      rw [List.mem_singleton] at hb
      subst hb
      obtain ⟨o, e⟩ := tr a ha
      exact ne_of_none e np
    · rw [List.mem_append, List.mem_singleton]
      rintro (z | z)
      · exact nD z
      · exact ne_of_none h1 np z
    · intro q hq
      rcases List.mem_append.mp hq with hq | hq
      · exact fr q hq
      · rw [List.mem_singleton] at hq
        subst hq
        exact s1.free np
    · intro q hq
      rcases List.mem_append.mp hq with hq | hq
      · obtain ⟨o, e⟩ := tr q hq
        have qD : q ≠ D := fun z => nD (by rw [← z]; exact hq)
        exact ⟨o, by rw [upd_ne qD]; exact s6 _ _ e⟩
      · rw [List.mem_singleton] at hq
        subst hq
        exact ⟨_, by rw [upd_ne (ne_of_none h1 np).symm]; exact h6⟩
  · rintro H' ⟨s1, ps, h1, l1, at1, nd, nD, fr, tr⟩
    exact fin D H' ps (s0.free hD) (s0.trans s1) h1 (by omega) at1 nd nD fun p hp => s0.free (fr p hp)
theorem comp_rows {K : PySem.W.Frag} {te : TE} {σ : L2.St} {H : Hp} {Q : VK} {c : Addr} {rs : List Addr} {kss : List (List Int)} {u v : Nat} {ob : List Int → HO} (t : Tab H c rs kss) (short : kss.length ≤ 100) (hσ : σ[u]? = some (some (.ref c)))
    (el : ∀ (r : Addr) (ks : List Int) (H5 : Hp) (Q' : VK), H5 r = some (.lst (ks.map V.int)) → ks ∈ kss → (∀ p H6, Same H5 H6 → H5 p = none → H6 p = some (ob ks) → Q' (.ref p) H6) → te ((wipe σ [v]).set v (some (.ref r))) H5 Q')
    (hw : ∀ x, wipe ((wipe σ [v]).set v (some x)) [v] = wipe σ [v])
    (fin : ∀ (D : Addr) (H' : Hp) (ps : List Addr), H D = none → Same H H' → H' D = some (.lst (ps.map V.ref)) → ps.length = kss.length → (∀ (i : Nat) p ks, ps[i]? = some p → kss[i]? = some ks → H' p = some (ob ks)) → ps.Nodup → D ∉ ps → (∀ p ∈ ps, H p = none) → Q (.ref D) H') :
    tLc (iList K (tVar u)) (gName v) tYes te [v] σ H Q := comp_rowsI (ti := tVar u) (rs := rs) (ob := ob) short (fun R k => ⟨_, hσ, k c H (Same.refl _) t⟩) el hw fin
end K1

namespace K1
open PySem PySem.Spec PyProof.Rows L2 GL
/-! ### values and their data, gathered -/
structure DD (K : PySem.W.Frag) (H : Hp) (g d : Addr) (xs : List V) (ds : List PyData) : Prop where
  dts : Dts K (hid2 H g d) xs ds
  nice : ∀ e ∈ ds, Nice 3 e
theorem DD.mono {K : PySem.W.Frag} {H H' : Hp} {g d : Addr} {xs : List V} {ds : List PyData} (h : DD K H g d xs ds) (b : But2 g d H H') : DD K H' g d xs ds := ⟨b.dts h.dts, h.nice⟩
theorem DD.add {K : PySem.W.Frag} {H H' : Hp} {g d : Addr} {xs : List V} {ds : List PyData} {v : V} {dv : PyData} (h : DD K H g d xs ds) (b : But2 g d H H') (n : Dt K (hid2 H' g d) v dv) (nn : Nice 3 dv) : DD K H' g d (xs ++ [v]) (ds ++ [dv]) :=
  ⟨(b.dts h.dts).append (.cons n .nil), fun e he => by
    rcases List.mem_append.mp he with he | he
    · exact h.nice e he
    · rw [List.mem_singleton] at he
      subst he
      exact nn⟩
theorem DD.nil {K : PySem.W.Frag} {H : Hp} {g d : Addr} : DD K H g d [] [] := ⟨.nil, by simp⟩
/-- a new thing d is set apart -/
theorem DD.apart {K : PySem.W.Frag} {H : Hp} {g d : Addr} {o : HO} {xs : List V} {ds : List PyData} (h : DD K H g g xs ds) (n : H d = none) : DD K (upd H d o) g d xs ds :=
  ⟨Dts.same (fun a u e => by
    obtain ⟨e1, e2, _⟩ := of_hid2 e
    exact hid2_at (by rw [upd_ne (ne_of_none e1 n)]; exact e1) e2 (ne_of_none e1 n)) ds xs h.dts, h.nice⟩
theorem gen (H : Hp) {p : Addr} (h : H p = none) (o : HO) : ∃ H', upd H p o = H' ∧ Same H H' ∧ H' p = some o := ⟨_, rfl, same_new h, upd_same⟩
theorem tab_dt {K : PySem.W.Frag} {H : Hp} {g d c : Addr} {rs : List Addr} {kss : List (List Int)} (t : Tab H c rs kss) (h1 : c ≠ g) (h2 : c ≠ d) (hr : ∀ r ∈ rs, r ≠ g ∧ r ≠ d) :
    Dts K (hid2 H g d) (rs.map V.ref) (kss.map rowD) ∧ Dt K (hid2 H g d) (.ref c) (.list (kss.map rowD)) := by
  have a : Dts K (hid2 H g d) (rs.map V.ref) (kss.map rowD) := Dts.of (by rw [List.length_map, List.length_map, t.len]) fun i v e hv he => by
    rw [List.getElem?_map] at hv he
    cases q1 : rs[i]? with
    | none =>
      rw [q1] at hv
      cases hv
    | some r =>
      cases q2 : kss[i]? with
      | none =>
        rw [q2] at he
        cases he
      | some ks =>
        rw [q1] at hv
        rw [q2] at he
        cases hv
        cases he
        obtain ⟨z1, z2⟩ := hr r (List.mem_of_getElem? q1)
        exact .lst (hid2_at (t.row i r ks q1 q2) z1 z2) (dts_ints ks)
  exact ⟨a, .lst (hid2_at t.top h1 h2) a⟩
def Small (ks : List Int) : Prop := ks.length ≤ 50 ∧ ∀ z ∈ ks, z.natAbs < 2 ^ 100
theorem Small.nice {ks : List Int} (h : Small ks) : Nice 1 (rowD ks) := Nice.list (by rw [List.length_map]; exact h.1) fun e he => by
  obtain ⟨z, hz, rfl⟩ := List.mem_map.mp he
  exact h.2 z hz
theorem small_rows {kss : List (List Int)} (l : kss.length ≤ 50) (h : ∀ ks ∈ kss, Small ks) : Nice 2 (.list (kss.map rowD)) := Nice.list (by rw [List.length_map]; exact l) fun e he => by
  obtain ⟨ks, hk, rfl⟩ := List.mem_map.mp he
  exact (h ks hk).nice
theorem Fine.small {kss : List (List Int)} (f : Fine kss) (l : kss.length ≤ 50) : ∀ ks ∈ kss, Small ks := fun ks hk => by
  obtain ⟨i, hi⟩ := List.getElem?_of_mem hk
  obtain ⟨a, b⟩ := f i ks hi
  have := (List.getElem?_eq_some_iff.mp hi).1
  refine ⟨by omega, fun z hz => ?_⟩
  have := b z hz
  have : z.natAbs < 10 := by omega
  exact Nat.lt_of_lt_of_le this (by decide)
theorem Tab.of {H : Hp} {D : Addr} {ps : List Addr} {kss : List (List Int)} {h : List Int → List Int} (f : H D = some (.lst (ps.map V.ref))) (l : ps.length = kss.length)
    (a : ∀ (i : Nat) p ks, ps[i]? = some p → kss[i]? = some ks → H p = some (.lst ((h ks).map V.int))) (nd : ps.Nodup) : Tab H D ps (kss.map h) := ⟨f, by rw [List.length_map]; exact l, fun i r ks e1 e2 => by
  rw [List.getElem?_map] at e2
  cases q : kss[i]? with
  | none =>
    rw [q] at e2
    cases e2
  | some ks' =>
    rw [q] at e2
    cases e2
    exact a i r ks' e1 q, nd⟩
theorem tups_dts {K : PySem.W.Frag} {H : Hp} {g d : Addr} {ps : List Addr} {kss : List (List Int)} (l : ps.length = kss.length) (a : ∀ (i : Nat) p ks, ps[i]? = some p → kss[i]? = some ks → H p = some (.tup (ks.map V.int))) (hp : ∀ p ∈ ps, p ≠ g ∧ p ≠ d) :
    Dts K (hid2 H g d) (ps.map V.ref) (kss.map fun ks => PyData.tuple (ks.map PyData.int)) := Dts.of (by rw [List.length_map, List.length_map, l]) fun i v e hv he => by
  rw [List.getElem?_map] at hv he
  cases q1 : ps[i]? with
  | none =>
    rw [q1] at hv
    cases hv
  | some p =>
    cases q2 : kss[i]? with
    | none =>
      rw [q2] at he
      cases he
    | some ks =>
      rw [q1] at hv
      rw [q2] at he
      cases hv
      cases he
      obtain ⟨z1, z2⟩ := hp p (List.mem_of_getElem? q1)
      exact .tup (hid2_at (a i p ks q1 q2) z1 z2) (dts_ints ks)
theorem tups_nice {kss : List (List Int)} (l : kss.length ≤ 50) (h : ∀ ks ∈ kss, Small ks) : Nice 2 (.list (kss.map fun ks => PyData.tuple (ks.map PyData.int))) := Nice.list (by rw [List.length_map]; exact l) fun e he => by
  obtain ⟨ks, hk, rfl⟩ := List.mem_map.mp he
  exact Nice.tuple (by rw [List.length_map]; exact (h ks hk).1) fun e he => by
    obtain ⟨z, hz, rfl⟩ := List.mem_map.mp he
    exact (h ks hk).2 z hz
theorem one_le : 1 ≤ sizeLine := by decide
theorem nice_one {n : Nat} {d : PyData} (h : Nice n d) : Nice (n + 1) (.list [d]) := Nice.list (by show 1 ≤ 50; decide) fun e he => by
  rw [List.mem_singleton] at he
  subst he
  exact h
theorem nice_two {n : Nat} {d e : PyData} (h : Nice n d) (h2 : Nice n e) : Nice (n + 1) (.list [d, e]) := Nice.list (by show 2 ≤ 50; decide) fun x hx => by
  rcases List.mem_cons.mp hx with hx | hx
  · subst hx
    exact h
  · rw [List.mem_singleton] at hx
    subst hx
    exact h2
theorem nice_nil {n : Nat} : Nice (n + 1) (.list []) := Nice.list (by show 0 ≤ 50; decide) (by simp)
theorem tab_cat {H : Hp} {D R z : Addr} {ps : List Addr} {kss : List (List Int)} {ks : List Int} (t : Tab H D ps kss) (f : H R = some (.lst (ps.map V.ref ++ [V.ref z]))) (hz : H z = some (.lst (ks.map V.int))) (nz : z ∉ ps) : Tab H R (ps ++ [z]) (kss ++ [ks]) := by
  refine ⟨by rw [f, List.map_append]; rfl, by rw [List.length_append, List.length_append, t.len]; rfl, fun i r ks' h1 h2 => ?_, ?_⟩
  · by_cases hi : i < ps.length
    · rw [List.getElem?_append_left hi] at h1
      rw [List.getElem?_append_left (by rw [← t.len]; exact hi)] at h2
      exact t.row i r ks' h1 h2
    · rw [List.getElem?_append_right (by omega)] at h1
      rw [List.getElem?_append_right (by rw [← t.len]; omega)] at h2
      have i0 : i - ps.length = 0 := by
        have := (List.getElem?_eq_some_iff.mp h1).1
        simp at this
        omega
      rw [i0] at h1
      rw [← t.len, i0] at h2
      cases h1
      cases h2
      exact hz
  · rw [List.nodup_append]
    refine ⟨t.nd, by simp, fun a ha b hb => ?_⟩
    rw [List.mem_singleton] at hb
    subst hb
    exact fun e => nz (by rw [← e]; exact ha)
theorem dts_set {K : PySem.W.Frag} {H : Hp} {vs : List V} {ds : List PyData} {j : Nat} {v : V} {d : PyData} (h : Dts K H vs ds) (hv : Dt K H v d) : Dts K H (vs.set j v) (ds.set j d) := by
  induction vs generalizing ds j with
  | nil =>
    cases h
    exact .nil
  | cons x vs ih =>
    cases h with
    | cons a b =>
      cases j with
      | zero => exact .cons hv b
      | succ j => exact .cons a (ih b)
/-- a table one item of which was put otherwise -/
theorem set_dt {K : PySem.W.Frag} {H H8 : Hp} {g d R r : Addr} {ps : List Addr} {kss : List (List Int)} {ks : List Int} {a j : Nat} {y : V} {e : PyData} (t : Tab H R ps kss) (h8 : upd H r (.lst ((ks.map V.int).set j y)) = H8) (hr : ps[a]? = some r) (hk : kss[a]? = some ks)
    (nR : R ∉ ps) (z1 : R ≠ g) (z2 : R ≠ d) (zs : ∀ p ∈ ps, p ≠ g ∧ p ≠ d) (dy : Dt K (hid2 H8 g d) y e) : Dt K (hid2 H8 g d) (.ref R) (.list ((kss.map rowD).set a (.list ((ks.map PyData.int).set j e)))) := by
  subst h8
  have rm : r ∈ ps := List.mem_of_getElem? hr
  have Rr : R ≠ r := fun z => nR (by rw [z]; exact rm)
  have e0 : (upd H r (.lst ((ks.map V.int).set j y))) R = some (.lst (ps.map V.ref)) := by rw [upd_ne Rr]; exact t.top
  refine .lst (hid2_at e0 z1 z2) (Dts.of (by rw [List.length_map, List.length_set, List.length_map, t.len]) fun i v x hv hx => ?_)
  rw [List.getElem?_map] at hv
  cases q1 : ps[i]? with
  | none =>
    rw [q1] at hv
    cases hv
  | some p =>
    rw [q1] at hv
    cases hv
    obtain ⟨w1, w2⟩ := zs p (List.mem_of_getElem? q1)
    by_cases ia : i = a
    · subst ia
      rw [hr] at q1
      cases q1
      rw [List.getElem?_set_self (by rw [List.length_map]; exact (List.getElem?_eq_some_iff.mp hk).1)] at hx
      cases hx
      exact .lst (hid2_at upd_same w1 w2) (dts_set (dts_ints ks) dy)
    · rw [List.getElem?_set_ne (fun z => ia z.symm), List.getElem?_map] at hx
      cases q2 : kss[i]? with
      | none =>
        rw [q2] at hx
        cases hx
      | some ks' =>
        rw [q2] at hx
        cases hx
        have pr : p ≠ r := fun z => ia (nd_ix t.nd q1 (by rw [z]; exact hr))
        exact .lst (hid2_at (by rw [upd_ne pr]; exact t.row i p ks' q1 q2) w1 w2) (dts_ints ks')
theorem nice_set {kss : List (List Int)} {ks : List Int} {a j : Nat} {e : PyData} (l : kss.length ≤ 50) (h : ∀ ks ∈ kss, Small ks) (hk : ks ∈ kss) (he : Nice 1 e) : Nice 3 (.list ((kss.map rowD).set a (.list ((ks.map PyData.int).set j e)))) := by
  refine Nice.list (by rw [List.length_set, List.length_map]; exact l) fun x hx => ?_
  rcases List.mem_or_eq_of_mem_set hx with hx | hx
  · obtain ⟨ks', hk', rfl⟩ := List.mem_map.mp hx
    exact (h ks' hk').nice.up
  · subst hx
    refine Nice.list (by rw [List.length_set, List.length_map]; exact (h ks hk).1) fun x hx => ?_
    rcases List.mem_or_eq_of_mem_set hx with hx | hx
    · obtain ⟨z, hz, rfl⟩ := List.mem_map.mp hx
      exact Nice.leaf ((h ks hk).2 z hz)
    · subst hx
      exact he
theorem nice_put {kss : List (List Int)} {a : Nat} {e : PyData} (l : kss.length ≤ 50) (h : ∀ ks ∈ kss, Small ks) (he : Nice 2 e) : Nice 3 (.list ((kss.map rowD).set a e)) := by
  refine Nice.list (by rw [List.length_set, List.length_map]; exact l) fun x hx => ?_
  rcases List.mem_or_eq_of_mem_set hx with hx | hx
  · obtain ⟨ks', hk', rfl⟩ := List.mem_map.mp hx
    exact (h ks' hk').nice.up
  · subst hx
    exact he
theorem small_zeros (m : Nat) (h : m ≤ 50) : Small (List.replicate m 0) := ⟨by rw [List.length_replicate]; exact h, fun z hz => by
  rw [List.eq_of_mem_replicate hz]
  decide⟩
theorem ix_in {j : Int} {n : Nat} (h0 : 0 ≤ j) (h1 : j < n) : ixN n j = some j.toNat := by
  unfold ixN
  rw [if_pos h0, if_pos h1]
theorem lists_dts {K : PySem.W.Frag} {H : Hp} {g d : Addr} {ps : List Addr} {kss : List (List Int)} (l : ps.length = kss.length) (a : ∀ (i : Nat) p ks, ps[i]? = some p → kss[i]? = some ks → H p = some (.lst (ks.map V.int))) (hp : ∀ p ∈ ps, p ≠ g ∧ p ≠ d) :
    Dts K (hid2 H g d) (ps.map V.ref) (kss.map rowD) := Dts.of (by rw [List.length_map, List.length_map, l]) fun i v e hv he => by
  rw [List.getElem?_map] at hv he
  cases q1 : ps[i]? with
  | none =>
    rw [q1] at hv
    cases hv
  | some p =>
    cases q2 : kss[i]? with
    | none =>
      rw [q2] at he
      cases he
    | some ks =>
      rw [q1] at hv
      rw [q2] at he
      cases hv
      cases he
      obtain ⟨z1, z2⟩ := hp p (List.mem_of_getElem? q1)
      exact .lst (hid2_at (a i p ks q1 q2) z1 z2) (dts_ints ks)
theorem dts_drop {K : PySem.W.Frag} {H : Hp} : ∀ {vs : List V} {ds : List PyData} (n : Nat), Dts K H vs ds → Dts K H (vs.drop n) (ds.drop n)
  | _, _, 0, h => h
  | _, _, _ + 1, .nil => .nil
  | _, _, n + 1, .cons _ b => dts_drop n b
theorem dts_rev {K : PySem.W.Frag} {H : Hp} : ∀ {vs : List V} {ds : List PyData}, Dts K H vs ds → Dts K H vs.reverse ds.reverse
  | _, _, .nil => .nil
  | _, _, .cons a b => by
    rw [List.reverse_cons, List.reverse_cons]
    exact (dts_rev b).append (.cons a .nil)
theorem cut_one (xs : List V) : cutV xs (some 1) none = xs.drop 1 := by
  unfold cutV
  rw [HT.sIx_none, show HT.sIx xs.length 0 (some 1) = min 1 xs.length from HT.sIx_nat xs.length 0 1]
  cases xs with
  | nil => rfl
  | cons x xs =>
    have e : min 1 (x :: xs).length = 1 := by
      rw [List.length_cons]
      omega
    rw [e]
    exact List.take_of_length_le (by rw [List.length_drop]; omega)
theorem DD.join {K : PySem.W.Frag} {H : Hp} {g d : Addr} {xs : List V} {ds : List PyData} (h : DD K H g d xs ds) : DD K H g g xs ds :=
  ⟨Dts.same (fun a u e => by
    obtain ⟨e1, e2, _⟩ := of_hid2 e
    exact hid2_at e1 e2 e2) ds xs h.dts, h.nice⟩
theorem nice_rows {rows : List PyData} (l : rows.length ≤ 50) (h : ∀ e ∈ rows, Nice 2 e) : Nice 3 (.list rows) := Nice.list l h
theorem gName_of {i : Nat} {v : V} {σ : L2.St} {H : Hp} {F : L2.St → Hp → Prop} (h : F (σ.set i (some v)) H) : gName i v σ H F := h
theorem tSeq_of {a b : TS} {D : Ends} {σ : L2.St} {H : Hp} (h : a { D with nx := fun σ' H' => b D σ' H' } σ H) : tSeq a b D σ H := h
theorem tAsg_of {t : TE} {g : TG} {D : Ends} {σ : L2.St} {H : Hp} (h : t σ H fun x H1 => g x σ H1 D.nx) : tAsg t g D σ H := h
theorem tOp_of {r : R2} {a b : TE} {σ : L2.St} {H : Hp} {Q : VK} (h : a σ H fun x H1 => b σ H1 fun y H2 => r x y H2 Q) : tOp r a b σ H Q := h
theorem tCons_of {t : TE} {u : TA} {σ : L2.St} {H : Hp} {Q : List V → Hp → Prop} (h : t σ H fun x H1 => u σ H1 fun xs H2 => Q (x :: xs) H2) : tCons t u σ H Q := h
theorem tLst_of {t : TA} {σ : L2.St} {H : Hp} {Q : VK} (h : t σ H fun xs H1 => xs.length ≤ sizeLine ∧ ∀ p, H1 p = none → Q (.ref p) (upd H1 p (.lst xs))) : tLst t σ H Q := h
abbrev sBent : Stmt := topS 27
def rTupL (K : PySem.W.Frag) : List V → Hp → VK → Prop := fun xs H Q => ∃ p ys, xs = [.ref p] ∧ SqL K H p ys ∧ ∀ l, H l = none → Q (.ref l) (upd H l (.tup ys))
def rLstL (K : PySem.W.Frag) : List V → Hp → VK → Prop := fun xs H Q => ∃ p ys, xs = [.ref p] ∧ SqL K H p ys ∧ ∀ l, H l = none → Q (.ref l) (upd H l (.lst ys))
theorem call_tupL {X : Cx} : CallR X (.type "tuple") (rTupL X.K) := fun pins s σ H xs us Q I r ⟨p, ys, e, a, b⟩ => call_tuple_of pins s σ H xs us Q I r ⟨p, ys, e, .inl ⟨a, b⟩⟩
theorem call_lstL {X : Cx} : CallR X (.type "list") (rLstL X.K) := fun pins s σ H xs us Q I r ⟨p, ys, e, a, b⟩ => call_list_of pins s σ H xs us Q I r ⟨p, ys, e, .inl a, b⟩
section
variable {P : Program} {w : World} {K : PySem.W.Frag} {mg : Str → Option Value} {base : Heap}
abbrev nBent : List Str := ["_law_generator_here", "_law_kinds", "_law_company_here", "_law_found", "_law_person", "_law_odd", "_law_rows", "_law_row"]
theorem scBent : FnScope nBent ["_law_generator_here", "_law_kinds", "_law_company_here"] (defScope sBent) := ⟨rfl, rfl, rfl, by decide +kernel, rfl, by decide +kernel, by decide +kernel⟩
def spBent (K : PySem.W.Frag) : Sp := fun vs H Q _ => ∃ (g c : Addr) (k : Int) (n : Nat) (rs : List Addr) (kss : List (List Int)), vs = [.ref g, .int k, .ref c] ∧ 2 ≤ k ∧ k ≤ 9 ∧ Gen H g (n + 200) ∧ Tab H c rs kss ∧ Fine kss ∧ 1 ≤ kss.length ∧ kss.length ≤ 40 ∧ c ≠ g ∧ (∀ r ∈ rs, r ≠ g) ∧
  ∀ (p : Addr) (H' : Hp) (xs : List V) (ds : List PyData), But g H H' → Gen H' g n → H' p = some (.lst xs) → p ≠ g → H p = none → xs.length ≤ 100 → DD K H' g g xs ds → Q (.ref p) H'
theorem ok_bent {f : Addr} {fd : FuncData} (F : Fun K "_law_bent" "_law_bent" sBent f fd) (T : Bi mg) (U : Use P w K mg base "_law_random" ["_law_generator_here", "_law_bound"] spRandom 2) : FnOk P w K mg base CX0 3 f fd ["_law_generator_here", "_law_kinds", "_law_company_here"] (spBent K) := by
  refine F.ok scBent (fun vs H Q E h => ?_) (fun cdv A outer s H vs Q E hr h => ?_)
  · obtain ⟨g, c, k, n, rs, kss, rfl, _⟩ := h
    rfl
  · obtain ⟨g, c, k, n, rs, kss, rfl, k2, k9, G, t, fine, m1, m40, cg, rg, q⟩ := h
    refine ⟨_, pss_cons (ps_set (i := 3) scBent.nd rfl (Or.inl rfl) (pe_lst (pa_cons pe_non (pa_cons (pe_lst pa_nil) (pa_cons (pe_lst (pa_cons (pe_lst pa_nil) pa_nil)) (pa_cons pe_dnewK (pa_cons pe_int (pa_cons pe_str (pa_cons (pe_tup (pa_cons (pe_lst pa_nil) pa_nil))
        (pa_cons (pe_callTy call_tupL (by rfl) T.tuple (by decide +kernel) (pa_cons (pv 2) pa_nil))
        (pa_cons (pe_lc (own := [("_law_row", 7)]) (g := gName 7) (tt := tYes) (te := tCB (rTupL K) (tCons (tVar 7) tNil)) rfl scBent.nd (pi_list (pv 2)) (blkOk_by (N := nBent) (sc := defScope sBent) (by decide +kernel)) (fun _ _ _ _ _ => pg_name (i := 7) scBent.nd rfl (Or.inl rfl)) (fun _ _ _ _ _ => pts_nil)
          (fun _ _ _ _ _ => pe_callTy call_tupL (by rfl) T.tuple (by decide +kernel) (pa_cons (pv 7) pa_nil)))
        (pa_cons (pe_lst (pa_cons (pv 2) pa_nil)) (pa_cons (pe_lst (pa_cons (pe_lst (pa_cons pe_int pa_nil)) pa_nil)) pa_nil)))))))))))))
      (pss_cons (ps_expr (pe_bm PySem.F.plainAttrs_list PySem.F.slot_list_append PySem.F.type_list_append mt_append (pv 3) (pa_cons (pe_lst (pa_cons (pe_lst pa_nil) (pa_cons (pe_lst pa_nil) pa_nil))) pa_nil)))
      (pss_cons (ps_set (i := 4) scBent.nd rfl (Or.inl rfl) (pe_use U hr (by rfl) (pa_cons (pv 0) (pa_cons (pe_callB call_len_seq (by rfl) T.len PySem.boot_len (pa_cons (pv 2) pa_nil)) pa_nil))))
      (pss_cons (ps_for PassesOwn.never rfl (pi_list (pe_lst (pa_cons pe_non (pa_cons pe_bl (pa_cons pe_bl (pa_cons pe_str (pa_cons (pe_lst (pa_cons pe_int pa_nil)) (pa_cons (pe_tup (pa_cons pe_int pa_nil)) (pa_cons (pv 1) (pa_cons (pe_op op_sub pe_int pe_int) (pa_cons (pe_op op_sub (pv 1) pe_int)
            (pa_cons (pe_op op_pow pe_int pe_int) (pa_cons pe_dnewK pa_nil))))))))))))) (pg_name (i := 5) scBent.nd rfl (Or.inl rfl))
        (pss_cons (ps_set (i := 6) scBent.nd rfl (Or.inl rfl) (pe_op op_cat (pe_lc (own := [("_law_row", 7)]) (g := gName 7) (tt := tYes) (te := tCB (rLstL K) (tCons (tVar 7) tNil)) rfl scBent.nd (pi_list (pv 2)) (blkOk_by (N := nBent) (sc := defScope sBent) (by decide +kernel)) (fun _ _ _ _ _ => pg_name (i := 7) scBent.nd rfl (Or.inl rfl)) (fun _ _ _ _ _ => pts_nil)
            (fun _ _ _ _ _ => pe_callTy call_lstL (by rfl) T.list PyProof.Rows.boot_list (pa_cons (pv 7) pa_nil))) (pe_lst (pa_cons (pe_op op_rep (pe_lst (pa_cons pe_int pa_nil)) (pe_callB call_len_seq (by rfl) T.len PySem.boot_len (pa_cons (pv 2) pa_nil))) pa_nil))))
        (pss_cons (ps_asg (pv 5) (pg_sub (pe_ix ix_list (pv 6) (pe_op op_add (pv 4) pe_int) (fun _ _ => rfl)) (pe_use U hr (by rfl) (pa_cons (pv 0) (pa_cons (pe_op op_add (pv 4) pe_int) pa_nil))) set_list))
        (pss_one (ps_expr (pe_bm PySem.F.plainAttrs_list PySem.F.slot_list_append PySem.F.type_list_append mt_append (pv 3) (pa_cons (pv 6) pa_nil)))))))
      (pss_cons (ps_for PassesOwn.never rfl (pi_list (pe_lst (pa_cons pe_non (pa_cons (pe_tup pa_nil) (pa_cons pe_int (pa_cons pe_str (pa_cons (pe_op op_rep (pe_lst (pa_cons pe_int pa_nil)) (pe_op op_add (pv 4) pe_int)) (pa_cons pe_dnewK pa_nil)))))))) (pg_name (i := 5) scBent.nd rfl (Or.inl rfl))
        (pss_cons (ps_setLc (i := 6) (own := [("_law_row", 7)]) (g := gName 7) (tt := tYes) (te := tCB (rLstL K) (tCons (tVar 7) tNil)) rfl scBent.nd rfl rfl (sw_true rfl rfl rfl (by decide +kernel)) (pi_list (pv 2)) (blkOk_by (N := nBent) (sc := defScope sBent) (by decide +kernel)) (fun _ _ _ _ _ => pg_name (i := 7) scBent.nd rfl (Or.inl rfl)) (fun _ _ _ _ _ => pts_nil)
            (fun _ _ _ _ _ => pe_callTy call_lstL (by rfl) T.list PyProof.Rows.boot_list (pa_cons (pv 7) pa_nil)))
        (pss_cons (ps_asg (pv 5) (pg_sub (pv 6) (pv 4) set_list))
        (pss_one (ps_expr (pe_bm PySem.F.plainAttrs_list PySem.F.slot_list_append PySem.F.type_list_append mt_append (pv 3) (pa_cons (pv 6) pa_nil)))))))
      (pss_cons (ps_set (i := 3) scBent.nd rfl (Or.inl rfl) (pe_op op_cat (pv 3) (pe_lst (pa_cons (pe_op op_cat (pv 2) (pe_lst (pa_cons (pe_op op_rep (pe_lst (pa_cons pe_int pa_nil)) (pe_callB call_len_seq (by rfl) T.len PySem.boot_len (pa_cons (pv 2) pa_nil))) pa_nil)))
          (pa_cons (pe_slice sl_list (pv 2) (po_some pe_int) po_none) (pa_cons (pe_revB (pv 2)) (pa_cons (pe_op op_cat (pv 2) (pe_lst (pa_cons (pe_lst (pa_cons pe_int pa_nil)) pa_nil))) pa_nil)))))))
      (pss_one (ps_ret (pe_op op_cat (pv 3) (pe_lst (pa_cons (pe_lc (own := [("_law_row", 7)]) (g := gName 7) (tt := tYes) rfl scBent.nd (pi_list (pv 2)) (blkOk_by (N := nBent) (sc := defScope sBent) (by decide +kernel)) (fun _ _ _ _ _ => pg_name (i := 7) scBent.nd rfl (Or.inl rfl)) (fun _ _ _ _ _ => pts_nil)
          (fun _ _ _ _ _ => by exact (pe_op op_cat (pv 7) (pe_lst (pa_cons pe_int pa_nil))))) pa_nil)))))))))), ?_⟩
    have small := fine.small (by omega : kss.length ≤ 50)
    have D0 : DD K H g g [.non] [.none] := DD.nil.add (.of (Same.refl _)) .non (Nice.leaf trivial)
    refine ⟨Nat.zero_le _, fun a1 n1 => ?_⟩
    obtain ⟨H1, e1, s1, f1⟩ := gen H n1 (.lst [])
    rw [e1]
    clear e1
    have z1 : a1 ≠ g := (G.ne n1).symm
    have D1 := D0.add (.of s1) (.lst (hid2_at f1 z1 z1) .nil) nice_nil
    refine ⟨Nat.zero_le _, fun a2 n2 => ?_⟩
    obtain ⟨H2, e2, s2, f2⟩ := gen H1 n2 (.lst [])
    rw [e2]
    clear e2
    have S2 := s1.trans s2
    have z2 : a2 ≠ g := ((G.same s1).ne n2).symm
    refine ⟨one_le, fun a3 n3 => ?_⟩
    obtain ⟨H3, e3, s3, f3⟩ := gen H2 n3 (.lst [.ref a2])
    rw [e3]
    clear e3
    have S3 := S2.trans s3
    have z3 : a3 ≠ g := ((G.same S2).ne n3).symm
    have D3 := D1.add (.of (s2.trans s3)) (.lst (hid2_at f3 z3 z3) (.cons (.lst (hid2_at (s3 _ _ f2) z2 z2) .nil) .nil)) (nice_one nice_nil)
    intro a4 n4
    obtain ⟨H4, e4, s4, f4⟩ := gen H3 n4 (.dK [])
    rw [e4]
    clear e4
    have S4 := S3.trans s4
    have z4 : a4 ≠ g := ((G.same S3).ne n4).symm
    have D4 := ((D3.add (.of s4) (.dct (hid2_at f4 z4 z4)) (Nice.leaf rfl)).add (.of (Same.refl _)) (.int 7) (Nice.leaf (by show (7 : Int).natAbs < 2 ^ 100; decide))).add (.of (Same.refl _)) (.str "2:") (Nice.leaf (by show (reprText "2:").length ≤ 110; decide +kernel))
    refine ⟨Nat.zero_le _, fun a5 n5 => ?_⟩
    obtain ⟨H5, e5, s5, f5⟩ := gen H4 n5 (.lst [])
    rw [e5]
    clear e5
    have S5 := S4.trans s5
    have z5 : a5 ≠ g := ((G.same S4).ne n5).symm
    refine ⟨one_le, fun a6 n6 => ?_⟩
    obtain ⟨H6, e6, s6, f6⟩ := gen H5 n6 (.tup [.ref a5])
    rw [e6]
    clear e6
    have S6 := S5.trans s6
    have z6 : a6 ≠ g := ((G.same S5).ne n6).symm
    have D6 := D4.add (.of (s5.trans s6)) (.tup (hid2_at f6 z6 z6) (.cons (.lst (hid2_at (s6 _ _ f5) z5 z5) .nil) .nil)) (Nice.tuple (n := 2) (by show 1 ≤ 50; decide) fun e he => by
      rw [List.mem_singleton] at he
      subst he
      exact nice_nil)
    have t6 := t.same S6
    refine ⟨_, rfl, c, _, rfl, SqL.of t6.top, fun a7 n7 => ?_⟩
    obtain ⟨H7, e7, s7, f7⟩ := gen H6 n7 (.tup (rs.map V.ref))
    rw [e7]
    clear e7
    have S7 := S6.trans s7
    have z7 : a7 ≠ g := ((G.same S6).ne n7).symm
    have t7 := t.same S7
    have cd7 := tab_dt (K := K) (d := g) t7 cg cg fun r hr => ⟨rg r hr, rg r hr⟩
    have D7 := D6.add (.of s7) (.tup (hid2_at f7 z7 z7) cd7.1) (Nice.tuple (n := 2) (by rw [List.length_map]; omega) fun e he => by
      obtain ⟨ks, hk, rfl⟩ := List.mem_map.mp he
      exact (small ks hk).nice.up)
    refine comp_rows (K := K) (u := 2) (v := 7) (ob := fun ks => .tup (ks.map V.int)) t7 (by omega) rfl ?_ (fun x => rfl) ?_
    · intro r ks H5' Q' hr _ k'
      exact ⟨_, rfl, r, _, rfl, SqL.of hr, fun p np => k' p _ (same_new np) np upd_same⟩
    intro a8 H8 ps8 n8 s8 f8 l8 at8 nd8 nD8 fr8
    have S8 := S7.trans s8
    have z8 : a8 ≠ g := ((G.same S7).ne n8).symm
    have p8 : ∀ p ∈ ps8, p ≠ g ∧ p ≠ g := fun p hp => ⟨((G.same S7).ne (fr8 p hp)).symm, ((G.same S7).ne (fr8 p hp)).symm⟩
    have D8 := D7.add (.of s8) (.lst (hid2_at f8 z8 z8) (tups_dts l8 at8 p8)) (tups_nice (by omega) small).up
    refine ⟨_, rfl, one_le, fun a9 n9 => ?_⟩
    obtain ⟨H9, e9, s9, f9⟩ := gen H8 n9 (.lst [.ref c])
    rw [e9]
    clear e9
    have S9 := S8.trans s9
    have z9 : a9 ≠ g := ((G.same S8).ne n9).symm
    have cd9 := tab_dt (K := K) (d := g) (t.same S9) cg cg fun r hr => ⟨rg r hr, rg r hr⟩
    have D9 := D8.add (.of s9) (.lst (hid2_at f9 z9 z9) (.cons cd9.2 .nil)) (nice_one (small_rows (by omega) small))
    refine ⟨one_le, fun a10 n10 => ?_⟩
    obtain ⟨H10, e10, s10, f10⟩ := gen H9 n10 (.lst [.int 0])
    rw [e10]
    clear e10
    have S10 := S9.trans s10
    have z10 : a10 ≠ g := ((G.same S9).ne n10).symm
    refine ⟨one_le, fun a11 n11 => ?_⟩
    obtain ⟨H11, e11, s11, f11⟩ := gen H10 n11 (.lst [.ref a10])
    rw [e11]
    clear e11
    have S11 := S10.trans s11
    have z11 : a11 ≠ g := ((G.same S10).ne n11).symm
    have zero : Nice 0 (.int 0) := (by show (0 : Int).natAbs < 2 ^ 100; decide)
    have D11 := D9.add (.of (s10.trans s11)) (.lst (hid2_at f11 z11 z11) (.cons (.lst (hid2_at (s11 _ _ f10) z10 z10) (.cons (.int 0) .nil)) .nil)) (nice_one (nice_one zero)).up
    refine ⟨(by show 11 ≤ sizeLine; decide), fun d nd => ?_⟩
    have zd : d ≠ g := ((G.same S11).ne nd).symm
    have DA := D11.apart (o := .lst [V.non, V.ref a1, V.ref a3, V.ref a4, V.int 7, V.str "2:", V.ref a6, V.ref a7, V.ref a8, V.ref a9, V.ref a11]) nd
    obtain ⟨H12, e12, s12, f12⟩ := gen H11 nd (.lst [V.non, V.ref a1, V.ref a3, V.ref a4, V.int 7, V.str "2:", V.ref a6, V.ref a7, V.ref a8, V.ref a9, V.ref a11])
    rw [e12] at DA
    have S12 := S11.trans s12
    have nd0 : H d = none := S11.free nd
    have cd : c ≠ d := ne_of_none t.top nd0
    have rd : ∀ r ∈ rs, r ≠ d := fun r hr => by
      obtain ⟨i, hi⟩ := List.getElem?_of_mem hr
      have := (List.getElem?_eq_some_iff.mp hi).1
      exact ne_of_none (t.row i r _ hi (List.getElem?_eq_getElem (by rw [← t.len]; exact this))) nd0
    rw [e12]
    clear e12
    refine ⟨_, rfl, .inl ⟨rfl, _, SqL.of f12⟩, Nat.zero_le _, fun b1 m1 => ?_⟩
    obtain ⟨H13, e13, s13, f13⟩ := gen H12 m1 (.lst [])
    rw [e13]
    clear e13
    have w1 : b1 ≠ g ∧ b1 ≠ d := ⟨((G.same S12).ne m1).symm, (ne_of_none f12 m1).symm⟩
    refine ⟨Nat.zero_le _, fun b2 m2 => ?_⟩
    obtain ⟨H14, e14, s14, f14⟩ := gen H13 m2 (.lst [])
    rw [e14]
    clear e14
    have S14 := S12.trans (s13.trans s14)
    have w2 : b2 ≠ g ∧ b2 ≠ d := ⟨((G.same (S12.trans s13)).ne m2).symm, (ne_of_none (s13 _ _ f12) m2).symm⟩
    refine ⟨(by show 2 ≤ sizeLine; decide), fun b3 m3 => ?_⟩
    obtain ⟨H15, e15, s15, f15⟩ := gen H14 m3 (.lst [.ref b1, .ref b2])
    rw [e15]
    clear e15
    have S15 := S14.trans s15
    have w3 : b3 ≠ g ∧ b3 ≠ d := ⟨((G.same S14).ne m3).symm, (ne_of_none (s14 _ _ (s13 _ _ f12)) m3).symm⟩
    have DB := DA.add (.of (s13.trans (s14.trans s15))) (.lst (hid2_at f15 w3.1 w3.2) (.cons (.lst (hid2_at (s15 _ _ (s14 _ _ f13)) w1.1 w1.2) .nil) (.cons (.lst (hid2_at (s15 _ _ f14) w2.1 w2.2) .nil) .nil))) (nice_two nice_nil nice_nil).up
    refine ⟨d, _, _, rfl, rfl, s15 _ _ (s14 _ _ (s13 _ _ f12)), (by show 11 < sizeLine; decide), ?_⟩
    obtain ⟨H16, e16, u16, f16⟩ : ∃ H16, upd H15 d (.lst ([V.non, V.ref a1, V.ref a3, V.ref a4, V.int 7, V.str "2:", V.ref a6, V.ref a7, V.ref a8, V.ref a9, V.ref a11] ++ [V.ref b3])) = H16 ∧ But d H15 H16 ∧ H16 d = some (.lst ([V.non, V.ref a1, V.ref a3, V.ref a4, V.int 7, V.str "2:", V.ref a6, V.ref a7, V.ref a8, V.ref a9, V.ref a11] ++ [V.ref b3])) := ⟨_, rfl, But.put, upd_same⟩
    rw [e16]
    have G16 : Gen H16 g (n + 200) := by
      rw [← e16]
      exact (G.same S15).other zd
    clear e16
    have k16 : ∀ b o, H b = some o → b ≠ g → H16 b = some o := fun b o e _ => u16 b o (S15 b o e) (ne_of_none e nd0)
    have DC := DB.mono (H' := H16) fun b o e _ nb => u16 b o e nb
    have t16 : Tab H16 c rs kss := t.but (g := g) k16 cg fun z => rg g z rfl
    have lr : (rs.map V.ref).length = kss.length := by rw [List.length_map, t.len]
    -- person
    refine ⟨_, rfl, _, rfl, c, _, rfl, .inl (SqL.of t16.top), g, _, n + 195, rfl, by omega, by omega, G16, fun p0 H17 q0 q1 G17 b17 => ?_⟩
    obtain ⟨pn, rfl⟩ : ∃ pn : Nat, p0 = (pn : Int) := ⟨p0.toNat, by omega⟩
    have hpn : pn < kss.length := by omega
    have k17 : ∀ b o, H b = some o → b ≠ g → H17 b = some o := fun b o e nb => b17 b o (k16 b o e nb) nb
    have f17 := b17 _ _ f16 zd
    have DE := DC.mono (H' := H17) (But2.but b17)
    -- the odd things
    refine ⟨one_le, fun c1 y1 => ?_⟩
    obtain ⟨H18, e18, s18, f18⟩ := gen H17 y1 (.lst [.int 0])
    rw [e18]
    clear e18
    have x1 : c1 ≠ g ∧ c1 ≠ d := ⟨(G17.ne y1).symm, (ne_of_none f17 y1).symm⟩
    refine ⟨one_le, fun c2 y2 => ?_⟩
    obtain ⟨H19, e19, s19, f19⟩ := gen H18 y2 (.tup [.int 0])
    rw [e19]
    clear e19
    have x2 : c2 ≠ g ∧ c2 ≠ d := ⟨((G17.same s18).ne y2).symm, (ne_of_none (s18 _ _ f17) y2).symm⟩
    refine ⟨_, rfl, _, _, rfl, rfl, _, rfl, _, _, rfl, rfl, _, _, rfl, rfl, ⟨by decide, by decide, by decide⟩, fun c3 y3 => ?_⟩
    obtain ⟨H20, e20, s20, f20⟩ := gen H19 y3 (.dK [])
    rw [e20]
    clear e20
    have S20 := (s18.trans s19).trans s20
    have x3 : c3 ≠ g ∧ c3 ≠ d := ⟨((G17.same (s18.trans s19)).ne y3).symm, (ne_of_none (s19 _ _ (s18 _ _ f17)) y3).symm⟩
    refine ⟨(by show 11 ≤ sizeLine; decide), fun A nA => ?_⟩
    have xA : A ≠ g ∧ A ≠ d := ⟨((G17.same S20).ne nA).symm, (ne_of_none (S20 _ _ f17) nA).symm⟩
    have lk : ∀ {x : Int}, x.natAbs < 1000 → Nice 1 (.int x) := fun h => Nice.leaf (Nat.lt_of_lt_of_le h (by decide))
    obtain ⟨odds, oddD, eo, OD, ON⟩ : ∃ (odds : List V) (oddD : List PyData), [V.non, V.bl true, V.bl false, V.str "0", V.ref c1, V.ref c2, V.int k, V.int (0 - 1), V.int (k - 1), V.int (10 ^ (29 : Int).toNat), V.ref c3] = odds ∧ Dts K (hid2 H20 g d) odds oddD ∧ ∀ e ∈ oddD, Nice 1 e := by
      refine ⟨_, [.none, .bool true, .bool false, .str "0", .list [.int 0], .tuple [.int 0], .int k, .int (0 - 1), .int (k - 1), .int (10 ^ (29 : Int).toNat), .dict []], rfl, ?_, ?_⟩
      · exact .cons .non (.cons (.bl true) (.cons (.bl false) (.cons (.str "0") (.cons (.lst (hid2_at (s20 _ _ (s19 _ _ f18)) x1.1 x1.2) (.cons (.int 0) .nil)) (.cons (.tup (hid2_at (s20 _ _ f19) x2.1 x2.2) (.cons (.int 0) .nil)) (.cons (.int k) (.cons (.int (0 - 1)) (.cons (.int (k - 1)) (.cons (.int _) (.cons (.dct (hid2_at f20 x3.1 x3.2)) .nil))))))))))
      · intro e he
        simp only [List.mem_cons, List.not_mem_nil, or_false] at he
        rcases he with rfl | rfl | rfl | rfl | rfl | rfl | rfl | rfl | rfl | rfl | rfl
        · exact Nice.leaf trivial
        · exact Nice.leaf trivial
        · exact Nice.leaf trivial
        · exact Nice.leaf (by show (reprText "0").length ≤ 110; decide +kernel)
        · exact nice_one zero
        · exact Nice.tuple (n := 0) (by show 1 ≤ 50; decide) fun e he => by
            rw [List.mem_singleton] at he
            subst he
            exact zero
        · exact lk (by omega)
        · exact lk (by omega)
        · exact lk (by omega)
        · exact Nice.leaf (by show ((10 : Int) ^ (29 : Int).toNat).natAbs < 2 ^ 100; decide)
        · exact Nice.leaf rfl
    have lo : odds.length = 11 := by rw [← eo]; rfl
    refine ⟨A, rfl, ⟨_, SqL.of upd_same⟩, ?_⟩
    rw [eo]
    obtain ⟨H21, e21, s21, f21⟩ := gen H20 nA (.lst odds)
    rw [e21]
    clear e21
    have S21 := S20.trans s21
    have OD' := Dts.same (But2.of (g := g) (d := d) s21).hid _ _ OD
    have k21 : ∀ b o, H b = some o → b ≠ g → H21 b = some o := fun b o e nb => S21 b o (k17 b o e nb)
    have f21d := S21 _ _ f17
    have DF := DE.mono (H' := H21) (.of S21)
    refine for_list (K := K) (a := A) (xs := odds) (fun i σ H' => ∃ (po ro : Option V) (xs : List V) (ds : List PyData), σ = [some (.ref g), some (.int k), some (.ref c), some (.ref d), some (.int pn), po, ro, none] ∧ But2 g d H21 H' ∧ Gen H' g (n + 140 + 5 * (11 - i)) ∧
        H' d = some (.lst xs) ∧ DD K H' g d xs ds ∧ xs.length = 12 + i)
      ⟨none, none, _, _, rfl, .of (Same.refl _), (G17.same S21).less (by omega), f21d, DF, rfl⟩ (fun i σ H' _ z => by
        obtain ⟨_, _, _, _, _, b', _⟩ := z
        exact SqL.of (b' _ _ f21 xA.1 xA.2)) ?_ ?_
    · rintro i y σ H' hi ⟨po, ro, xs, ds, rfl, b', G', fd, DX, lx⟩
      have il : i < 11 := by rw [← lo]; exact (List.getElem?_eq_some_iff.mp hi).1
      obtain ⟨ey, oy1, oy2⟩ := OD'.get hi
      have ny := ON ey (List.mem_of_getElem? oy1)
      have oy3 : Dt K (hid2 H' g d) y ey := Dt.same b'.hid ey y oy2
      have t' : Tab H' c rs kss := t.but (g := g) (fun b o e nb => b' b o (k21 b o e nb) nb (ne_of_none e nd0)) cg fun z => rg g z rfl
      refine gName_of (tSeq_of (tAsg_of (tOp_of ?_)))
      refine comp_rows (K := K) (u := 2) (v := 7) (ob := fun ks => .lst (ks.map V.int)) t' (by omega) rfl ?_ ?_ ?_
      · intro r ks H5' Q' hr _ k'
        exact ⟨_, rfl, r, _, rfl, SqL.of hr, fun p np => k' p _ (same_new np) np upd_same⟩
      · intro x
        rfl
      intro D Hc ps nD sC fD lD atD ndD nDD frD
      have vD : D ≠ g ∧ D ≠ d := ⟨(G'.ne nD).symm, (ne_of_none fd nD).symm⟩
      have vps : ∀ p ∈ ps, p ≠ g ∧ p ≠ d := fun p hp => ⟨(G'.ne (frD p hp)).symm, (ne_of_none fd (frD p hp)).symm⟩
      refine ⟨one_le, fun l0 nl0 => ?_⟩
      obtain ⟨I1, i1, j1, g1⟩ := gen Hc nl0 (.lst [.int 0])
      rw [i1]
      clear i1
      refine ⟨_, rfl, c, _, rfl, .inl (SqL.of (t'.same (sC.trans j1)).top), l0, _, _, rfl, rfl, g1, by omega, by omega, ?_, fun zr nzr => ?_⟩
      · have : ([V.int 0] : List V).length * ((rs.map V.ref).length : Int).toNat ≤ 1000 := by
          show 1 * _ ≤ _
          omega
        exact Nat.le_of_lt (small1000 this)
      obtain ⟨I2, i2, j2, g2⟩ := gen I1 nzr (.lst (List.replicate ((rs.map V.ref).length : Int).toNat [V.int 0]).flatten)
      rw [i2]
      clear i2
      refine ⟨one_le, fun z1 nz1 => ?_⟩
      obtain ⟨I3, i3, j3, g3⟩ := gen I2 nz1 (.lst [.ref zr])
      rw [i3]
      clear i3
      have sI := (j1.trans j2).trans j3
      refine ⟨D, z1, _, _, rfl, rfl, sI _ _ fD, g3, ?_, fun R nR => ?_⟩
      · have : (ps.map V.ref).length + ([V.ref zr] : List V).length ≤ 1000 := by
          rw [List.length_map]
          show ps.length + 1 ≤ 1000
          omega
        exact Nat.le_of_lt (small1000 this)
      obtain ⟨I4, i4, j4, g4⟩ := gen I3 nR (.lst (ps.map V.ref ++ [V.ref zr]))
      rw [i4]
      clear i4
      have sJ := sI.trans j4
      have sK := sC.trans sJ
      have vz : zr ≠ g ∧ zr ≠ d := ⟨((G'.same (sC.trans j1)).ne nzr).symm, (ne_of_none (j1 _ _ (sC _ _ fd)) nzr).symm⟩
      have vR : R ≠ g ∧ R ≠ d := ⟨((G'.same (sC.trans sI)).ne nR).symm, (ne_of_none (sI _ _ (sC _ _ fd)) nR).symm⟩
      have trk : ∀ p ∈ ps, ∃ o, Hc p = some o := fun p hp => by
        obtain ⟨a, ha⟩ := List.getElem?_of_mem hp
        have := (List.getElem?_eq_some_iff.mp ha).1
        exact ⟨_, atD a p _ ha (List.getElem?_eq_getElem (by omega))⟩
      have nzp : zr ∉ ps := fun z => by
        obtain ⟨o, e⟩ := trk zr z
        exact ne_of_none (j1 _ _ e) nzr rfl
      have nRp : R ∉ ps ++ [zr] := fun z => by
        rcases List.mem_append.mp z with z | z
        · obtain ⟨o, e⟩ := trk R z
          exact ne_of_none (sI _ _ e) nR rfl
        · rw [List.mem_singleton] at z
          exact ne_of_none (j3 _ _ g2) nR z.symm
      have tD : Tab I4 D ps kss := by
        have := (Tab.of (h := id) fD lD atD ndD).same sJ
        rwa [List.map_id] at this
      have tR : Tab I4 R (ps ++ [zr]) (kss ++ [List.replicate kss.length 0]) := tab_cat tD g4 (by
        rw [j4 _ _ (j3 _ _ g2), rep_one, lr]
        rfl) nzp
      have fineR : Fine (kss ++ [List.replicate kss.length 0]) := fine.push (by rw [List.length_replicate]) fun z hz => by
        rw [List.eq_of_mem_replicate hz]
        decide
      have lR : (kss ++ [List.replicate kss.length (0 : Int)]).length = kss.length + 1 := by rw [List.length_append]; rfl
      obtain ⟨r, ks, h1, h2, h3⟩ := tR.at (i := pn + 1) (by omega)
      obtain ⟨lks, bks⟩ := fineR _ _ h2
      have rmem : r ∈ ps ++ [zr] := List.mem_of_getElem? h1
      have vall : ∀ p ∈ ps ++ [zr], p ≠ g ∧ p ≠ d := fun p hp => by
        rcases List.mem_append.mp hp with hp | hp
        · exact vps p hp
        · rw [List.mem_singleton] at hp
          subst hp
          exact vz
      have vr := vall r rmem
      refine ⟨_, rfl, _, rfl, _, rfl, _, _, rfl, rfl, R, _, _, _, rfl, rfl, SqL.of tR.top, at_of (j := pn + 1) (v := V.ref r) (by omega) (by rw [List.getElem?_map, h1]; rfl), ?_⟩
      refine ⟨_, rfl, _, rfl, _, _, rfl, rfl, g, (pn : Int) + 1, n + 140 + 5 * (11 - (i + 1)), rfl, by omega, by omega, (G'.same sK).less (by omega), fun j H7 j0 j1' G7 b7 => ?_⟩
      have h7 : H7 r = some (.lst (ks.map V.int)) := b7 _ _ h3 vr.1
      refine ⟨r, _, _, j.toNat, rfl, rfl, h7, ix_in j0 (by rw [List.length_map]; omega), ?_⟩
      have tR7 : Tab H7 R (ps ++ [zr]) (kss ++ [List.replicate kss.length 0]) := tR.but b7 vR.1 fun z => (vall g z).1 rfl
      obtain ⟨H8, e8, u8⟩ : ∃ H8, upd H7 r (.lst ((ks.map V.int).set j.toNat y)) = H8 ∧ But r H7 H8 := ⟨_, rfl, But.put⟩
      have frR : ∀ b o, H' b = some o → b ≠ r := fun b o e => by
        rcases List.mem_append.mp rmem with z | z
        · exact fun q => by
            have := frD r z
            rw [← q, e] at this
            cases this
        · rw [List.mem_singleton] at z
          subst z
          exact ne_of_none ((sC.trans j1) _ _ e) nzr
      have b8 : But2 g d H' H8 := fun b o e q1 _ => u8 b o (b7 b o (sK b o e) q1) (frR b o e)
      have G8 : Gen H8 g (n + 140 + 5 * (11 - (i + 1))) := by
        rw [← e8]
        exact G7.other vr.1
      have fd8 : H8 d = some (.lst xs) := u8 _ _ (b7 _ _ (sK _ _ fd) zd) vr.2.symm
      have Rr : R ≠ r := fun z => nRp (by rw [z]; exact rmem)
      have fR8 : H8 R = some (.lst ((ps ++ [zr]).map V.ref)) := u8 _ _ tR7.top Rr
      have dR := set_dt tR7 e8 h1 h2 nRp vR.1 vR.2 vall (Dt.same b8.hid ey y oy3)
      have nR' : Nice 3 (.list (((kss ++ [List.replicate kss.length 0]).map rowD).set (pn + 1) (.list ((ks.map PyData.int).set j.toNat ey)))) := nice_set (by omega) (fineR.small (by omega)) (List.mem_of_getElem? h2) ny
      rw [e8]
      refine ⟨_, rfl, .inl ⟨rfl, _, SqL.of fd8⟩, _, rfl, d, _, _, rfl, rfl, fd8, small1000 (by omega), ?_⟩
      refine ⟨some y, some (.ref R), _, _, rfl, (b'.trans b8).trans But2.put, G8.other zd, upd_same, (DX.add b8 dR nR').mono But2.put, ?_⟩
      rw [List.length_append, lx]
      show 12 + i + 1 = 12 + (i + 1)
      omega
    · rintro σ H' ⟨po, ro, xs, ds, rfl, b', G', fd, DX, lx⟩
      rw [lo] at G' lx
      have k1 : ∀ b o, H b = some o → b ≠ g → H' b = some o := fun b o e nb => b' b o (k21 b o e nb) nb (ne_of_none e nd0)
      refine ⟨Nat.zero_le _, fun u1 v1 => ?_⟩
      obtain ⟨L1, l1, r1, h1⟩ := gen H' v1 (.tup [])
      rw [l1]
      clear l1
      have y1' : u1 ≠ g ∧ u1 ≠ d := ⟨(G'.ne v1).symm, (ne_of_none fd v1).symm⟩
      refine ⟨one_le, fun u2 v2 => ?_⟩
      obtain ⟨L2, l2, r2, h2⟩ := gen L1 v2 (.lst [.int 0])
      rw [l2]
      clear l2
      refine ⟨_, rfl, _, _, rfl, rfl, u2, _, _, rfl, rfl, h2, by omega, by omega, ?_, fun u3 v3 => ?_⟩
      · have : ([V.int 0] : List V).length * ((pn : Int) + 1).toNat ≤ 1000 := by
          show 1 * _ ≤ _
          omega
        exact Nat.le_of_lt (small1000 this)
      obtain ⟨L3, l3, r3, h3⟩ := gen L2 v3 (.lst (List.replicate ((pn : Int) + 1).toNat [V.int 0]).flatten)
      rw [l3]
      clear l3
      have y3' : u3 ≠ g ∧ u3 ≠ d := ⟨((G'.same (r1.trans r2)).ne v3).symm, (ne_of_none (r2 _ _ (r1 _ _ fd)) v3).symm⟩
      intro u4 v4
      obtain ⟨L4, l4, r4, h4⟩ := gen L3 v4 (.dK [])
      rw [l4]
      clear l4
      have R4 := ((r1.trans r2).trans r3).trans r4
      have y4' : u4 ≠ g ∧ u4 ≠ d := ⟨((G'.same ((r1.trans r2).trans r3)).ne v4).symm, (ne_of_none (r3 _ _ (r2 _ _ (r1 _ _ fd))) v4).symm⟩
      refine ⟨(by show 6 ≤ sizeLine; decide), fun B nB => ?_⟩
      have yB : B ≠ g ∧ B ≠ d := ⟨((G'.same R4).ne nB).symm, (ne_of_none (R4 _ _ fd) nB).symm⟩
      obtain ⟨oddb, oddE, eb, OB, OM⟩ : ∃ (oddb : List V) (oddE : List PyData), [V.non, V.ref u1, V.int 0, V.str "", V.ref u3, V.ref u4] = oddb ∧ Dts K (hid2 L4 g d) oddb oddE ∧ ∀ e ∈ oddE, Nice 2 e := by
        refine ⟨_, [.none, .tuple [], .int 0, .str "", rowD (List.replicate ((pn : Int) + 1).toNat 0), .dict []], rfl, ?_, ?_⟩
        · exact .cons .non (.cons (.tup (hid2_at (r4 _ _ (r3 _ _ (r2 _ _ h1))) y1'.1 y1'.2) .nil) (.cons (.int 0) (.cons (.str "") (.cons (.lst (hid2_at (by rw [r4 _ _ h3, rep_one]) y3'.1 y3'.2) (dts_ints _)) (.cons (.dct (hid2_at h4 y4'.1 y4'.2)) .nil)))))
        · intro e he
          simp only [List.mem_cons, List.not_mem_nil, or_false] at he
          rcases he with rfl | rfl | rfl | rfl | rfl | rfl
          · exact Nice.leaf trivial
          · exact Nice.tuple (n := 1) (by show 0 ≤ 50; decide) (by simp)
          · exact Nice.leaf zero
          · exact Nice.leaf (by show (reprText "").length ≤ 110; decide +kernel)
          · exact (small_zeros _ (by omega)).nice.up
          · exact Nice.leaf rfl
      have lb : oddb.length = 6 := by rw [← eb]; rfl
      refine ⟨B, rfl, ⟨_, SqL.of upd_same⟩, ?_⟩
      rw [eb]
      obtain ⟨L5, l5, r5, h5⟩ := gen L4 nB (.lst oddb)
      rw [l5]
      clear l5
      have R5 := R4.trans r5
      have OB' := Dts.same (But2.of (g := g) (d := d) r5).hid _ _ OB
      have k5 : ∀ b o, H b = some o → b ≠ g → L5 b = some o := fun b o e nb => R5 b o (k1 b o e nb)
      refine for_list (K := K) (a := B) (xs := oddb) (fun i σ H' => ∃ (po ro : Option V) (xs : List V) (ds : List PyData), σ = [some (.ref g), some (.int k), some (.ref c), some (.ref d), some (.int pn), po, ro, none] ∧ But2 g d L5 H' ∧ Gen H' g (n + 140) ∧
          H' d = some (.lst xs) ∧ DD K H' g d xs ds ∧ xs.length = 23 + i)
        ⟨po, ro, _, _, rfl, .of (Same.refl _), (G'.same R5).less (by omega), R5 _ _ fd, DX.mono (.of R5), lx⟩ (fun i σ H' _ z => by
          obtain ⟨_, _, _, _, _, b', _⟩ := z
          exact SqL.of (b' _ _ h5 yB.1 yB.2)) ?_ ?_
      · clear DX lx fd b' G' xs ds po ro
        rintro i y σ H' hi ⟨po, ro, xs, ds, rfl, b', G', fd, DX, lx⟩
        have il : i < 6 := by rw [← lb]; exact (List.getElem?_eq_some_iff.mp hi).1
        obtain ⟨ey, oy1, oy2⟩ := OB'.get hi
        have ny := OM ey (List.mem_of_getElem? oy1)
        have oy3 : Dt K (hid2 H' g d) y ey := Dt.same b'.hid ey y oy2
        have t' : Tab H' c rs kss := t.but (g := g) (fun b o e nb => b' b o (k5 b o e nb) nb (ne_of_none e nd0)) cg fun z => rg g z rfl
        refine gName_of (tSeq_of (tAsg_of ?_))
        refine comp_rows (K := K) (u := 2) (v := 7) (ob := fun ks => .lst (ks.map V.int)) t' (by omega) rfl ?_ ?_ ?_
        · intro r ks H5' Q' hr _ k'
          exact ⟨_, rfl, r, _, rfl, SqL.of hr, fun p np => k' p _ (same_new np) np upd_same⟩
        · intro x
          rfl
        intro D Hc ps nD sC fD lD atD ndD nDD frD
        have vD : D ≠ g ∧ D ≠ d := ⟨(G'.ne nD).symm, (ne_of_none fd nD).symm⟩
        have vps : ∀ p ∈ ps, p ≠ g ∧ p ≠ d := fun p hp => ⟨(G'.ne (frD p hp)).symm, (ne_of_none fd (frD p hp)).symm⟩
        refine ⟨_, rfl, _, rfl, _, rfl, D, _, _, pn, rfl, rfl, fD, by
          have := ix_in (j := (pn : Int)) (n := (ps.map V.ref).length) (by omega) (by rw [List.length_map]; omega)
          rw [this]
          rfl, ?_⟩
        obtain ⟨H8, e8, u8, f8'⟩ : ∃ H8, upd Hc D (.lst ((ps.map V.ref).set pn y)) = H8 ∧ But D Hc H8 ∧ H8 D = some (.lst ((ps.map V.ref).set pn y)) := ⟨_, rfl, But.put, upd_same⟩
        have G8 : Gen H8 g (n + 140) := by
          rw [← e8]
          exact (G'.same sC).other vD.1
        rw [e8]
        have b8 : But2 g d H' H8 := fun b o e q1 _ => u8 b o (sC b o e) (ne_of_none e nD)
        have fd8 : H8 d = some (.lst xs) := u8 _ _ (sC _ _ fd) vD.2.symm
        have dR : Dt K (hid2 H8 g d) (.ref D) (.list ((kss.map rowD).set pn ey)) := .lst (hid2_at f8' vD.1 vD.2) (dts_set (lists_dts lD (fun i p ks q1 q2 => u8 _ _ (atD i p ks q1 q2) fun z => nDD (by rw [← z]; exact List.mem_of_getElem? q1)) vps) (Dt.same b8.hid ey y oy3))
        refine ⟨_, rfl, .inl ⟨rfl, _, SqL.of fd8⟩, _, rfl, d, _, _, rfl, rfl, fd8, small1000 (by omega), ?_⟩
        refine ⟨some y, some (.ref D), _, _, rfl, (b'.trans b8).trans But2.put, G8.other zd, upd_same, (DX.add b8 dR (nice_put (by omega) small ny)).mono But2.put, ?_⟩
        rw [List.length_append, lx]
        show 23 + i + 1 = 23 + (i + 1)
        omega
      · clear DX lx fd b' G' xs ds po ro
        rintro σ H' ⟨po, ro, xs, ds, rfl, b', G', fd, DX, lx⟩
        rw [lb] at lx
        have k6 : ∀ b o, H b = some o → b ≠ g → H' b = some o := fun b o e nb => b' b o (k5 b o e nb) nb (ne_of_none e nd0)
        have t' : Tab H' c rs kss := t.but (g := g) k6 cg fun z => rg g z rfl
        have rz : ∀ r ∈ rs, r ≠ g ∧ r ≠ d := fun r hr => ⟨rg r hr, rd r hr⟩
        -- company + [[0] * len(company)]
        refine ⟨_, rfl, _, rfl, one_le, fun p1 n1 => ?_⟩
        obtain ⟨M1, l1, r1, h1⟩ := gen H' n1 (.lst [.int 0])
        rw [l1]
        clear l1
        refine ⟨_, rfl, c, _, rfl, .inl (SqL.of (t'.same r1).top), p1, _, _, rfl, rfl, h1, by omega, by omega, ?_, fun p2 n2 => ?_⟩
        · have : ([V.int 0] : List V).length * ((rs.map V.ref).length : Int).toNat ≤ 1000 := by
            show 1 * _ ≤ _
            omega
          exact Nat.le_of_lt (small1000 this)
        obtain ⟨M2, l2, r2, h2⟩ := gen M1 n2 (.lst (List.replicate ((rs.map V.ref).length : Int).toNat [V.int 0]).flatten)
        rw [l2]
        clear l2
        have w2' : p2 ≠ g ∧ p2 ≠ d := ⟨((G'.same r1).ne n2).symm, (ne_of_none (r1 _ _ fd) n2).symm⟩
        refine ⟨one_le, fun p3 n3 => ?_⟩
        obtain ⟨M3, l3, r3, h3⟩ := gen M2 n3 (.lst [.ref p2])
        rw [l3]
        clear l3
        have q3 := (r1.trans r2).trans r3
        have szc : ∀ (l : List V), l.length ≤ 100 → (rs.map V.ref).length + l.length ≤ sizeLine := fun l h => Nat.le_of_lt (small1000 (by omega))
        refine ⟨c, p3, _, _, rfl, rfl, (t'.same q3).top, h3, szc _ (by show 1 ≤ 100; decide), fun p4 n4 => ?_⟩
        obtain ⟨M4, l4, r4, h4⟩ := gen M3 n4 (.lst (rs.map V.ref ++ [V.ref p2]))
        rw [l4]
        clear l4
        have q4 := q3.trans r4
        have w4' : p4 ≠ g ∧ p4 ≠ d := ⟨((G'.same q3).ne n4).symm, (ne_of_none (q3 _ _ fd) n4).symm⟩
        have E1 := DX.add (.of q4) (.lst (hid2_at h4 w4'.1 w4'.2) ((tab_dt (K := K) (t'.same q4) cg cd rz).1.append (.cons (.lst (hid2_at (by rw [r4 _ _ (r3 _ _ h2), rep_one]) w2'.1 w2'.2) (dts_ints _)) .nil)))
          (nice_rows (by rw [List.length_append, List.length_map]; show kss.length + 1 ≤ 50; omega) fun e he => by
            rcases List.mem_append.mp he with he | he
            · obtain ⟨ks, hk, rfl⟩ := List.mem_map.mp he
              exact (small ks hk).nice.up
            · rw [List.mem_singleton] at he
              subst he
              exact (small_zeros _ (by omega)).nice.up)
        -- company[1:]
        refine ⟨_, rfl, 1, rfl, c, _, rfl, SqL.of (t'.same q4).top, fun p5 n5 => ?_⟩
        rw [cut_one]
        obtain ⟨M5, l5, r5, h5⟩ := gen M4 n5 (.lst ((rs.map V.ref).drop 1))
        rw [l5]
        clear l5
        have q5 := q4.trans r5
        have w5' : p5 ≠ g ∧ p5 ≠ d := ⟨((G'.same q4).ne n5).symm, (ne_of_none (q4 _ _ fd) n5).symm⟩
        have E2 := E1.add (.of r5) (.lst (hid2_at h5 w5'.1 w5'.2) (dts_drop 1 (tab_dt (K := K) (t'.same q5) cg cd rz).1)) (nice_rows (by rw [List.length_drop, List.length_map]; omega) fun e he => by
          obtain ⟨ks, hk, rfl⟩ := List.mem_map.mp (List.mem_of_mem_drop he)
          exact (small ks hk).nice.up)
        -- company[::0 - 1]
        refine ⟨_, rfl, c, _, rfl, SqL.of (t'.same q5).top, fun p6 n6 => ?_⟩
        obtain ⟨M6, l6, r6, h6⟩ := gen M5 n6 (.lst (rs.map V.ref).reverse)
        rw [l6]
        clear l6
        have q6 := q5.trans r6
        have w6' : p6 ≠ g ∧ p6 ≠ d := ⟨((G'.same q5).ne n6).symm, (ne_of_none (q5 _ _ fd) n6).symm⟩
        have E3 := E2.add (.of r6) (.lst (hid2_at h6 w6'.1 w6'.2) (dts_rev (tab_dt (K := K) (t'.same q6) cg cd rz).1)) (nice_rows (by rw [List.length_reverse, List.length_map]; omega) fun e he => by
          obtain ⟨ks, hk, rfl⟩ := List.mem_map.mp (List.mem_reverse.mp he)
          exact (small ks hk).nice.up)
        -- company + [[0]]
        refine ⟨_, rfl, one_le, fun p7 n7 => ?_⟩
        obtain ⟨M7, l7, r7, h7⟩ := gen M6 n7 (.lst [.int 0])
        rw [l7]
        clear l7
        have q7 := q6.trans r7
        have w7' : p7 ≠ g ∧ p7 ≠ d := ⟨((G'.same q6).ne n7).symm, (ne_of_none (q6 _ _ fd) n7).symm⟩
        refine ⟨one_le, fun p8 n8 => ?_⟩
        obtain ⟨M8, l8', r8, h8⟩ := gen M7 n8 (.lst [.ref p7])
        rw [l8']
        clear l8'
        have q8 := q7.trans r8
        refine ⟨c, p8, _, _, rfl, rfl, (t'.same q8).top, h8, szc _ (by show 1 ≤ 100; decide), fun p9 n9 => ?_⟩
        obtain ⟨M9, l9, r9, h9⟩ := gen M8 n9 (.lst (rs.map V.ref ++ [V.ref p7]))
        rw [l9]
        clear l9
        have q9 := q8.trans r9
        have w9' : p9 ≠ g ∧ p9 ≠ d := ⟨((G'.same q8).ne n9).symm, (ne_of_none (q8 _ _ fd) n9).symm⟩
        have E4 := E3.add (.of ((r7.trans r8).trans r9)) (.lst (hid2_at h9 w9'.1 w9'.2) ((tab_dt (K := K) (t'.same q9) cg cd rz).1.append (.cons (.lst (hid2_at (r9 _ _ (r8 _ _ h7)) w7'.1 w7'.2) (.cons (.int 0) .nil)) .nil)))
          (nice_rows (by rw [List.length_append, List.length_map]; show kss.length + 1 ≤ 50; omega) fun e he => by
            rcases List.mem_append.mp he with he | he
            · obtain ⟨ks, hk, rfl⟩ := List.mem_map.mp he
              exact (small ks hk).nice.up
            · rw [List.mem_singleton] at he
              subst he
              exact (nice_one zero).up)
        refine ⟨(by show 4 ≤ sizeLine; decide), fun p10 n10 => ?_⟩
        obtain ⟨M10, l10, r10, h10⟩ := gen M9 n10 (.lst [.ref p4, .ref p5, .ref p6, .ref p9])
        rw [l10]
        clear l10
        have q10 := q9.trans r10
        have f10d := q10 _ _ fd
        refine ⟨d, p10, _, _, rfl, rfl, f10d, h10, ?_, fun d2 nd2 => ?_⟩
        · exact Nat.le_of_lt (small1000 (by
            show xs.length + 4 ≤ 1000
            omega))
        obtain ⟨M11, l11, r11, h11⟩ := gen M10 nd2 (.lst (xs ++ [.ref p4, .ref p5, .ref p6, .ref p9]))
        rw [l11]
        clear l11
        have q11 := q10.trans r11
        -- found + [[row + [0] for row in company]]
        refine ⟨_, rfl, ?_⟩
        refine tLst_of (tCons_of ?_)
        refine comp_rows (K := K) (u := 2) (v := 7) (ob := fun ks => .lst ((ks ++ [0]).map V.int)) (t'.same q11) (by omega) rfl ?_ ?_ ?_
        · intro r ks H5' Q' hr hks k'
          have lks := (small ks hks).1
          refine ⟨_, rfl, one_le, fun w nw => ?_⟩
          obtain ⟨N1, a1', a2', a3'⟩ := gen H5' nw (.lst [.int 0])
          rw [a1']
          clear a1'
          refine ⟨r, w, _, _, rfl, rfl, a2' _ _ hr, a3', Nat.le_of_lt (small1000 (by
            show (ks.map V.int).length + 1 ≤ 1000
            rw [List.length_map]
            omega)), fun p np => k' p _ (a2'.trans (same_new np)) (a2'.free np) ?_⟩
          rw [upd_same, List.map_append]
          rfl
        · intro x
          rfl
        intro D M12 ps nD sC fD lD atD ndD nDD frD
        have q12 := q11.trans sC
        have vD : D ≠ g ∧ D ≠ d := ⟨((G'.same q11).ne nD).symm, (ne_of_none (q11 _ _ fd) nD).symm⟩
        have vps : ∀ p ∈ ps, p ≠ g ∧ p ≠ d := fun p hp => ⟨((G'.same q11).ne (frD p hp)).symm, (ne_of_none (q11 _ _ fd) (frD p hp)).symm⟩
        have tD : Tab M12 D ps (kss.map (· ++ [0])) := Tab.of fD lD atD ndD
        have E5 := E4.add (.of ((r10.trans r11).trans sC)) (tab_dt (K := K) tD vD.1 vD.2 vps).2 (small_rows (by rw [List.length_map]; omega) fun ks hk => by
          obtain ⟨ks', hk', rfl⟩ := List.mem_map.mp hk
          obtain ⟨i, hi⟩ := List.getElem?_of_mem hk'
          have l1 := (fine i ks' hi).1
          have l2 := (List.getElem?_eq_some_iff.mp hi).1
          refine ⟨by rw [List.length_append]; show ks'.length + 1 ≤ 50; omega, fun z hz => ?_⟩
          rcases List.mem_append.mp hz with hz | hz
          · exact (small ks' hk').2 z hz
          · rw [List.mem_singleton] at hz
            subst hz
            decide).up
        refine ⟨one_le, fun p13 n13 => ?_⟩
        obtain ⟨M13, l13, r13, h13⟩ := gen M12 n13 (.lst [.ref D])
        rw [l13]
        clear l13
        refine ⟨d2, p13, _, _, rfl, rfl, r13 _ _ (sC _ _ h11), h13, ?_, fun p14 n14 => ?_⟩
        · refine Nat.le_of_lt (small1000 ?_)
          rw [List.length_append]
          show xs.length + 4 + 1 ≤ 1000
          omega
        obtain ⟨M14, l14, r14, h14⟩ := gen M13 n14 (.lst (xs ++ [.ref p4, .ref p5, .ref p6, .ref p9] ++ [.ref D]))
        rw [l14]
        clear l14
        have q14 := (q12.trans r13).trans r14
        have z14 : p14 ≠ g := ((G'.same (q12.trans r13)).ne n14).symm
        have f14' : H p14 = none := by
          cases e : H p14 with
          | none => rfl
          | some o =>
            rw [(q12.trans r13) _ _ (k6 _ _ e z14)] at n14
            cases n14
        have fin := (E5.mono (.of (r13.trans r14))).join
        have same4 : xs ++ [V.ref p4] ++ [V.ref p5] ++ [V.ref p6] ++ [V.ref p9] ++ [V.ref D] = xs ++ [.ref p4, .ref p5, .ref p6, .ref p9] ++ [.ref D] := by simp
        rw [same4] at fin
        refine q p14 M14 _ _ (fun b o e nb => q14 b o (k6 b o e nb)) ((G'.same q14).less (by omega)) h14 z14 f14' ?_ fin
        rw [List.length_append, List.length_append]
        show xs.length + 4 + 1 ≤ 100
        omega
end
end K1

namespace K1
open PySem PySem.Spec PyProof.Rows L2 GL
abbrev sRight : Stmt := topS 28
/-- how value=v, kinds=k are bound -/
def gK : List Value → List Value → List Value
  | [], [v, k] => [k, v]
  | _, _ => []
def gKV : List V → List V → List V
  | [], [v, k] => [k, v]
  | _, _ => []
theorem gK_rel {vs : List V} {us : List Value} {zs : List V} {ws : List Value} (a : Vals vs us) (b : Vals zs ws) : Vals (gKV vs zs) (gK us ws) := by
  cases a with
  | cons _ _ => exact .nil
  | nil =>
    cases b with
    | nil => exact .nil
    | cons r1 b =>
      cases b with
      | nil => exact .nil
      | cons r2 b =>
        cases b with
        | nil => exact .cons r2 (.cons r1 .nil)
        | cons _ _ => exact .nil
section
variable {P : Program} {w : World} {K : PySem.W.Frag} {mg : Str → Option Value} {base : Heap}
abbrev nRight : List Str := ["_law_generator_here", "_law_kinds", "_law_company_here", "_law_value", "_law_many", "_law_due", "_law_kept"]
theorem scRight : FnScope nRight ["_law_generator_here"] (defScope sRight) := ⟨rfl, rfl, rfl, by decide +kernel, rfl, by decide +kernel, by decide +kernel⟩
def spRight : Sp := fun vs H Q _ => ∃ (g : Addr) (n : Nat), vs = [.ref g] ∧ Gen H g (n + 30000) ∧ ∀ H', But g H H' → Q (.bl true) H'
/-- is_company, called by its names -/
def UseKw (P : Program) (w : World) (K : PySem.W.Frag) (mg : Str → Option Value) (base : Heap) : Prop := ∃ f fd, FnOk P w K mg base CX0 5 f fd ["kinds", "value"] (spIs K) ∧ mg "is_company" = some (.ref f) ∧ PySem.W.keepIn K (.ref f) = true ∧ KBinds K fd ["kinds", "value"] ["value", "kinds"] gK gKV
theorem ok_right {f : Addr} {fd : FuncData} (F : Fun K "_law_right" "_law_right" sRight f fd) (T : Bi mg) (U : Use P w K mg base "_law_random" ["_law_generator_here", "_law_bound"] spRandom 2) (UC : Use P w K mg base "_law_company" ["_law_generator_here", "_law_kinds", "_law_many"] spCompany 4)
    (UB : Use P w K mg base "_law_bent" ["_law_generator_here", "_law_kinds", "_law_company_here"] (spBent K) 3) (UI : Use P w K mg base "_law_is_company" ["_law_kinds", "_law_value"] (spCompOf K) 2) (US : Use P w K mg base "is_company" ["kinds", "value"] (spIs K) 5) (UK : UseKw P w K mg base)
    (UY : Use P w K mg base "_law_yes" ["_law_told", "_law_due"] spYes 1) : FnG P w K mg base CX0 6 f fd ["_law_generator_here"] spRight := by
  obtain ⟨fk, fdk, FK, mk, kk, bk⟩ := UK
  refine FnG.mk' F scRight (fun vs H Q E h => ?_) (fun cdv A outer s H vs Q E hgd hr h => ?_)
  · obtain ⟨g, n, rfl, _⟩ := h
    rfl
  · obtain ⟨g, n, rfl, G, q⟩ := h
    have hr1 : Room 1 (A.deeper (envOfC "_law_right" (defScope sRight) s.heap.objs.size f cdv)) := hr.mono (by decide)
    have hr2 : Room 2 (A.deeper (envOfC "_law_right" (defScope sRight) s.heap.objs.size f cdv)) := hr.mono (by decide)
    have hr3 : Room 3 (A.deeper (envOfC "_law_right" (defScope sRight) s.heap.objs.size f cdv)) := hr.mono (by decide)
    have hr4 : Room 4 (A.deeper (envOfC "_law_right" (defScope sRight) s.heap.objs.size f cdv)) := hr.mono (by decide)
    have hgd' : (A.deeper (envOfC "_law_right" (defScope sRight) s.heap.objs.size f cdv)).guards = some [] := hgd
    refine ⟨_, pss_cons (ps_set (i := 1) scRight.nd rfl (Or.inl rfl) (pe_op op_add pe_int (pe_use U hr2 (by rfl) (pa_cons (pv 0) (pa_cons pe_int pa_nil)))))
      (pss_cons (ps_set (i := 2) scRight.nd rfl (Or.inl rfl) (pe_use UC hr4 (by rfl) (pa_cons (pv 0) (pa_cons (pv 1) (pa_cons (pe_op op_add pe_int (pe_use U hr2 (by rfl) (pa_cons (pv 0) (pa_cons pe_int pa_nil)))) pa_nil)))))
      (pss_cons (ps_for PassesOwn.never rfl (pi_list (pe_op op_cat (pe_lst (pa_cons (pv 2) pa_nil)) (pe_use UB hr3 (by rfl) (pa_cons (pv 0) (pa_cons (pv 1) (pa_cons (pv 2) pa_nil)))))) (pg_name (i := 3) scRight.nd rfl (Or.inl rfl))
        (pss_one (ps_for PassesOwn.never rfl (pi_list (pe_lst (pa_cons (pv 1) (pa_cons (pe_op op_add pe_int (pe_use U hr2 (by rfl) (pa_cons (pv 0) (pa_cons pe_int pa_nil)))) pa_nil)))) (pg_name (i := 4) scRight.nd rfl (Or.inl rfl))
          (pss_cons (ps_par (i := 5) (j := 6) rfl scRight.nd rfl rfl (by decide) rfl rfl (pa_cons (pe_use UI hr2 (by rfl) (pa_cons (pv 4) (pa_cons (pv 3) pa_nil))) (pa_cons (pe_callB (call_repD hgd' hr.units) (by rfl) T.repr (by decide +kernel) (pa_cons (pv 3) pa_nil)) pa_nil)) (by rfl))
          (pss_cons (ps_if (PW.pt (pw_or (pt_not (pt_val (pe_use UY hr1 (by rfl) (pa_cons (pe_use US hr (by rfl) (pa_cons (pv 4) (pa_cons (pv 3) pa_nil))) (pa_cons (pv 5) pa_nil)))))
              (pw_or1 (pt_not (pt_val (pe_use UY hr1 (by rfl) (pa_cons (pe_kws FK hr (by rfl) mk kk bk pass0 (pk_cons (pv 3) (pk_cons (pv 4) pk_nil))) (pa_cons (pv 5) pa_nil)))))))) (pss_one (ps_ret pe_bl)) pss_nil)
          (pss_one (ps_if (pt_cmpR op_ne (pe_callB (call_repD hgd' hr.units) (by rfl) T.repr (by decide +kernel) (pa_cons (pv 3) pa_nil)) (pv 6) (nomark _)) (pss_one (ps_ret pe_bl)) pss_nil)))))))
      (pss_one (ps_ret pe_bl)))), ?_⟩
    refine ⟨_, rfl, g, 8, n + 29995, rfl, by decide, by decide, G, fun r H1 r0 r1 G1 b1 => ⟨_, _, rfl, rfl, ?_⟩⟩
    refine ⟨_, rfl, _, rfl, _, rfl, g, 10, n + 29990, rfl, by decide, by decide, G1, fun r2 H2 q0 q1 G2 b2 => ⟨_, _, rfl, rfl, ?_⟩⟩
    obtain ⟨u, rfl⟩ : ∃ u : Nat, r2 = (u : Int) := ⟨r2.toNat, by omega⟩
    refine ⟨g, (2 + r), 1 + u, n + 9990, (by rw [Int.natCast_add]; rfl), by omega, by omega, by omega, by omega, G2, fun c H3 b3 G3 co => ?_⟩
    obtain ⟨rs, kss, t, lk, fine, nc, nc0, nr0⟩ := co
    have cg : c ≠ g := (G2.ne nc0).symm
    have rg : ∀ r ∈ rs, r ≠ g := fun r hr => (G2.ne (nr0 r hr)).symm
    refine ⟨_, rfl, one_le, fun l nl => ?_⟩
    obtain ⟨H4, e4, s4, f4⟩ := gen H3 nl (.lst [.ref c])
    rw [e4]
    clear e4
    have lg : l ≠ g := (G3.ne nl).symm
    have t4 := t.same s4
    refine ⟨_, rfl, _, rfl, _, rfl, g, c, (2 + r), n + 9000, rs, kss, rfl, by omega, by omega, (G3.same s4).less (by omega), t4, fine, by omega, by omega, cg, rg, fun pb H5 xs ds b5 G5 f5 pg pn0 lx D5 => ?_⟩
    have f4' := b5 _ _ f4 lg
    refine ⟨l, pb, _, _, rfl, rfl, f4', f5, Nat.le_of_lt (small1000 (by show 1 + xs.length ≤ 1000; omega)), fun L nL => ?_⟩
    have t5 := t4.but b5 cg fun z => rg g z rfl
    have cD := (tab_dt (K := K) t5 cg cg fun r hr => ⟨rg r hr, rg r hr⟩).2
    have small := fine.small (by omega : kss.length ≤ 50)
    obtain ⟨vals, dats, ev, DV, NV, lv⟩ : ∃ (vals : List V) (dats : List PyData), [V.ref c] ++ xs = vals ∧ Dts K (hid2 H5 g g) vals dats ∧ (∀ e ∈ dats, Nice 3 e) ∧ vals.length ≤ 101 :=
      ⟨_, _, rfl, (Dts.cons cD .nil).append D5.dts, fun e he => by
        rcases List.mem_append.mp he with he | he
        · rw [List.mem_singleton] at he
          subst he
          exact (small_rows (by omega) small).up
        · exact D5.nice e he, by rw [List.length_append]; show 1 + xs.length ≤ 101; omega⟩
    rw [ev]
    obtain ⟨H6, e6, s6, f6⟩ := gen H5 nL (.lst vals)
    rw [e6]
    clear e6
    have zL : L ≠ g := (G5.ne nL).symm
    refine ⟨L, rfl, ⟨_, SqL.of f6⟩, ?_⟩
    refine for_list (K := K) (a := L) (xs := vals) (fun i σ H' => ∃ v m d e : Option V, σ = [some (.ref g), some (.int (2 + r)), some (.ref c), v, m, d, e] ∧ But g H6 H' ∧ Gen H' g (n + 1000 - 5 * i))
      ⟨none, none, none, none, rfl, But.refl, (G5.same s6).less (by omega)⟩ (fun i σ H' _ z => by
        obtain ⟨_, _, _, _, _, b', _⟩ := z
        exact SqL.of (b' _ _ f6 zL)) ?_ ?_
    · rintro i y σ H' hi ⟨v, m, d, e, rfl, b', G'⟩
      have il := (List.getElem?_eq_some_iff.mp hi).1
      obtain ⟨dy, h1, h2⟩ := DV.get hi
      have ny := NV dy (List.mem_of_getElem? h1)
      obtain ⟨fit1, fit2, fit3⟩ := ny.fits
      have dH : Dt K (hid2 H' g g) y dy := Dt.same ((But2.of (g := g) (d := g) s6).trans (But2.but b')).hid dy y h2
      refine ⟨_, rfl, _, rfl, g, 8, n + 1000 - 5 * (i + 1), rfl, by decide, by decide, G'.less (by omega), fun r3 H7 x0 x1 G7 b7 => ⟨_, _, rfl, rfl, (by show 2 ≤ sizeLine; decide), fun L2 nL2 => ?_⟩⟩
      obtain ⟨H8, e8, s8, f8⟩ := gen H7 nL2 (.lst [.int (2 + r), .int (2 + r3)])
      rw [e8]
      clear e8
      have dH8 : Dt K H8 y dy := Dt.same hid2_hid dy y (Dt.same ((But2.but (d := g) b7).trans (But2.of s8)).hid dy y dH)
      have G8 := G7.same s8
      refine ⟨L2, rfl, ⟨_, SqL.of f8⟩, ?_⟩
      refine for_list (K := K) (a := L2) (xs := [.int (2 + r), .int (2 + r3)]) (fun j σ H'' => ∃ m d e : Option V, σ = [some (.ref g), some (.int (2 + r)), some (.ref c), some y, m, d, e] ∧ Same H8 H'')
        ⟨m, d, e, rfl, Same.refl _⟩ (fun j σ H'' _ z => by
          obtain ⟨_, _, _, _, s'⟩ := z
          exact SqL.of (s' _ _ f8)) ?_ ?_
      · rintro j z σ H'' hj ⟨m, d, e, rfl, s'⟩
        obtain ⟨kz, rfl, kz2, kz9⟩ : ∃ kz : Int, z = .int kz ∧ 2 ≤ kz ∧ kz ≤ 9 := by
          match j, hj with
          | 0, hj =>
            cases hj
            exact ⟨(2 + r), rfl, by omega, by omega⟩
          | 1, hj =>
            cases hj
            exact ⟨2 + r3, rfl, by omega, by omega⟩
          | j + 2, hj => simp at hj
        have d9 : Dt K H'' y dy := Dt.same s' dy y dH8
        refine ⟨_, rfl, _, rfl, y, dy, kz, rfl, d9, fun H9 s9 => ?_⟩
        have d10 : Dt K H9 y dy := Dt.same s9 dy y d9
        refine ⟨_, rfl, y, dy, rfl, d10, fit1, fit2, fit3, _, _, rfl, ?_⟩
        refine ⟨_, rfl, _, rfl, y, dy, kz, rfl, kz2, kz9, d10, fun H11 s11 => ⟨_, rfl, _, rfl, _, rfl, iteF ?_⟩⟩
        have d12 : Dt K H11 y dy := Dt.same s11 dy y d10
        refine ⟨_, rfl, _, rfl, y, dy, kz, rfl, kz2, kz9, d12, fun H13 s13 => ⟨_, rfl, _, rfl, _, rfl, iteF ?_⟩⟩
        have d14 : Dt K H13 y dy := Dt.same s13 dy y d12
        refine ⟨_, rfl, y, dy, rfl, d14, fit1, fit2, fit3, _, rfl, rfl, _, rfl, iteNS rfl ?_⟩
        exact ⟨_, _, _, rfl, s'.trans (s9.trans (s11.trans s13))⟩
      · rintro σ H'' ⟨m, d, e, rfl, s'⟩
        exact ⟨_, _, _, _, rfl, b'.trans (b7.trans ((But.of s8).trans (But.of s'))), G8.same s'⟩
    · rintro σ H' ⟨v, m, d, e, rfl, b', G'⟩
      refine q H' ?_
      exact b1.trans (b2.trans (b3.trans ((But.of s4).trans (b5.trans ((But.of s6).trans b')))))
end
end K1

namespace K1
open PySem PySem.Spec PyProof.Rows L2 GL
abbrev sLaw : Stmt := topS 29
theorem SqL.but {K : PySem.W.Frag} {H H' : Hp} {a g : Addr} {xs : List V} (h : SqL K H a xs) (hg : H g = none) (b : But g H H') : SqL K H' a xs := by
  rcases h with (h | ⟨o, h⟩) | h
  · exact .inl (.inl (b _ _ h (ne_of_none h hg)))
  · exact .inl (.inr ⟨o, b _ _ h (ne_of_none h hg)⟩)
  · exact .inr h
theorem Tab.take {H : Hp} {c p : Addr} {rs : List Addr} {kss : List (List Int)} (t : Tab H c rs kss) (n : Nat) (h : H p = some (.lst ((rs.map V.ref).take n))) : Tab H p (rs.take n) (kss.take n) :=
  ⟨by rw [h, List.map_take], by rw [List.length_take, List.length_take, t.len], fun i r ks a b => by
    have il : i < n := by
      have := (List.getElem?_eq_some_iff.mp a).1
      rw [List.length_take] at this
      omega
    rw [List.getElem?_take_of_lt il] at a b
    exact t.row i r ks a b, t.nd.sublist (List.take_sublist ..)⟩
/-- rows of noughts -/
def zs (n : Nat) : List (List Int) := (List.range n).map fun j => List.replicate j 0
theorem zs_more (n : Nat) : zs (n + 1) = zs n ++ [List.replicate n 0] := by
  unfold zs
  rw [List.range_succ, List.map_append]
  rfl
theorem zs_len (n : Nat) : (zs n).length = n := by
  unfold zs
  rw [List.length_map, List.length_range]
def oddOf (p m : Nat) : PyData := .list ((((zs 41).take 40).map rowD).set p (.list (((List.replicate p (0 : Int)).map PyData.int).set m (.int 2))))
theorem odd_1 : compOk 2 (oddOf 39 38) = false := by decide +kernel
theorem odd_2 : compOk 3 (oddOf 39 38) = true := by decide +kernel
theorem odd_3 : compOk 2 (oddOf 20 7) = false := by decide +kernel
theorem odd_4 : compOk 3 (oddOf 20 7) = true := by decide +kernel
theorem full_1 : compOk 2 (.list ((zs 41).map rowD)) = false := by decide +kernel
theorem full_2 : compOk 2 (.list (((zs 41).take 40).map rowD)) = true := by decide +kernel
theorem full_3 : compOk 9 (.list [.list [], .list [.int 8]]) = true := by decide +kernel
section
variable {P : Program} {w : World} {K : PySem.W.Frag} {mg : Str → Option Value} {base : Heap}
abbrev nLaw : List Str := ["_law_script", "_law_index", "_law_person", "_law_full", "_law_mate", "_law_odd", "_law_row"]
theorem scLaw : FnScope nLaw ["_law_script"] (defScope sLaw) := ⟨rfl, rfl, rfl, by decide +kernel, rfl, by decide +kernel, by decide +kernel⟩
def spLaw (K : PySem.W.Frag) : Sp := fun vs H Q _ => ∃ (a : Addr) (ns : List Int), vs = [.ref a] ∧ SqL K H a (ns.map V.int) ∧ ∀ H', Q (.bl true) H'
theorem ok_law {f : Addr} {fd : FuncData} (F : Fun K "law" "law" sLaw f fd) (T : Bi mg) (UR : UseG P w K mg base "_law_right" ["_law_generator_here"] spRight 6) (UG : Use P w K mg base "_law_generator" ["_law_script", "_law_index"] (spGen K) 2) (US : Use P w K mg base "is_company" ["kinds", "value"] (spIs K) 5) :
    FnG P w K mg base CX0 7 f fd ["_law_script"] (spLaw K) := by
  refine FnG.mk' F scLaw (fun vs H Q E h => ?_) (fun cdv A outer s H vs Q E hgd hr h => ?_)
  · obtain ⟨a, ns, rfl, _⟩ := h
    rfl
  · obtain ⟨a, ns, rfl, hS, q⟩ := h
    have hr2 : Room 2 (A.deeper (envOfC "law" (defScope sLaw) s.heap.objs.size f cdv)) := hr.mono (by decide)
    have hr5 : Room 5 (A.deeper (envOfC "law" (defScope sLaw) s.heap.objs.size f cdv)) := hr.mono (by decide)
    have hgd' : (A.deeper (envOfC "law" (defScope sLaw) s.heap.objs.size f cdv)).guards = some [] := hgd
    refine ⟨_, pss_cons (ps_for PassesOwn.never rfl (pi_range1 (by rfl) T.range (pa_cons pe_int pa_nil)) (pg_name (i := 1) scLaw.nd rfl (Or.inl rfl))
        (pss_one (ps_if (pt_not (pt_val (pe_useG UR hgd' hr (by rfl) (pa_cons (pe_use UG hr2 (by rfl) (pa_cons (pv 0) (pa_cons (pv 1) pa_nil))) pa_nil)))) (pss_one (ps_ret pe_bl)) pss_nil)))
      (pss_cons (ps_setLc (i := 3) (own := [("_law_person", 2)]) (g := gName 2) (tt := tYes) rfl scLaw.nd rfl rfl (sw_true rfl rfl rfl (by decide +kernel)) (pi_range1 (by rfl) T.range (pa_cons pe_int pa_nil))
          (blkOk_by (N := nLaw) (sc := defScope sLaw) (by decide +kernel)) (fun _ _ _ _ _ => pg_name (i := 2) scLaw.nd rfl (Or.inl rfl)) (fun _ _ _ _ _ => pts_nil) (fun _ _ _ _ _ => by exact (pe_op op_rep (pe_lst (pa_cons pe_int pa_nil)) (pv 2))))
      (pss_cons (ps_for PassesOwn.never rfl (pi_list (pe_lst (pa_cons (pe_tup (pa_cons pe_int (pa_cons pe_int pa_nil))) (pa_cons (pe_tup (pa_cons pe_int (pa_cons pe_int pa_nil))) pa_nil)))) (pg_tup rfl (pgs_cons (pg_name (i := 2) scLaw.nd rfl (Or.inl rfl)) (pgs_cons (pg_name (i := 4) scLaw.nd rfl (Or.inl rfl)) pgs_nil)))
        (pss_cons (ps_setLc (i := 5) (own := [("_law_row", 6)]) (g := gName 6) (tt := tYes) (te := tCB (rLstL K) (tCons (tVar 6) tNil)) rfl scLaw.nd rfl rfl (sw_true rfl rfl rfl (by decide +kernel)) (pi_list (pe_slice sl_list (pv 3) po_none (po_some pe_int)))
            (blkOk_by (N := nLaw) (sc := defScope sLaw) (by decide +kernel)) (fun _ _ _ _ _ => pg_name (i := 6) scLaw.nd rfl (Or.inl rfl)) (fun _ _ _ _ _ => pts_nil) (fun _ _ _ _ _ => pe_callTy call_lstL (by rfl) T.list PyProof.Rows.boot_list (pa_cons (pv 6) pa_nil)))
        (pss_cons (ps_asg pe_int (pg_sub (pe_ix ix_list (pv 5) (pv 2) (fun _ _ => rfl)) (pv 4) set_list))
        (pss_one (ps_if (PW.pt (pw_or (pt_cmpR op_notBl (pe_use US hr5 (by rfl) (pa_cons pe_int (pa_cons (pv 5) pa_nil))) pe_bl (nomark _)) (pw_or1 (pt_cmpR op_notBl (pe_use US hr5 (by rfl) (pa_cons pe_int (pa_cons (pv 5) pa_nil))) pe_bl (nomark _))))) (pss_one (ps_ret pe_bl)) pss_nil)))))
      (pss_one (ps_ret (pe_and (pe_cmpR op_isBl (pe_use US hr5 (by rfl) (pa_cons pe_int (pa_cons (pv 3) pa_nil))) pe_bl (nomark _))
        (pe_and (pe_cmpR op_isBl (pe_use US hr5 (by rfl) (pa_cons pe_int (pa_cons (pe_slice sl_list (pv 3) po_none (po_some pe_int)) pa_nil))) pe_bl (nomark _))
        (pe_one (pe_cmpR op_isBl (pe_use US hr5 (by rfl) (pa_cons pe_int (pa_cons (pe_lst (pa_cons (pe_lst pa_nil) (pa_cons (pe_lst (pa_cons pe_int pa_nil)) pa_nil))) pa_nil))) pe_bl (nomark _))))))))), ?_⟩
    refine ⟨3, rfl, by decide, by decide, for_range (lo := 0) (n := (3 : Int).toNat) (fun i σ H' => ∃ v : Option V, σ = [some (.ref a), v, none, none, none, none, none] ∧ Same H H') ⟨none, rfl, Same.refl _⟩ ?_ ?_⟩
    · rintro i σ H' hi ⟨v, rfl, s1⟩
      have i3 : i < 3 := hi
      refine ⟨_, rfl, _, rfl, a, ns, i, (show [V.ref a, V.int (0 + (i : Int))] = [V.ref a, V.int (i : Int)] by rw [Int.zero_add]), by omega, s1.seq hS, fun g H1 sg ng G1 => ?_⟩
      refine ⟨g, 970000, rfl, G1, fun H2 b2 => ⟨_, rfl, iteF ⟨_, rfl, ?_⟩⟩⟩
      exact fun b o e => b2 b o (sg b o (s1 b o e)) (ne_of_none (s1 b o e) ng)
    · rintro σ H' ⟨v, rfl, s1⟩
      -- full
      refine ⟨41, rfl, by decide, by decide, fun D hD => ?_⟩
      refine lc_it (walk_range (lo := 0) (n := (41 : Int).toNat)) (fun i H2 => Same H' H2 ∧ ∃ rs, Tab H2 D rs (zs i) ∧ D ∉ rs) ⟨same_new hD, [], ⟨upd_same, rfl, fun i r ks h => by simp at h, List.nodup_nil⟩, by simp⟩ (fun _ _ _ _ => trivial) ?_ ?_
      · rintro i y H2 H3 hi ⟨s2, rs, t, nD⟩ ⟨rfl, rfl⟩
        have i41 : i < 41 := hi
        refine ⟨rfl, yes_of ?_⟩
        refine ⟨one_le, fun l nl => ?_⟩
        obtain ⟨I1, e1, r1, f1⟩ := gen H3 nl (.lst [.int 0])
        rw [e1]
        clear e1
        refine ⟨_, rfl, l, _, _, rfl, rfl, f1, by omega, by omega, ?_, fun p np => ?_⟩
        · have : ([V.int 0] : List V).length * (0 + (i : Int)).toNat ≤ 1000 := by
            show 1 * _ ≤ _
            omega
          exact Nat.le_of_lt (small1000 this)
        obtain ⟨I2, e2, r2, f2⟩ := gen I1 np (.lst (List.replicate (0 + (i : Int)).toNat [V.int 0]).flatten)
        rw [e2]
        clear e2
        have f2' : I2 p = some (.lst ((List.replicate i (0 : Int)).map V.int)) := by
          rw [f2, rep_one, show (0 + (i : Int)).toNat = i by omega]
        obtain ⟨t2, n2⟩ := t.push nD (fun r _ o e => r2 _ _ (r1 _ _ e)) (r1.free np) f2'
        have tl := t.len
        rw [zs_len] at tl
        refine ⟨rs.map V.ref, r2 _ _ (r1 _ _ t.top), ?_, fun b o e => ?_, rs ++ [p], ?_, n2⟩
        · rw [List.length_map]
          exact small1000 (by omega)
        · rw [upd_ne (ne_of_none e hD)]
          exact r2 b o (r1 b o (s2 b o e))
        · rw [zs_more]
          exact t2
      · rintro H2 ⟨s2, rs, t, nD⟩
        have t41 : Tab H2 D rs (zs 41) := t
        refine ⟨(by show 2 ≤ sizeLine; decide), fun t1 n1 => ?_⟩
        obtain ⟨J1, e1, r1, f1⟩ := gen H2 n1 (.tup [.int 39, .int 38])
        rw [e1]
        clear e1
        refine ⟨(by show 2 ≤ sizeLine; decide), fun t2 n2 => ?_⟩
        obtain ⟨J2, e2, r2, f2⟩ := gen J1 n2 (.tup [.int 20, .int 7])
        rw [e2]
        clear e2
        refine ⟨(by show 2 ≤ sizeLine; decide), fun L nL => ?_⟩
        obtain ⟨J3, e3, r3, f3⟩ := gen J2 nL (.lst [.ref t1, .ref t2])
        rw [e3]
        clear e3
        have sJ := (r1.trans r2).trans r3
        refine ⟨L, rfl, ⟨_, SqL.of f3⟩, ?_⟩
        refine for_list (K := K) (a := L) (xs := [.ref t1, .ref t2]) (fun i σ H4 => ∃ p m o : Option V, σ = [some (.ref a), v, p, some (.ref D), m, o, none] ∧ Same J3 H4) ⟨none, none, none, rfl, Same.refl _⟩ (fun i σ H4 _ z => by
          obtain ⟨_, _, _, _, s'⟩ := z
          exact SqL.of (s' _ _ f3)) ?_ ?_
        · rintro i y σ H4 hi ⟨p0, m0, o0, rfl, s4⟩
          obtain ⟨T0, p, m, rfl, fT, mp, p40, c2, c3⟩ : ∃ (T0 : Addr) (p m : Nat), y = .ref T0 ∧ J3 T0 = some (.tup [.int (p : Int), .int (m : Int)]) ∧ m < p ∧ p < 40 ∧ compOk 2 (oddOf p m) = false ∧ compOk 3 (oddOf p m) = true := by
            match i, hi with
            | 0, hi =>
              cases hi
              exact ⟨t1, 39, 38, rfl, r3 _ _ (r2 _ _ f1), by decide, by decide, odd_1, odd_2⟩
            | 1, hi =>
              cases hi
              exact ⟨t2, 20, 7, rfl, r3 _ _ f2, by decide, by decide, odd_3, odd_4⟩
            | i + 2, hi => simp at hi
          refine ⟨T0, _, rfl, SqT.of (s4 _ _ fT), rfl, _, _, rfl, _, _, rfl, rfl, ?_⟩
          refine tSeq_of (tAsg_of ?_)
          have t4 := t41.same (sJ.trans s4)
          refine comp_rowsI (K := K) (v := 6) (rs := rs.take 40) (kss := (zs 41).take 40) (ob := fun ks => .lst (ks.map V.int)) (by rw [List.length_take, zs_len]; decide) ?_ ?_ ?_ ?_
          · intro R k
            refine ⟨_, rfl, 40, rfl, D, _, rfl, SqL.of t4.top, fun c nc => k c _ (same_new nc) ?_⟩
            refine (t4.same (same_new nc)).take 40 ?_
            have ec : cutV (rs.map V.ref) none (some 40) = (rs.map V.ref).take 40 := cut_to (i := 40) (by rw [List.length_map, t4.len, zs_len]; decide)
            rw [upd_same, ec]
          · intro r ks H5' Q' hr _ k'
            exact ⟨_, rfl, r, _, rfl, SqL.of hr, fun p np => k' p _ (same_new np) np upd_same⟩
          · intro x
            rfl
          intro D2 H5 ps nD2 s5 f5 l5 at5 nd5 nD5 fr5
          have tD : Tab H5 D2 ps ((zs 41).take 40) := by
            have := Tab.of (h := id) f5 l5 at5 nd5
            rwa [List.map_id] at this
          obtain ⟨r, ks, h1, h2, h3⟩ := tD.at (i := p) (by rw [List.length_take, zs_len]; omega)
          have eks : ks = List.replicate p 0 := by
            rw [List.getElem?_take_of_lt p40] at h2
            unfold zs at h2
            rw [List.getElem?_map, List.getElem?_range (by omega)] at h2
            exact (Option.some.inj h2).symm
          subst eks
          refine ⟨_, rfl, _, rfl, D2, _, _, _, rfl, rfl, SqL.of f5, at_of (j := p) (v := V.ref r) rfl (by rw [List.getElem?_map, h1]; rfl), _, rfl, r, _, _, m, rfl, rfl, h3, ?_, ?_⟩
          · have := ix_in (j := (m : Int)) (n := ((List.replicate p (0 : Int)).map V.int).length) (by omega) (by rw [List.length_map, List.length_replicate]; omega)
            rw [this]
            rfl
          · obtain ⟨H6, e6, s6⟩ : ∃ H6, upd H5 r (.lst (((List.replicate p (0 : Int)).map V.int).set m (.int 2))) = H6 ∧ Same J3 H6 := ⟨_, rfl, fun b o e => by
              have nb : b ≠ r := fun z => by
                have := fr5 r (List.mem_of_getElem? h1)
                rw [← z, s4 b o e] at this
                cases this
              rw [upd_ne nb]
              exact s5 b o (s4 b o e)⟩
            have far : ∃ far : Addr, far ≠ D2 ∧ ∀ p ∈ ps, p ≠ far := by
              refine ⟨L, fun z => ?_, fun p hp z => ?_⟩
              · rw [z] at f3
                rw [s4 _ _ f3] at nD2
                cases nD2
              · have := fr5 p hp
                rw [z, s4 _ _ f3] at this
                cases this
            obtain ⟨far, fa1, fa2⟩ := far
            have dt : Dt K (hid2 H6 far far) (.ref D2) (oddOf p m) := set_dt (a := p) (j := m) (e := .int 2) tD e6 h1 h2 nD5 fa1.symm fa1.symm (fun p hp => ⟨fa2 p hp, fa2 p hp⟩) (.int 2)
            have d6 : Dt K H6 (.ref D2) (oddOf p m) := Dt.same hid2_hid _ _ dt
            rw [e6]
            refine ⟨_, rfl, .ref D2, oddOf p m, 2, rfl, by decide, by decide, d6, fun H7 s7 => ⟨_, _, rfl, rfl, _, rfl, iteNS c2 ?_⟩⟩
            have d7 : Dt K H7 (.ref D2) (oddOf p m) := Dt.same s7 _ _ d6
            exact ⟨_, rfl, .ref D2, oddOf p m, 3, rfl, by decide, by decide, d7, fun H8 s8 => ⟨_, _, rfl, rfl, _, rfl, iteNS c3 ⟨_, _, _, rfl, s6.trans (s7.trans s8)⟩⟩⟩
        · rintro σ H4 ⟨p0, m0, o0, rfl, s4⟩
          have t4 := t41.same (sJ.trans s4)
          have far : D ≠ L ∧ ∀ r ∈ rs, r ≠ L := ⟨ne_of_none ((r1.trans r2) _ _ t41.top) nL, fun r hr => by
            obtain ⟨i, hi⟩ := List.getElem?_of_mem hr
            have il := (List.getElem?_eq_some_iff.mp hi).1
            exact ne_of_none ((r1.trans r2) _ _ (t41.row i r _ hi (List.getElem?_eq_getElem (by rw [← t41.len]; exact il)))) nL⟩
          have d4 : Dt K H4 (.ref D) (.list ((zs 41).map rowD)) := Dt.same hid2_hid _ _ (tab_dt (K := K) (g := L) (d := L) t4 far.1 far.1 fun r hr => ⟨far.2 r hr, far.2 r hr⟩).2
          refine ⟨_, rfl, .ref D, _, 2, rfl, by decide, by decide, d4, fun H5 s5 => ⟨_, _, rfl, rfl, _, rfl, ?_⟩⟩
          rw [decide_eq_true full_1]
          refine iteT ⟨_, rfl, 40, rfl, D, _, rfl, SqL.of (s5 _ _ t4.top), fun c nc => ?_⟩
          obtain ⟨I1, e1, r1', f1'⟩ := gen H5 nc (.lst (cutV (rs.map V.ref) none (some 40)))
          rw [e1]
          clear e1
          have ec : cutV (rs.map V.ref) none (some 40) = (rs.map V.ref).take 40 := cut_to (i := 40) (by rw [List.length_map, t4.len, zs_len]; decide)
          have t6 : Tab I1 c (rs.take 40) ((zs 41).take 40) := (t4.same (s5.trans r1')).take 40 (by rw [f1', ec])
          have cL : c ≠ L := (ne_of_none (s5 _ _ (s4 _ _ f3)) nc).symm
          have d6 : Dt K I1 (.ref c) (.list (((zs 41).take 40).map rowD)) := Dt.same hid2_hid _ _ (tab_dt (K := K) (g := L) (d := L) t6 cL cL fun r hr => ⟨far.2 r (List.mem_of_mem_take hr), far.2 r (List.mem_of_mem_take hr)⟩).2
          refine ⟨.ref c, _, 2, rfl, by decide, by decide, d6, fun H7 s7 => ⟨_, _, rfl, rfl, _, rfl, ?_⟩⟩
          rw [decide_eq_true full_2]
          refine iteT ⟨Nat.zero_le _, fun b1 m1 => ?_⟩
          obtain ⟨I2, e2, u2, g2⟩ := gen H7 m1 (.lst [])
          rw [e2]
          clear e2
          refine ⟨one_le, fun b2 m2 => ?_⟩
          obtain ⟨I3, e3, u3, g3⟩ := gen I2 m2 (.lst [.int 8])
          rw [e3]
          clear e3
          refine ⟨(by show 2 ≤ sizeLine; decide), fun b3 m3 => ?_⟩
          obtain ⟨I4, e4, u4, g4⟩ := gen I3 m3 (.lst [.ref b1, .ref b2])
          rw [e4]
          clear e4
          have d8 : Dt K I4 (.ref b3) (.list [.list [], .list [.int 8]]) := .lst g4 (.cons (.lst (u4 _ _ (u3 _ _ g2)) .nil) (.cons (.lst (u4 _ _ g3) (.cons (.int 8) .nil)) .nil))
          refine ⟨.ref b3, _, 9, rfl, by decide, by decide, d8, fun H9 s9 => ⟨_, _, rfl, rfl, ?_⟩⟩
          rw [decide_eq_true full_3]
          exact q _
end
end K1

namespace K1
open PySem PySem.Spec PyProof.Rows L2 GL
/-- a def of the text as the top has left it -/
def Has (K : PySem.W.Frag) (x : Str) (st : Stmt) : Prop := ∃ (f : Addr) (oc : Value) (od : Option Addr) (kV dc pm : Value) (an : Option Addr) (cd ct : Value) (sl : Array (Option Value)), PySem.W.nsIn K mainGlobals x = some (some (.ref f)) ∧
  K.lookup f = some ⟨oc, od, .func (PySem.W.fnOf x x (defArgs st) (defBody st) (defScope st) .none kV dc pm an cd ct), sl⟩ ∧ PySem.W.codeIn K cd x = true ∧ PySem.W.keepIn K (.ref f) = true
theorem Has.fn {K : PySem.W.Frag} {x : Str} {st : Stmt} {h : Heap} {mg : Str → Option Value} (H : Has K x st) (X : K.In h) (G : h.Ns mainGlobals mg) : ∃ (f : Addr) (fd : FuncData), Fun K x x st f fd ∧ mg x = some (.ref f) := by
  obtain ⟨f, oc, od, kV, dc, pm, an, cd, ct, sl, a, l, c, k⟩ := H
  exact ⟨f, _, fun_mk (st := st) l c k, PySem.W.mg_of X G a⟩
theorem has_mk {K : PySem.W.Frag} {x : Str} {st : Stmt} {f : Addr} {oc kV dc pm cd ct : Value} {od an : Option Addr} {sl : Array (Option Value)} (a : PySem.W.nsIn K mainGlobals x = some (some (.ref f)))
    (l : K.lookup f = some ⟨oc, od, .func (PySem.W.fnOf x x (defArgs st) (defBody st) (defScope st) .none kV dc pm an cd ct), sl⟩) (c : PySem.W.codeIn K cd x = true) (k : PySem.W.keepIn K (.ref f) = true) : Has K x st := ⟨f, oc, od, kV, dc, pm, an, cd, ct, sl, a, l, c, k⟩
/-- a written number of the text -/
def HasInt (K : PySem.W.Frag) (x : Str) (n : Int) : Prop := ∃ t, PySem.W.nsIn K mainGlobals x = some (some (.int n t))
theorem hasInt_mk {K : PySem.W.Frag} {x : Str} {n : Int} {t : Tok} (a : PySem.W.nsIn K mainGlobals x = some (some (.int n t))) : HasInt K x n := ⟨t, a⟩
def HasNot (K : PySem.W.Frag) (x : Str) : Prop := PySem.W.nsIn K mainGlobals x = some none
theorem all_mk {l : PySem.W.OpenLaw} {w : World} {K : PySem.W.Frag} {h : Heap} {mg : Str → Option Value} {fa : Addr} (X : K.In h) (G : h.Ns mainGlobals mg) (hfa : mg "law" = some (.ref fa))
    (h7 : Has K "is_whole" sWhole) (h8 : Has K "is_below" sBelow) (h9 : Has K "are_kinds" sKinds) (h10 : Has K "is_row" sRow) (h11 : Has K "is_company_of" sCompOf) (h12 : Has K "check_kinds" sCheck) (h14 : Has K "is_company" sIs)
    (h16 : Has K "_law_hash" sHash) (h17 : Has K "_law_random" sRandom) (h18 : Has K "_law_cell" sCell) (h19 : Has K "_law_generator" sGen) (h20 : Has K "_law_yes" sYes) (h21 : Has K "_law_is_whole" sWhole2) (h22 : Has K "_law_tie" sTie)
    (h23 : Has K "_law_named" sNamed) (h24 : Has K "_law_order" sOrder) (h25 : Has K "_law_company" sCompany) (h26 : Has K "_law_is_company" sIs2) (h27 : Has K "_law_bent" sBent) (h28 : Has K "_law_right" sRight) (h29 : Has K "law" sLaw)
    (c1 : HasInt K "LEAST_KINDS" 2) (c2 : HasInt K "MOST_KINDS" 9) (c3 : HasInt K "MOST_PEOPLE" 40)
    (z1 : HasNot K "int") (z2 : HasNot K "len") (z3 : HasNot K "sum") (z4 : HasNot K "max") (z5 : HasNot K "min") (z6 : HasNot K "range") (z7 : HasNot K "isinstance") (z8 : HasNot K "bool") (z9 : HasNot K "list") (z10 : HasNot K "tuple")
    (z11 : HasNot K "all") (z12 : HasNot K "enumerate") (z13 : HasNot K "repr") :
    ∃ fd : FuncData, (∀ (s : Shared) (v : Value), BindsTo s fd ⟨[v], []⟩ [("_law_script", v)]) ∧ ∀ base : Heap, K.In base → base.Ns mainGlobals mg → FnG l.prog w K mg base CX0 7 fa fd ["_law_script"] (spLaw K) := by
  have nn : ∀ {x : Str}, HasNot K x → mg x = none := fun z => PySem.W.mg_none_of X G z
  have T : Bi mg := ⟨nn z1, nn z2, nn z3, nn z4, nn z5, nn z6, nn z7, nn z8, nn z9, nn z10, nn z11, nn z12, nn z13⟩
  have C : Cs mg := ⟨let ⟨t, a⟩ := c1; ⟨t, PySem.W.mg_of X G a⟩, let ⟨t, a⟩ := c2; ⟨t, PySem.W.mg_of X G a⟩, let ⟨t, a⟩ := c3; ⟨t, PySem.W.mg_of X G a⟩⟩
  obtain ⟨f7, fd7, F7, g7⟩ := h7.fn X G
  obtain ⟨f8, fd8, F8, g8⟩ := h8.fn X G
  obtain ⟨f9, fd9, F9, g9⟩ := h9.fn X G
  obtain ⟨f10, fd10, F10, g10⟩ := h10.fn X G
  obtain ⟨f11, fd11, F11, g11⟩ := h11.fn X G
  obtain ⟨f12, fd12, F12, g12⟩ := h12.fn X G
  obtain ⟨f14, fd14, F14, g14⟩ := h14.fn X G
  obtain ⟨f16, fd16, F16, g16⟩ := h16.fn X G
  obtain ⟨f17, fd17, F17, g17⟩ := h17.fn X G
  obtain ⟨f18, fd18, F18, g18⟩ := h18.fn X G
  obtain ⟨f19, fd19, F19, g19⟩ := h19.fn X G
  obtain ⟨f20, fd20, F20, g20⟩ := h20.fn X G
  obtain ⟨f21, fd21, F21, g21⟩ := h21.fn X G
  obtain ⟨f22, fd22, F22, g22⟩ := h22.fn X G
  obtain ⟨f23, fd23, F23, g23⟩ := h23.fn X G
  obtain ⟨f24, fd24, F24, g24⟩ := h24.fn X G
  obtain ⟨f25, fd25, F25, g25⟩ := h25.fn X G
  obtain ⟨f26, fd26, F26, g26⟩ := h26.fn X G
  obtain ⟨f27, fd27, F27, g27⟩ := h27.fn X G
  obtain ⟨f28, fd28, F28, g28⟩ := h28.fn X G
  have b7 := F7.binds (ps := ["value"]) fun _ _ _ _ _ _ us hl => match us, hl with | [_], _ => rfl
  have b8 := F8.binds (ps := ["value", "bound"]) fun _ _ _ _ _ _ us hl => match us, hl with | [_, _], _ => rfl
  have b9 := F9.binds (ps := ["value"]) fun _ _ _ _ _ _ us hl => match us, hl with | [_], _ => rfl
  have b10 := F10.binds (ps := ["kinds", "many", "value"]) fun _ _ _ _ _ _ us hl => match us, hl with | [_, _, _], _ => rfl
  have b11 := F11.binds (ps := ["kinds", "value"]) fun _ _ _ _ _ _ us hl => match us, hl with | [_, _], _ => rfl
  have b12 := F12.binds (ps := ["kinds"]) fun _ _ _ _ _ _ us hl => match us, hl with | [_], _ => rfl
  have b14 := F14.binds (ps := ["kinds", "value"]) fun _ _ _ _ _ _ us hl => match us, hl with | [_, _], _ => rfl
  have b16 := F16.binds (ps := ["_law_seed", "_law_index"]) fun _ _ _ _ _ _ us hl => match us, hl with | [_, _], _ => rfl
  have b17 := F17.binds (ps := ["_law_generator_here", "_law_bound"]) fun _ _ _ _ _ _ us hl => match us, hl with | [_, _], _ => rfl
  have b18 := F18.binds (ps := ["_law_script", "_law_index"]) fun _ _ _ _ _ _ us hl => match us, hl with | [_, _], _ => rfl
  have b19 := F19.binds (ps := ["_law_script", "_law_index"]) fun _ _ _ _ _ _ us hl => match us, hl with | [_, _], _ => rfl
  have b20 := F20.binds (ps := ["_law_told", "_law_due"]) fun _ _ _ _ _ _ us hl => match us, hl with | [_, _], _ => rfl
  have b21 := F21.binds (ps := ["_law_value"]) fun _ _ _ _ _ _ us hl => match us, hl with | [_], _ => rfl
  have b22 := F22.binds (ps := ["_law_company_here", "_law_one", "_law_other"]) fun _ _ _ _ _ _ us hl => match us, hl with | [_, _, _], _ => rfl
  have b23 := F23.binds (ps := ["_law_company_here", "_law_order_here"]) fun _ _ _ _ _ _ us hl => match us, hl with | [_, _], _ => rfl
  have b24 := F24.binds (ps := ["_law_generator_here", "_law_many"]) fun _ _ _ _ _ _ us hl => match us, hl with | [_, _], _ => rfl
  have b25 := F25.binds (ps := ["_law_generator_here", "_law_kinds", "_law_many"]) fun _ _ _ _ _ _ us hl => match us, hl with | [_, _, _], _ => rfl
  have b26 := F26.binds (ps := ["_law_kinds", "_law_value"]) fun _ _ _ _ _ _ us hl => match us, hl with | [_, _], _ => rfl
  have b27 := F27.binds (ps := ["_law_generator_here", "_law_kinds", "_law_company_here"]) fun _ _ _ _ _ _ us hl => match us, hl with | [_, _, _], _ => rfl
  have b28 := F28.binds (ps := ["_law_generator_here"]) fun _ _ _ _ _ _ us hl => match us, hl with | [_], _ => rfl
  have kw : KBinds K fd14 ["kinds", "value"] ["value", "kinds"] gK gKV := by
    obtain ⟨oc, od, kV, doc, pm, an, cdv, ct, osl, rfl, lk, hcd⟩ := F14.ex
    refine ⟨fun s us ws _ hl => ?_, fun a b => gK_rel a b⟩
    match us, ws, hl with
    | [], [v, k], _ => exact .of_eq rfl
  obtain ⟨f29, oc, od, kV, dc, pm, an, cd, ct, sl, a29, l29, c29, k29⟩ := h29
  have e := hfa.symm.trans (PySem.W.mg_of X G a29)
  cases e
  refine ⟨PySem.W.fnOf "law" "law" (defArgs sLaw) (defBody sLaw) (defScope sLaw) .none kV dc pm an cd ct, fun s v => .of_eq rfl, fun base _ _ => ?_⟩
  have U7 : Use l.prog w K mg base "is_whole" ["value"] (spWhole K) 1 := ⟨f7, fd7, ok_whole F7 T, g7, F7.kp, b7⟩
  have U8 : Use l.prog w K mg base "is_below" ["value", "bound"] (spBelow K) 2 := ⟨f8, fd8, ok_below F8 U7, g8, F8.kp, b8⟩
  have U9 : Use l.prog w K mg base "are_kinds" ["value"] (spKinds K) 2 := ⟨f9, fd9, ok_kinds F9 C U7, g9, F9.kp, b9⟩
  have U10 : Use l.prog w K mg base "is_row" ["kinds", "many", "value"] (spRow K) 3 := ⟨f10, fd10, ok_row F10 T U8, g10, F10.kp, b10⟩
  have U11 : Use l.prog w K mg base "is_company_of" ["kinds", "value"] (spCompOf K) 4 := ⟨f11, fd11, ok_compOf F11 T C U10, g11, F11.kp, b11⟩
  have U12 : Use l.prog w K mg base "check_kinds" ["kinds"] spCheck 3 := ⟨f12, fd12, ok_check F12 U9, g12, F12.kp, b12⟩
  have U14 : Use l.prog w K mg base "is_company" ["kinds", "value"] (spIs K) 5 := ⟨f14, fd14, ok_is F14 U12 U11, g14, F14.kp, b14⟩
  have K14 : UseKw l.prog w K mg base := ⟨f14, fd14, ok_is F14 U12 U11, g14, F14.kp, kw⟩
  have U16 : Use l.prog w K mg base "_law_hash" ["_law_seed", "_law_index"] spHash 1 := ⟨f16, fd16, ok_hash F16 T, g16, F16.kp, b16⟩
  have U17 : Use l.prog w K mg base "_law_random" ["_law_generator_here", "_law_bound"] spRandom 2 := ⟨f17, fd17, ok_random F17 T U16, g17, F17.kp, b17⟩
  have U18 : Use l.prog w K mg base "_law_cell" ["_law_script", "_law_index"] (spCell K) 1 := ⟨f18, fd18, ok_cell F18 T, g18, F18.kp, b18⟩
  have U19 : Use l.prog w K mg base "_law_generator" ["_law_script", "_law_index"] (spGen K) 2 := ⟨f19, fd19, ok_gen F19 T U18, g19, F19.kp, b19⟩
  have U20 : Use l.prog w K mg base "_law_yes" ["_law_told", "_law_due"] spYes 1 := ⟨f20, fd20, ok_yes F20 T, g20, F20.kp, b20⟩
  have U21 : Use l.prog w K mg base "_law_is_whole" ["_law_value"] (spWhole K) 1 := ⟨f21, fd21, ok_whole2 F21 T, g21, F21.kp, b21⟩
  have U22 : Use l.prog w K mg base "_law_tie" ["_law_company_here", "_law_one", "_law_other"] spTie 1 := ⟨f22, fd22, ok_tie F22 T, g22, F22.kp, b22⟩
  have U23 : Use l.prog w K mg base "_law_named" ["_law_company_here", "_law_order_here"] spNamed 2 := ⟨f23, fd23, ok_named F23 T U22, g23, F23.kp, b23⟩
  have U24 : Use l.prog w K mg base "_law_order" ["_law_generator_here", "_law_many"] spOrder 3 := ⟨f24, fd24, ok_order F24 T U17, g24, F24.kp, b24⟩
  have U25 : Use l.prog w K mg base "_law_company" ["_law_generator_here", "_law_kinds", "_law_many"] spCompany 4 := ⟨f25, fd25, ok_company F25 T U17 U22 U23 U24, g25, F25.kp, b25⟩
  have U26 : Use l.prog w K mg base "_law_is_company" ["_law_kinds", "_law_value"] (spCompOf K) 2 := ⟨f26, fd26, ok_is2 F26 T U21, g26, F26.kp, b26⟩
  have U27 : Use l.prog w K mg base "_law_bent" ["_law_generator_here", "_law_kinds", "_law_company_here"] (spBent K) 3 := ⟨f27, fd27, ok_bent F27 T U17, g27, F27.kp, b27⟩
  have U28 : UseG l.prog w K mg base "_law_right" ["_law_generator_here"] spRight 6 := ⟨f28, fd28, ok_right F28 T U17 U25 U27 U26 U14 K14 U20, g28, F28.kp, b28⟩
  exact ok_law (fun_mk (st := sLaw) l29 c29 k29) T U28 U19 U14
end K1
open PySem PySem.W PyProof.Rows
set_option maxRecDepth 100000 in
set_option maxHeartbeats 0 in
theorem PySem.Challenge.cw_twinties_k01_companies_holds : PySem.Challenge.rw_twinties_k01_companies.Holds := by
  w_on; o_law; k_head; (case hw => w_witness2)
  k_fill
  refine GL.walk_ofG (l := PySem.Challenge.rw_twinties_k01_companies) (n := 63) (k := 7) (x := "_law_script") (sp := K1.spLaw) rfl (by decide) rfl ⟨rfl, by decide, by decide⟩ (fun w h Y => PySem.W.kIn_of Y) ?F (fun K H a ns hl _ hS => ⟨a, ns, rfl, hS, fun _ => rfl⟩)
  case F =>
    intro w mg fa h KX G hmg
    refine' K1.all_mk KX G hmg ?h7 ?h8 ?h9 ?h10 ?h11 ?h12 ?h14 ?h16 ?h17 ?h18 ?h19 ?h20 ?h21 ?h22 ?h23 ?h24 ?h25 ?h26 ?h27 ?h28 ?h29 ?c1 ?c2 ?c3 ?z1 ?z2 ?z3 ?z4 ?z5 ?z6 ?z7 ?z8 ?z9 ?z10 ?z11 ?z12 ?z13
    (case h7 => refine' K1.has_mk ?a ?l ?c ?k; (case a => k_is); (case l => k_is); (case c => k_is); (case k => k_is))
    (case h8 => refine' K1.has_mk ?a ?l ?c ?k; (case a => k_is); (case l => k_is); (case c => k_is); (case k => k_is))
    (case h9 => refine' K1.has_mk ?a ?l ?c ?k; (case a => k_is); (case l => k_is); (case c => k_is); (case k => k_is))
    (case h10 => refine' K1.has_mk ?a ?l ?c ?k; (case a => k_is); (case l => k_is); (case c => k_is); (case k => k_is))
    (case h11 => refine' K1.has_mk ?a ?l ?c ?k; (case a => k_is); (case l => k_is); (case c => k_is); (case k => k_is))
    (case h12 => refine' K1.has_mk ?a ?l ?c ?k; (case a => k_is); (case l => k_is); (case c => k_is); (case k => k_is))
    (case h14 => refine' K1.has_mk ?a ?l ?c ?k; (case a => k_is); (case l => k_is); (case c => k_is); (case k => k_is))
    (case h16 => refine' K1.has_mk ?a ?l ?c ?k; (case a => k_is); (case l => k_is); (case c => k_is); (case k => k_is))
    (case h17 => refine' K1.has_mk ?a ?l ?c ?k; (case a => k_is); (case l => k_is); (case c => k_is); (case k => k_is))
    (case h18 => refine' K1.has_mk ?a ?l ?c ?k; (case a => k_is); (case l => k_is); (case c => k_is); (case k => k_is))
    (case h19 => refine' K1.has_mk ?a ?l ?c ?k; (case a => k_is); (case l => k_is); (case c => k_is); (case k => k_is))
    (case h20 => refine' K1.has_mk ?a ?l ?c ?k; (case a => k_is); (case l => k_is); (case c => k_is); (case k => k_is))
    (case h21 => refine' K1.has_mk ?a ?l ?c ?k; (case a => k_is); (case l => k_is); (case c => k_is); (case k => k_is))
    (case h22 => refine' K1.has_mk ?a ?l ?c ?k; (case a => k_is); (case l => k_is); (case c => k_is); (case k => k_is))
    (case h23 => refine' K1.has_mk ?a ?l ?c ?k; (case a => k_is); (case l => k_is); (case c => k_is); (case k => k_is))
    (case h24 => refine' K1.has_mk ?a ?l ?c ?k; (case a => k_is); (case l => k_is); (case c => k_is); (case k => k_is))
    (case h25 => refine' K1.has_mk ?a ?l ?c ?k; (case a => k_is); (case l => k_is); (case c => k_is); (case k => k_is))
    (case h26 => refine' K1.has_mk ?a ?l ?c ?k; (case a => k_is); (case l => k_is); (case c => k_is); (case k => k_is))
    (case h27 => refine' K1.has_mk ?a ?l ?c ?k; (case a => k_is); (case l => k_is); (case c => k_is); (case k => k_is))
    (case h28 => refine' K1.has_mk ?a ?l ?c ?k; (case a => k_is); (case l => k_is); (case c => k_is); (case k => k_is))
    (case h29 => refine' K1.has_mk ?a ?l ?c ?k; (case a => k_is); (case l => k_is); (case c => k_is); (case k => k_is))
    (case c1 => refine' K1.hasInt_mk ?a; (case a => k_is))
    (case c2 => refine' K1.hasInt_mk ?a; (case a => k_is))
    (case c3 => refine' K1.hasInt_mk ?a; (case a => k_is))
    (case z1 => (show PySem.W.nsIn _ mainGlobals _ = some none); k_is)
    (case z2 => (show PySem.W.nsIn _ mainGlobals _ = some none); k_is)
    (case z3 => (show PySem.W.nsIn _ mainGlobals _ = some none); k_is)
    (case z4 => (show PySem.W.nsIn _ mainGlobals _ = some none); k_is)
    (case z5 => (show PySem.W.nsIn _ mainGlobals _ = some none); k_is)
    (case z6 => (show PySem.W.nsIn _ mainGlobals _ = some none); k_is)
    (case z7 => (show PySem.W.nsIn _ mainGlobals _ = some none); k_is)
    (case z8 => (show PySem.W.nsIn _ mainGlobals _ = some none); k_is)
    (case z9 => (show PySem.W.nsIn _ mainGlobals _ = some none); k_is)
    (case z10 => (show PySem.W.nsIn _ mainGlobals _ = some none); k_is)
    (case z11 => (show PySem.W.nsIn _ mainGlobals _ = some none); k_is)
    (case z12 => (show PySem.W.nsIn _ mainGlobals _ = some none); k_is)
    (case z13 => (show PySem.W.nsIn _ mainGlobals _ = some none); k_is)

