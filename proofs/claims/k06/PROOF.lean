import PyProof.Rows.All
import Wide.All
import OpenK.AllK
import Wide.FinOn
import PyProof.ReprRoads
import HandS.ForMost
import HandS.IsInst
import HandS.Wide
import HandS.WideBits
import HandS.Conv
import HandS.Style
import HandS.Flow
import HandS.Walk
import HandS.Zip
import HandS.Deep
import KE.SortData
import KE.OsSetLaws
import HandS.SortInts
import PySem.Challenge.RW_twinties_k06_whole_houses
set_option Elab.async false
set_option linter.all false
set_option maxRecDepth 100000
set_option maxHeartbeats 4000000
/-! Defs whose promise is told where no guard of a repr stands around: a def that asks repr of a list holds its promise there alone. -/
namespace GL
open PySem PySem.Spec PyProof.Rows L2

/-- a def's promise, told of calls around which no repr is under way -/
structure FnG (P : Program) (w : World) (K : PySem.W.Frag) (mg : Str → Option Value) (base : Heap) (CX : CXT) (k : Nat) (f : Addr) (fd : FuncData) (ps : List Str) (sp : Sp) : Prop where
  many : ∀ vs H Q E, sp vs H Q E → vs.length = ps.length
  goes : ∀ (A : Around) (outer : List Env) (s : Shared) (H : Hp) (args : Args) (us : List Value) (vs : List V) (Q : VK) (E : XK), A.guards = some [] → Room k A →
    Env0 P w K mg base A outer s H → BindsTo s fd args (ps.zip us) → Vals vs us → sp vs H Q E → codeAny (model P w) A (.call (.ref f) args) (CR CX outer P w H s Q E) s

section
variable {P : Program} {w : World} {K : PySem.W.Frag} {mg : Str → Option Value} {base : Heap} {CX : CXT} {k : Nat} {f : Addr} {fd : FuncData} {ps : List Str} {sp : Sp}
theorem FnG.of (F : FnOk P w K mg base CX k f fd ps sp) : FnG P w K mg base CX k f fd ps sp := ⟨F.len, fun A o s H a us vs Q E _ => F.run A o s H a us vs Q E⟩
end

section
variable {P : Program} {w : World} {K : PySem.W.Frag} {mg : Str → Option Value} {base : Heap}
/-- the body's walk gives the promise -/
theorem FnG.mk' {x qual : Str} {st : Stmt} {f : Addr} {fd : FuncData} {N ps : List Str} {k : Nat} {sp : Sp} (F : Fun K x qual st f fd) (S : FnScope N ps (defScope st)) (many : ∀ vs H Q E, sp vs H Q E → vs.length = ps.length)
    (walk : ∀ (cdv : Value) (A : Around) (outer : List Env) (s : Shared) (H : Hp) (vs : List V) (Q : VK) (E : XK), A.guards = some [] → Room k (A.deeper (envOfC qual (defScope st) s.heap.objs.size f cdv)) → sp vs H Q E →
      ∃ t, PSs (cxOf CX0 P w K mg base N qual (defScope st) f cdv A outer s H E).nox (defBody st) t ∧ t { nx := fun _ H' => Q .non H', rt := Q } (start N vs) H) : FnG P w K mg base CX0 (k + 1) f fd ps sp := by
  obtain ⟨oc, od, kV, doc, pm, an, cdv, ct, osl, efd, lk, hcd⟩ := F.ex
  subst efd
  refine ⟨many, ?_⟩
  intro A outer s H args us vs Q E hg hr e0 hb rv hsp
  have cnt := many _ _ _ _ hsp
  have up : ∀ b o, base.get? b = some o → s.heap.get? b = some o := fun b o e => (e0.bs b o e).1
  have inK : K.In s.heap := e0.mod.kin.keeps up
  have kinds : ∀ y ∈ ps.zip us, (defScope st).names.lookup y.1 = some .local ∨ ((defScope st).names.lookup y.1 = some .cell ∧ ((cellsFrom (s.heap.objs.size + 1) (defScope st).names []).lookup y.1).isSome = true) := by
    rintro ⟨n, v⟩ hy
    exact (S.par n (List.of_mem_zip hy).1).elim (fun q => .inl q) fun q => .inr ⟨q, PySem.W.cellsFrom_some _ _ _ (.inl q)⟩
  refine codeAny_call_function hr.depth (inK _ _ lk) rfl S.co S.gen rfl (PySem.W.codeRec_of inK hcd) (hb _ _ _ _ (wpAny_newFunctionEnv_cells S.kind kinds fun env he s1 x => ?_))
  subst he
  refine ⟨(e0.mod.nolimit.keeps up).keeps x.toInCall.keep, codeAny_func ?_⟩
  obtain ⟨t, ht, hq⟩ := walk cdv A outer s H vs Q E hg (hr.deeper _) hsp
  refine wpAny_mono (ht.nox.run [] s1 (start N vs) H _ (inv_start S hr.hd e0 cnt rv x) hq) (fun fl s' hs => ?_) fun e s' hs => hs
  cases fl with
  | next => exact let ⟨σ', H', J, q⟩ := hs; ⟨V.non, H', J.os, J.bare, J.base, J.hok, rfl, q⟩
  | ret u => exact let ⟨v, σ', H', J, rr, q⟩ := hs; ⟨v, H', J.os, J.bare, J.base, J.hok, rr, q⟩
  | brk => obtain ⟨σ', H', J, q⟩ := hs; exact q.elim
  | cont => obtain ⟨σ', H', J, q⟩ := hs; exact q.elim
end
end GL

namespace GL
open PySem PySem.Spec PyProof.Rows L2
open L2 (Room)
/-! ### a call of such a def from a body around which no guard stands -/
section
variable {X : Cx} {CX : CXT} {k : Nat} {f : Addr} {fd : FuncData} {ps : List Str} {sp : Sp} {ds : List Value} {dvs : List V} {E : XK} {x : Str} {e : Expr} {es : List Expr} {t : TA} {p pos : Pos}
theorem FnG.used {pins : List (Addr × Obj)} {σ : L2.St} {H : Hp} {s : Shared} {Q : VK} {us : List Value} {vs : List V} (F : FnG X.prog X.w X.K X.mg X.base CX k f fd ps sp) (hg : X.A.guards = some []) (hr : Room k X.A) (hb : Binds X.K fd ps ds)
    (hd : Vals dvs ds) (hx : Passes CX X E) (I : Inv X pins σ H s) (r : Vals vs us) (h : sp (vs ++ dvs) H Q E) : wpAny (model X.prog X.w) X.A (call (.ref f) us) (EP X pins σ Q) X.xe s := by
  have both : Vals (vs ++ dvs) (us ++ ds) := r.append hd
  have cnt : (us ++ ds).length = ps.length := (both.length).symm.trans (F.many _ _ _ _ h)
  refine wpAny_call (codeAny_mono (F.goes X.A X.stack s H ⟨us, []⟩ (us ++ ds) (vs ++ dvs) Q E hg hr I.env0 (hb s us I.kIn cnt) both h) ?_)
  rintro (er | fl) s' q
  · exact hx pins σ H s er s' I q
  · match fl, q with
    | .ret u, q => exact I.after q
theorem pe_callG (F : FnG X.prog X.w X.K X.mg X.base CX k f fd ps sp) (hgd : X.A.guards = some []) (hr : Room k X.A) (hg : Gl X x) (hm : X.mg x = some (.ref f)) (hk : PySem.W.keepIn X.K (.ref f) = true) (hb : Binds X.K fd ps ds) (hd : Vals dvs ds) (hx : Passes CX X E)
    (ha : PA X (e :: es) t) (hdb : (x == ("__debug__" : Str)) = false := by decide) (he : starEach (e :: es) X.env = (false, eval e X.env) :: starEach es X.env := by rfl) (hpl : (backTo pos (starEach es X.env)).any (·.1) = false := by rfl) :
    PE X (.Call (.Name x p) (e :: es) [] pos) (tCall sp dvs E t) :=
  ⟨fun pins s σ H Q I h => wpAny_Call_Name_kw (ld_glob I hg hm (PySem.W.callWith_K (h₀ := X.base) I.ok.mod.kin hk (thn (ha.run pos pins s σ H _ I h) fun us s1 hh => by
    obtain ⟨vs, H1, I1, r, q⟩ := hh
    exact ⟨I1.kIn, F.used hgd hr hb hd hx I1 r q⟩) he hpl) hdb)⟩
end
/-! ### the end -/
theorem law_callG {P : Program} {w : World} {K : PySem.W.Frag} {mg mb : Str → Option Value} {k : Nat} {fa a : Addr} {fd : FuncData} {x : Str} {sp : Sp} {s₁ : Shared} {vs : List Value} {ns : List Int}
    (KX : K.In s₁.heap) (hns : s₁.heap.Ns mainGlobals mg) (hb : s₁.heap.Ns builtinsNs mb) (hbb : ∀ x : Str, x ≠ "__name__" → mb x = bootBuiltins x) (hlim : s₁.heap.NoLimit) (hgen : s₁.gens = #[])
    (ha : s₁.heap.get? a = some { cls := .type "list", data := .seq vs.toArray }) (hi : IntsAre vs ns) (hl : ns.length ≤ sizeLine) (hr : Room k callerA)
    (F : ∀ base : Heap, K.In base → base.Ns mainGlobals mg → FnG P w K mg base CX0 k fa fd [x] sp) (hbind : ∀ (s : Shared) (u : Value), BindsTo s fd ⟨[u], []⟩ [(x, u)])
    (hsp : ∀ H : Hp, Only H → SqL K H a (ns.map V.int) → sp [.ref a] H (fun v _ => v = .bl true) fun _ _ _ => False) :
    codeAny (model P w) callerA (.call (.ref fa) ⟨[.ref a], []⟩) (fun r s' => r = .ok (.ret (.bool true)) ∧ OldK s₁.heap s'.heap ∧ s'.os = s₁.os ∧ AllBare s'.gens) s₁ := by
  have vals := vals_ints hi
  have cnt := hi.length
  -- whichever heap of tracked things holds the script alone
  suffices main : ∀ H : Hp, Only H → SqL K H a (ns.map V.int) → HOk P w H s₁.heap → (∀ b, H b ≠ none → b = a ∧ K.lookup a = none) →
      codeAny (model P w) callerA (.call (.ref fa) ⟨[.ref a], []⟩) (fun r s' => r = .ok (.ret (.bool true)) ∧ OldK s₁.heap s'.heap ∧ s'.os = s₁.os ∧ AllBare s'.gens) s₁ by
    by_cases hk : ∃ o, K.lookup a = some o
    · obtain ⟨o, hk⟩ := hk
      have eo : o = { cls := .type "list", data := .seq vs.toArray } := Option.some.inj ((KX a o hk).symm.trans ha)
      subst eo
      exact main (fun _ => none) (fun _ => Or.inl rfl) (Or.inr ⟨_, vs.toArray, _, hk, rfl, rfl, rfl, by rw [List.size_toArray, cnt]; exact hl, by simpa using vals⟩) (fun b u z => nomatch (show (none : Option HO) = some u from z)) fun b z => (z rfl).elim
    · have hk0 : K.lookup a = none := by
        cases q : K.lookup a with
        | none => rfl
        | some o => exact (hk ⟨o, q⟩).elim
      refine main (fun b => if b = a then some (.frz { cls := .type "list", data := .seq vs.toArray } (.lst (ns.map V.int))) else none) ?_ (Or.inl (Or.inr ⟨_, if_pos rfl⟩)) ?_ ?_
      · intro b
        by_cases e : b = a
        · exact Or.inr ⟨_, _, if_pos e⟩
        · exact Or.inl (if_neg e)
      · intro b u z
        by_cases e : b = a
        · subst e
          have z' := Option.some.inj ((if_pos rfl).symm.trans z)
          subst z'
          exact ⟨ha, by rw [List.length_map]; exact hl, vs, _, vals, ha⟩
        · exact nomatch ((if_neg e).symm.trans z : (none : Option HO) = some u)
      · intro b z
        by_cases e : b = a
        · exact ⟨e, hk0⟩
        · exact (z (if_neg e)).elim
  intro H hO hS hok hA
  have free : ∀ {b : Addr} {o : Obj} {es : Array DictEntry} {ep : Nat}, s₁.heap.get? b = some o → o.data = .dict es ep → H b = none := by
    intro b o es ep e d
    cases q : H b with
    | none => rfl
    | some u =>
      have eb := (hA b (by rw [q]; exact fun z => nomatch z)).1
      subst eb
      have eo := Option.some.inj (ha.symm.trans e)
      subst eo
      exact nomatch (show Data.seq vs.toArray _ = Data.dict es ep from d)
  have space : ∀ {b : Addr} {m : Str → Option Value}, s₁.heap.Ns b m → (hidT s₁.heap H).Ns b m := by
    rintro b m ⟨o, es, ep, e, d, r⟩
    exact ⟨o, es, ep, hidT_get e (free e d), d, r⟩
  have inB : K.In (hidT s₁.heap H) := by
    intro b o e
    refine hidT_get (KX b o e) ?_
    cases q : H b with
    | none => rfl
    | some u =>
      obtain ⟨eb, n⟩ := hA b (by rw [q]; exact fun z => nomatch z)
      subst eb
      exact nomatch (n.symm.trans e)
  have md : Mod K mg (hidT s₁.heap H) := ⟨inB, space hns, ⟨mb, space hb, hbb⟩, by obtain ⟨mc, h1, h2⟩ := hlim; exact ⟨mc, space h1, h2⟩⟩
  have en : Env0 P w K mg (hidT s₁.heap H) callerA [] s₁ H :=
    { frames := rfl, mod := md, bs := fun b o e => of_hidT e, bsz := Nat.le_of_eq (hidT_size _ _), funs := trivial, frf := fun b z => (List.not_mem_nil z).elim, hok := hok, bare := .of_eq hgen }
  refine codeAny_mono ((F _ inB (space hns)).goes callerA [] s₁ H ⟨[.ref a], []⟩ [.ref a] [.ref a] _ _ rfl hr en (hbind s₁ (.ref a)) (.cons rfl .nil) (hsp H hO hS)) ?_
  rintro (er | fl) s' h
  · exact (show False from h).elim
  · match fl, h with
    | .ret u, h =>
      obtain ⟨v, H', os, bare, un, hok', rr, q⟩ := h
      have ev : v = .bl true := q
      subst ev
      have eu : u = Value.bool true := rr
      subst eu
      refine ⟨rfl, OldK.of_keep ?_, os, bare⟩
      intro b o e
      rcases hO b with z | ⟨ob, xs, z⟩
      · exact un.keep b o e z (fun z => (List.not_mem_nil z).elim) (fun z => (List.not_mem_nil z).elim)
      · have e1 := (hok b _ z).1
        have e2 := (hok' b _ (un.frzs b ob _ z)).1
        exact e2.trans (e1.symm.trans e)
theorem walk_ofG {l : PySem.W.OpenLaw} {n k : Nat} {q : Program} {loose : List Str} {XP : (Str → Option Value) → Heap → Prop} {YP : World → Heap → Prop} {d : DefRec} {K : Params → PySem.W.Frag} {sp : PySem.W.Frag → Sp} {x : Str}
    (hn : l.most = some n) (hn2 : n ≤ sizeLine) (hdf : d.params.defaults = []) (hr : Room k callerA) (hY : ∀ (w : World) (h : Heap), YP w h → (K w.params).In h)
    (F : ∀ (w : World) (mg : Str → Option Value) (fa : Addr) (h : Heap), (K w.params).In h → h.Ns mainGlobals mg → mg d.name = some (.ref fa) →
      ∃ fd : FuncData, (∀ (s : Shared) (u : Value), BindsTo s fd ⟨[u], []⟩ [(x, u)]) ∧ ∀ base : Heap, (K w.params).In base → base.Ns mainGlobals mg → FnG l.prog w (K w.params) mg base CX0 k fa fd [x] (sp (K w.params)))
    (hsp : ∀ (K : PySem.W.Frag) (H : Hp) (a : Addr) (ns : List Int), ns.length ≤ n → Only H → SqL K H a (ns.map V.int) → sp K [.ref a] H (fun v _ => v = .bl true) fun _ _ _ => False) :
    PySem.W.WalkO q loose XP YP l.row.toRowW d [] (fun f vs => PySem.call f vs) := by
  refine Att.attach_call hn hdf ?_
  intro w s₀ s₁ mg mb fa o pm cd doc a vs ns G Y ho hd hcd hmg hobj hints hlen hgen
  obtain ⟨fd, hb, hF⟩ := F w mg fa _ (hY w _ Y) G.T.g hmg
  exact law_callG (hY w _ Y) G.T.g G.T.b G.T.builtins G.T.nolimit hgen hobj hints (Nat.le_trans hlen hn2) hr hF hb fun H hO hS => hsp _ H a ns hlen hO hS

/-! ### data -/
mutual
/-- x stands for the datum d: lists, tuples, empty dicts -/
inductive Dt (K : PySem.W.Frag) (H : Hp) : V → PyData → Prop
  | non : Dt K H .non .none
  | bl (b : Bool) : Dt K H (.bl b) (.bool b)
  | int (i : Int) : Dt K H (.int i) (.int i)
  | str (x : Str) : Dt K H (.str x) (.str x)
  | lst {a : Addr} {xs : List V} {ds : List PyData} : H a = some (.lst xs) → Dts K H xs ds → Dt K H (.ref a) (.list ds)
  | tup {a : Addr} {xs : List V} {ds : List PyData} : H a = some (.tup xs) → Dts K H xs ds → Dt K H (.ref a) (.tuple ds)
  | dct {a : Addr} : H a = some (.dK []) → Dt K H (.ref a) (.dict [])
inductive Dts (K : PySem.W.Frag) (H : Hp) : List V → List PyData → Prop
  | nil : Dts K H [] []
  | cons {v : V} {vs : List V} {d : PyData} {ds : List PyData} : Dt K H v d → Dts K H vs ds → Dts K H (v :: vs) (d :: ds)
end
section
variable {X : Cx} {pins : List (Addr × Obj)} {σ : L2.St} {H : Hp} {s : Shared}
theorem Dt.obL {K : PySem.W.Frag} {a : Addr} {xs : List V} (I : Inv X pins σ H s) (h : H a = some (.lst xs)) : ∃ (its : List Value) (n : Nat), Vals xs its ∧ s.heap.get? a = some { cls := .type "list", data := .seq its.toArray n } :=
  let ⟨_, its, n, rv, ho⟩ := (show ObjOk X.prog X.w H s.heap a (.lst xs) from I.hok _ _ h)
  ⟨its, n, rv, ho⟩
theorem Dt.obT {a : Addr} {xs : List V} (I : Inv X pins σ H s) (h : H a = some (.tup xs)) : ∃ (its : List Value) (o : Obj) (n : Nat), Vals xs its ∧ s.heap.get? a = some o ∧ o.cls = .type "tuple" ∧ o.data = .seq its.toArray n :=
  let ⟨_, its, rv, o, h1, h2, n, h3⟩ := (show ObjOk X.prog X.w H s.heap a (.tup xs) from I.hok _ _ h)
  ⟨its, o, n, rv, h1, h2, h3⟩
theorem Dt.obD {a : Addr} (I : Inv X pins σ H s) (h : H a = some (.dK [])) : ∃ (o : Obj) (n : Nat), s.heap.get? a = some o ∧ o.cls = .type "dict" ∧ o.data = .dict #[] n ∧ (a == sysModules) = false := by
  obtain ⟨_, hsys, vs, hv, o, es, ep, h1, h2, h3, _, h4, _⟩ := (show ObjOk X.prog X.w H s.heap a (.dK []) from I.hok _ _ h)
  cases hv
  have e : es = #[] := by
    cases es with
    | mk l => 
      have z : l = [] := by
        cases h4
        rfl
      rw [z]
  subst e
  exact ⟨o, ep, h1, h2.1, h3, hsys⟩
mutual
theorem Dt.reads (I : Inv X pins σ H s) : ∀ (d : PyData) (v : V) (u : Value), Dt X.K H v d → RelV v u → ∃ as, Reads s.heap u d as
  | .none, _, _, h, r => by
    cases h
    cases r
    exact ⟨_, .none⟩
  | .bool b, _, _, h, r => by
    cases h
    cases r
    exact ⟨_, .bool b⟩
  | .int i, _, _, h, r => by
    cases h
    obtain ⟨t, rfl⟩ := r
    exact ⟨_, .int i t⟩
  | .str x, _, _, h, r => by
    cases h
    obtain ⟨t, rfl⟩ := r
    exact ⟨_, .str x t⟩
  | .list ds, v, _, h, r => by
    cases h with
    | lst hs ha =>
      cases r
      obtain ⟨its, n, rv, ho⟩ := Dt.obL (K := X.K) I hs
      obtain ⟨as, hr⟩ := Dt.readsAll I ds _ its ha rv
      exact ⟨_, .list ho rfl rfl hr⟩
  | .tuple ds, _, _, h, r => by
    cases h with
    | tup hs ha =>
      cases r
      obtain ⟨its, o, n, rv, h1, h2, h3⟩ := Dt.obT I hs
      obtain ⟨as, hr⟩ := Dt.readsAll I ds _ its ha rv
      exact ⟨_, .tuple h1 h2 h3 hr⟩
  | .dict kvs, _, _, h, r => by
    cases h with
    | dct hs =>
      cases r
      obtain ⟨o, n, h1, h2, h3, _⟩ := Dt.obD I hs
      exact ⟨_, .dict h1 h2 h3 .nil .nil⟩
theorem Dt.readsAll (I : Inv X pins σ H s) : ∀ (ds : List PyData) (vs : List V) (us : List Value), Dts X.K H vs ds → Vals vs us → ∃ as, ReadsAll s.heap us ds as
  | [], _, _, h, r => by
    cases h
    cases r
    exact ⟨_, .nil⟩
  | d :: ds, _, _, h, r => by
    cases h with
    | cons h1 h2 =>
      cases r with
      | cons r1 r2 =>
        obtain ⟨as, q1⟩ := Dt.reads I d _ _ h1 r1
        obtain ⟨bs, q2⟩ := Dt.readsAll I ds _ _ h2 r2
        exact ⟨_, .cons q1 q2⟩
end
theorem dictText_nil : dictText [] = ("{}" : Str) := by decide +kernel
mutual
theorem Dt.rep (I : Inv X pins σ H s) : ∀ (d : PyData) (v : V) (u : Value), Dt X.K H v d → RelV v u → d.showable = true → d.shown.length ≤ sizeLine → ∃ bs, ReadAtMost s.heap d.depth bs ∧ ReprK X.prog X.w bs s.heap d.depth u d.shown
  | .none, _, _, h, r, _, _ => by
    cases h
    cases r
    exact ⟨[], (fun _ z => nomatch z), by simp only [PyData.shown]; exact .of_is ReprIs.none _ _ _⟩
  | .bool b, _, _, h, r, _, _ => by
    cases h
    cases r
    exact ⟨[], (fun _ z => nomatch z), by simp only [PyData.shown]; exact .of_is (ReprIs.bool b) _ _ _⟩
  | .int i, _, _, h, r, hs, _ => by
    cases h
    obtain ⟨t, rfl⟩ := r
    exact ⟨[], (fun _ z => nomatch z), by simp only [PyData.shown]; exact .of_is (ReprIs.int t (by simpa [PyData.showable] using hs)) _ _ _⟩
  | .str x, _, _, h, r, _, hz => by
    cases h
    obtain ⟨t, rfl⟩ := r
    exact ⟨[], (fun _ z => nomatch z), by simp only [PyData.shown]; exact .of_is (ReprIs.str x t (by simpa only [PyData.shown] using hz)) _ _ _⟩
  | .list ds, v, u, h, r, hs, hz => by
    obtain ⟨as0, whole⟩ := Dt.reads I (.list ds) v u h r
    have hz' : (listText (PyData.shownAll ds)).length ≤ sizeLine := by simpa only [PyData.shown] using hz
    cases h with
    | lst hh ha =>
      cases r
      obtain ⟨its, n, rv, ho⟩ := Dt.obL (K := X.K) I hh
      obtain ⟨bs, hb, hk⟩ := Dt.repAll I ds _ its ha rv (by simpa [PyData.showable] using hs) fun t ht => Nat.le_trans (listText_mem_le ht) hz'
      have out := not_mem_of_deeper whole (n := PyData.depthAll ds) (by simp only [PyData.depth]; omega) hb
      refine ⟨_ :: bs, ReadAtMost.cons whole (by simp only [PyData.depth]; omega) hb, ?_⟩
      simp only [PyData.depth, PyData.shown]
      cases its with
      | nil =>
        cases rv
        cases ha
        simp only [PyData.shownAll, listText_nil]
        exact ReprK.listEmpty ho rfl rfl
      | cons x l => exact ReprK.list ho rfl rfl out (by simpa using hk.length_eq) fun i y e => hk.item i y (by simpa using e)
  | .tuple ds, v, u, h, r, hs, hz => by
    obtain ⟨as0, whole⟩ := Dt.reads I (.tuple ds) v u h r
    have hz' : (tupleText (PyData.shownAll ds)).length ≤ sizeLine := by simpa only [PyData.shown] using hz
    cases h with
    | tup hh ha =>
      cases r
      obtain ⟨its, o, n, rv, h1, h2, h3⟩ := Dt.obT I hh
      obtain ⟨bs, hb, hk⟩ := Dt.repAll I ds _ its ha rv (by simpa [PyData.showable] using hs) fun t ht => Nat.le_trans (tupleText_mem_le ht) hz'
      have out := not_mem_of_deeper whole (n := PyData.depthAll ds) (by simp only [PyData.depth]; omega) hb
      refine ⟨_ :: bs, ReadAtMost.cons whole (by simp only [PyData.depth]; omega) hb, ?_⟩
      simp only [PyData.depth, PyData.shown]
      exact ReprK.tuple h1 h2 h3 out hk
  | .dict kvs, v, u, h, r, hs, hz => by
    obtain ⟨as0, whole⟩ := Dt.reads I (.dict kvs) v u h r
    cases h with
    | dct hh =>
      cases r
      obtain ⟨o, n, h1, h2, h3, h4⟩ := Dt.obD I hh
      refine ⟨[_], ReadAtMost.cons whole (Nat.le_refl _) (fun _ z => nomatch z), ?_⟩
      simp only [PyData.depth, PyData.shown, PyData.shownKv]
      exact ReprK.dict h1 h2 h3 h4 (by simp) .nil
theorem Dt.repAll (I : Inv X pins σ H s) : ∀ (ds : List PyData) (vs : List V) (us : List Value), Dts X.K H vs ds → Vals vs us → PyData.showableAll ds = true → (∀ t ∈ PyData.shownAll ds, t.length ≤ sizeLine) →
    ∃ bs, ReadAtMost s.heap (PyData.depthAll ds) bs ∧ ReprAllK X.prog X.w bs s.heap (PyData.depthAll ds) us (PyData.shownAll ds)
  | [], _, _, h, r, _, _ => by
    cases h
    cases r
    exact ⟨[], (fun _ z => nomatch z), by simp only [PyData.shownAll]; exact .nil⟩
  | d :: ds, _, _, h, r, hs, hz => by
    have hs' : d.showable = true ∧ PyData.showableAll ds = true := by simpa [PyData.showableAll] using hs
    cases h with
    | cons h1 h2 =>
      cases r with
      | cons r1 r2 =>
        obtain ⟨b1, hb1, k1⟩ := Dt.rep I d _ _ h1 r1 hs'.1 (hz _ (by simp [PyData.shownAll]))
        obtain ⟨b2, hb2, k2⟩ := Dt.repAll I ds _ _ h2 r2 hs'.2 fun t ht => hz t (by simp [PyData.shownAll, ht])
        refine ⟨b1 ++ b2, fun b hm => ?_, ?_⟩
        · rcases List.mem_append.mp hm with z | z
          · obtain ⟨d', as', r', q⟩ := hb1 b z
            exact ⟨d', as', r', Nat.le_trans q (by simp only [PyData.depthAll]; omega)⟩
          · obtain ⟨d', as', r', q⟩ := hb2 b z
            exact ⟨d', as', r', Nat.le_trans q (by simp only [PyData.depthAll]; omega)⟩
        · simp only [PyData.depthAll, PyData.shownAll]
          exact .cons ((k1.more fun b z => List.mem_append_left _ z).level_le (by omega)) (k2.more_le (fun b z => List.mem_append_right _ z) (by omega))
end
/-- repr(x), x data -/
def rRepD (K : PySem.W.Frag) : List V → Hp → VK → Prop := fun xs H Q => ∃ x d, xs = [x] ∧ Dt K H x d ∧ d.showable = true ∧ d.shown.length ≤ sizeLine ∧ d.depth ≤ 60 ∧ Q (.str d.shown) H
theorem call_repD (hg : X.A.guards = some []) (hu : X.A.units + 64 < cLine) : CallR X (.builtin "repr") (rRepD X.K) := by
  intro pins s σ H xs us Q I r h
  obtain ⟨x, d, rfl, hd, hs, hz, hn, q⟩ := h
  obtain ⟨u, rfl, r1⟩ := vals1 r
  have back : ∀ (h' : Heap) (t : Tok) (tk : Nat), (∀ b o, s.heap.get? b = some o → h'.get? b = some o) → EP X pins σ Q (.str d.shown t) { s with heap := h', toks := tk } := fun h' t tk k =>
    ⟨.str d.shown, H, I.kept k, ⟨t, rfl⟩, q⟩
  cases d with
  | none =>
    cases hd
    cases r1
    exact PySem.P.repr_of_none (back _ _ _ fun _ _ e => e)
  | bool b =>
    cases hd
    cases r1
    exact PySem.P.repr_of_bool (back _ _ _ fun _ _ e => e)
  | int i =>
    cases hd
    obtain ⟨t, rfl⟩ := r1
    exact PySem.P.repr_of_int (by simpa [PyData.showable] using hs) (back _ _ _ fun _ _ e => e)
  | str y =>
    cases hd
    obtain ⟨t, rfl⟩ := r1
    exact PySem.P.repr_of_str (back _ _ _ fun _ _ e => e) (by simpa only [PyData.shown] using hz)
  | list ds =>
    obtain ⟨as0, whole⟩ := Dt.reads I (.list ds) x u hd r1
    have hz' : (listText (PyData.shownAll ds)).length ≤ sizeLine := by simpa only [PyData.shown] using hz
    cases hd with
    | lst hh ha =>
      cases r1
      obtain ⟨its, n, rv, ho⟩ := Dt.obL (K := X.K) I hh
      obtain ⟨bs, hb, hk⟩ := Dt.repAll I ds _ its ha rv (by simpa [PyData.showable] using hs) fun t ht => Nat.le_trans (listText_mem_le ht) hz'
      have out := not_mem_of_deeper whole (n := PyData.depthAll ds) (by simp only [PyData.depth]; omega) hb
      simp only [PyData.depth] at hn
      refine call_repr_slot (by omega) ⟨_, ho, rfl⟩ F.slot_list_repr.toG ?_
      cases its with
      | nil =>
        cases rv
        cases ha
        simp only [PyData.shown, PyData.shownAll, listText_nil] at back
        exact call_list_repr_empty ⟨_, ho, rfl⟩ ho rfl ⟨_, _, rfl, back s.heap _ _ fun _ _ e => e⟩
      | cons y l =>
        simp only [PyData.shown] at back
        exact call_list_reprK ho rfl rfl out (by simpa using hk.length_eq) (fun i y e => hk.item i y (by simpa using e)) hg (fun b _ => Clear.nil b) (by show X.A.units + 1 + _ < _; omega) (fun _ _ e => e) (fun h' u tk k => ⟨_, _, rfl, back h' u tk k⟩) hz'
  | tuple ds =>
    obtain ⟨as0, whole⟩ := Dt.reads I (.tuple ds) x u hd r1
    have hz' : (tupleText (PyData.shownAll ds)).length ≤ sizeLine := by simpa only [PyData.shown] using hz
    cases hd with
    | tup hh ha =>
      cases r1
      obtain ⟨its, o, n, rv, h1, h2, h3⟩ := Dt.obT I hh
      obtain ⟨bs, hb, hk⟩ := Dt.repAll I ds _ its ha rv (by simpa [PyData.showable] using hs) fun t ht => Nat.le_trans (tupleText_mem_le ht) hz'
      have out := not_mem_of_deeper whole (n := PyData.depthAll ds) (by simp only [PyData.depth]; omega) hb
      simp only [PyData.depth] at hn
      simp only [PyData.shown] at back
      exact call_repr_slot (by omega) ⟨o, h1, h2⟩ F.slot_tuple_repr (call_tuple_reprK h1 h2 h3 out hk hg (fun b _ => Clear.nil b) (by show X.A.units + 1 + _ < _; omega) (fun _ _ e => e) (fun h' u tk k => ⟨_, _, rfl, back h' u tk k⟩) hz')
  | dict kvs =>
    cases hd with
    | dct hh =>
      cases r1
      obtain ⟨o, n, h1, h2, h3, h4⟩ := Dt.obD I hh
      simp only [PyData.shown, PyData.shownKv] at back hz
      exact call_repr_slot (by omega) ⟨o, h1, h2⟩ F.slot_dict_repr (call_dict_reprK (as := []) (d := 0) h1 h2 h3 h4 (by simp) .nil hg (fun b _ => Clear.nil b) (by show X.A.units + 1 + _ < _; omega) (fun _ _ e => e) (fun h' u tk k => ⟨_, _, rfl, back h' u tk k⟩) hz)
end
end GL

namespace GL
open PySem PySem.Spec PyProof.Rows L2
/-! ### a def of the text, ready to be called -/
structure Use (P : Program) (w : World) (K : PySem.W.Frag) (mg : Str → Option Value) (base : Heap) (x : Str) (ps : List Str) (sp : Sp) (k : Nat) : Prop where
  ex : ∃ f fd, FnOk P w K mg base CX0 k f fd ps sp ∧ mg x = some (.ref f) ∧ PySem.W.keepIn K (.ref f) = true ∧ Binds K fd ps []
structure UseG (P : Program) (w : World) (K : PySem.W.Frag) (mg : Str → Option Value) (base : Heap) (x : Str) (ps : List Str) (sp : Sp) (k : Nat) : Prop where
  ex : ∃ f fd, FnG P w K mg base CX0 k f fd ps sp ∧ mg x = some (.ref f) ∧ PySem.W.keepIn K (.ref f) = true ∧ Binds K fd ps []
section
variable {X : Cx} {ps : List Str} {sp : Sp} {x : Str} {e : Expr} {es : List Expr} {t : TA} {p pos : Pos} {k : Nat}
theorem pe_use (U : Use X.prog X.w X.K X.mg X.base x ps sp k) (hr : Room k X.A) (hg : Gl X x) (ha : PA X (e :: es) t)
    (hdb : (x == ("__debug__" : Str)) = false := by decide) (he : starEach (e :: es) X.env = (false, eval e X.env) :: starEach es X.env := by rfl) (hpl : (backTo pos (starEach es X.env)).any (·.1) = false := by rfl) :
    PE X (.Call (.Name x p) (e :: es) [] pos) (tCall sp [] E0 t) := by
  obtain ⟨f, fd, F, hm, hk, hb⟩ := U.ex
  exact pe_call F hr hg hm hk hb .nil pass0 ha hdb he hpl
theorem pe_useG (U : UseG X.prog X.w X.K X.mg X.base x ps sp k) (hgd : X.A.guards = some []) (hr : Room k X.A) (hg : Gl X x) (ha : PA X (e :: es) t)
    (hdb : (x == ("__debug__" : Str)) = false := by decide) (he : starEach (e :: es) X.env = (false, eval e X.env) :: starEach es X.env := by rfl) (hpl : (backTo pos (starEach es X.env)).any (·.1) = false := by rfl) :
    PE X (.Call (.Name x p) (e :: es) [] pos) (tCall sp [] E0 t) := by
  obtain ⟨f, fd, F, hm, hk, hb⟩ := U.ex
  exact pe_callG F hgd hr hg hm hk hb .nil pass0 ha hdb he hpl
/-- f(k = v, ..), nothing by place -/
theorem pe_kws {CX : CXT} {f : Addr} {fd : FuncData} {ks : List Str} {E : XK} {kws : List Keyword} {tk : TA} {g : List Value → List Value → List Value} {gV : List V → List V → List V}
    (F : FnOk X.prog X.w X.K X.mg X.base CX k f fd ps sp) (hr : Room k X.A) (hg : Gl X x) (hm : X.mg x = some (.ref f)) (hk : PySem.W.keepIn X.K (.ref f) = true) (hb : KBinds X.K fd ps ks g gV) (hx : Passes CX X E) (hkw : PK X kws tk)
    (hall : (backToKw pos (keywordEach kws X.env)).all (·.1.isSome) = true := by rfl) (hks : (backToKw pos (keywordEach kws X.env)).filterMap (·.1) = ks := by rfl) (hdb : (x == ("__debug__" : Str)) = false := by decide)
    (hpl : ((backTo pos (starEach [] X.env)).any (·.1) || (backToKw pos (keywordEach kws X.env)).any (·.1.isNone)) = false := by rfl) :
    PE X (.Call (.Name x p) [] kws pos) (tCallK sp gV E tNil tk) :=
  ⟨fun pins s σ H Q I h => wpAny_Call_Name_kw (ld_glob I hg hm (PySem.W.callWith_KW0 (h₀ := X.base) I.ok.mod.kin hk hall (thn (hkw.run pos pins s σ H _ I h) fun ws s2 hh => by
    obtain ⟨zs, H2, I2, rz, q2⟩ := hh
    refine ⟨I2.kIn, ?_⟩
    rw [hks]
    exact run_fnk F hr hb hx I2 .nil rz q2) hpl) hdb)⟩
end
/-! ### rules -/
section
variable {X : Cx} {pos : Pos}
def CPowW (i j : Int) : Prop := 0 ≤ j ∧ (Builtin.Int.intBits i : Int) * j ≤ 2 ^ 27
theorem op_powW : OpR X (binaryOp .Pow) (rI CPowW fun i j => .int (i ^ j.toNat)) := opI fun _ _ _ _ _ _ _ hc q => pow_int hc.1 hc.2 q
/-- xs != ys, ys an empty list -/
def rNeNil (K : PySem.W.Frag) : R2 := fun x y H Q => ∃ a b xs, x = .ref a ∧ y = .ref b ∧ SqL K H a xs ∧ SqL K H b [] ∧ Q (.bl (!xs.isEmpty)) H
theorem op_neNil (hu : X.A.units + 64 < cLine) : OpR X (compareOp .NotEq) (rNeNil X.K) := by
  intro pins s σ H x y v u Q I rx ry h
  obtain ⟨a, b, xs, rfl, rfl, ha, hb, q⟩ := h
  cases rx
  cases ry
  obtain ⟨is, ra, pa, _⟩ := I.list ha
  obtain ⟨js, rb, pb, _⟩ := I.list hb
  cases rb
  cases xs with
  | nil =>
    cases ra
    exact (SeqAt.RcNeAt.lists (e := fun _ => true) pa.isList pb.isList rfl (by omega) (fun j h1 => absurd h1 (by simp))) _ _ _ _ ⟨.bl _, H, I, rfl, q⟩
  | cons z zs =>
    cases ra with
    | cons r1 r2 => exact (SeqAt.RcNeAt.lists_lengths pa.isList pb.isList (by simp) (by omega)) _ _ _ _ ⟨.bl _, H, I, rfl, q⟩
/-- xs[::0 - 1] -/
theorem pe_revB {e : Expr} {te : TE} {k k2 : Nat} {p1 p2 p3 p4 : Pos} (he : PE X e te) : PE X (.Subscript e (.Slice none none (some (.BinOp (.Constant (.int 0) k p1) .Sub (.Constant (.int 1) k2 p4) p2)) p3) pos) (tRevL X.K te) := by
  refine ⟨fun pins s σ H Q I h => Subscript_ (thn (he.run pins s σ H _ I h) ?_)⟩
  rintro v s1 ⟨x, H1, I1, r1, a, xs, rfl, hx, q⟩
  cases r1
  have back : PO X (some (.BinOp (.Constant (.int 0) k p1) .Sub (.Constant (.int 1) k2 p4) p2)) (tPart (tOp (rI0 fun i j => .int (i - j)) (tC (.int 0)) (tC (.int 1)))) := po_some (pe_op op_sub pe_int pe_int)
  refine wpAny_Slice (thn (po_none.run pins s1 σ H1 (fun o H2 => o = none ∧ H2 = H1) I1 ⟨rfl, rfl⟩) ?_)
  rintro vl s2 ⟨l, H2, I2, pl, rfl, rfl⟩
  refine thn (po_none.run pins s2 σ H2 (fun o H3 => o = none ∧ H3 = H2) I2 ⟨rfl, rfl⟩) ?_
  rintro vu s3 ⟨u, H3, I3, pu, rfl, rfl⟩
  refine thn (back.run pins s3 σ H3 (fun o H4 => o = some (-1) ∧ H4 = H3) I3 ⟨0, 1, rfl, rfl, -1, rfl, rfl, rfl⟩) ?_
  rintro vs s4 ⟨o, H4, I4, ps, rfl, rfl⟩
  have I5 : Inv X pins σ H4 { s4 with heap := s4.heap.push { cls := .type "slice", data := .fields #[vl, vu, vs] } } := I4.kept (t' := s4.toks) fun b ob q => Heap.get?_push_of_some _ q
  obtain ⟨its, r, ht, hz⟩ := I5.list hx
  have cnt := r.length
  refine tail_any (ops := [.ref a, .ref s4.heap.objs.size]) ht.isList.typeIs PySem.slot_list_getitem.lookup (wpAny_getItem_list_slice ht.isList (Heap.IsSliceOf.new _ vl vu vs) pl pu ps (by decide) ?_ (by rw [List.size_toArray]; omega)) (by with_unfolding_all rfl)
  rw [PySem.W.krv_pick]
  exact ⟨.ref _, _, I5.laid (t' := s4.toks) (o := .lst xs.reverse) (fun b ob q => Heap.get?_push_of_some _ q) (Nat.le_refl _) ⟨by rw [List.length_reverse]; exact hz, _, 0, r.reverse, Heap.get?_push_size _ rfl⟩, rfl, q _ (I5.hok.fresh (Nat.le_refl _))⟩
end
end GL

namespace GL
open PySem PySem.Spec PyProof.Rows L2
theorem same_new {p : Addr} {H : Hp} {o : HO} (h : H p = none) : Same H (upd H p o) := fun b u e => by rw [upd_ne (ne_of_none e h)]; exact e
mutual
theorem Dt.same {K : PySem.W.Frag} {H H' : Hp} (s : Same H H') : ∀ (d : PyData) (v : V), Dt K H v d → Dt K H' v d
  | .none, _, h => by cases h; exact .non
  | .bool b, _, h => by cases h; exact .bl b
  | .int i, _, h => by cases h; exact .int i
  | .str x, _, h => by cases h; exact .str x
  | .list ds, _, h => by
    cases h with
    | lst e a => exact .lst (s _ _ e) (Dts.same s ds _ a)
  | .tuple ds, _, h => by
    cases h with
    | tup e a => exact .tup (s _ _ e) (Dts.same s ds _ a)
  | .dict kvs, _, h => by
    cases h with
    | dct e => exact .dct (s _ _ e)
theorem Dts.same {K : PySem.W.Frag} {H H' : Hp} (s : Same H H') : ∀ (ds : List PyData) (vs : List V), Dts K H vs ds → Dts K H' vs ds
  | [], _, h => by cases h; exact .nil
  | d :: ds, _, h => by
    cases h with
    | cons a b => exact .cons (Dt.same s d _ a) (Dts.same s ds _ b)
end
theorem Dts.length {K : PySem.W.Frag} {H : Hp} : ∀ {vs : List V} {ds : List PyData}, Dts K H vs ds → vs.length = ds.length
  | _, _, .nil => rfl
  | _, _, .cons _ b => congrArg (· + 1) b.length
theorem Dts.get {K : PySem.W.Frag} {H : Hp} : ∀ {vs : List V} {ds : List PyData} {i : Nat} {v : V}, Dts K H vs ds → vs[i]? = some v → ∃ d, ds[i]? = some d ∧ Dt K H v d
  | _, _, i, v, .nil, e => by simp at e
  | _, _, 0, v, .cons a _, e => by
    cases e
    exact ⟨_, rfl, a⟩
  | _, _, i + 1, v, .cons _ b, e => b.get (i := i) (v := v) e
theorem Dts.append {K : PySem.W.Frag} {H : Hp} : ∀ {vs ws : List V} {ds es : List PyData}, Dts K H vs ds → Dts K H ws es → Dts K H (vs ++ ws) (ds ++ es)
  | _, _, _, _, .nil, z => z
  | _, _, _, _, .cons a b, z => .cons a (b.append z)
def tyOf : PyData → String
  | .none => "NoneType" | .bool _ => "bool" | .int _ => "int" | .str _ => "str" | .list _ => "list" | .tuple _ => "tuple" | .dict _ => "dict"
theorem Dt.ty {K : PySem.W.Frag} {H : Hp} {x : V} {d : PyData} (h : Dt K H x d) : TyX K H x (.type (tyOf d)) := by
  cases h with
  | non => exact .base .non
  | bl b => exact .base (.bl b)
  | int i => exact .base (.int i)
  | str x => exact .base (.str x)
  | lst e _ => exact .base (.lst e)
  | tup e _ => exact .base (.tup e)
  | dct e => exact .base (.dK e)
def isInt : PyData → Bool
  | .bool _ => true | .int _ => true | _ => false
def isBool : PyData → Bool
  | .bool _ => true | _ => false
def isList : PyData → Bool
  | .list _ => true | _ => false
theorem kit_int {K : PySem.W.Frag} (d : PyData) : PySem.W.kitOne K (.type (tyOf d)) (.type "int") = some (isInt d) := by
  cases d with
  | none => exact kit_ty (show kitB "NoneType" "int" = some false by decide +kernel)
  | bool _ => exact kit_ty (show kitB "bool" "int" = some true by decide +kernel)
  | int _ => exact kit_ty (show kitB "int" "int" = some true by decide +kernel)
  | str _ => exact kit_ty (show kitB "str" "int" = some false by decide +kernel)
  | list _ => exact kit_ty (show kitB "list" "int" = some false by decide +kernel)
  | tuple _ => exact kit_ty (show kitB "tuple" "int" = some false by decide +kernel)
  | dict _ => exact kit_ty (show kitB "dict" "int" = some false by decide +kernel)
theorem kit_bool {K : PySem.W.Frag} (d : PyData) : PySem.W.kitOne K (.type (tyOf d)) (.type "bool") = some (isBool d) := by
  cases d with
  | none => exact kit_ty (show kitB "NoneType" "bool" = some false by decide +kernel)
  | bool _ => exact kit_ty (show kitB "bool" "bool" = some true by decide +kernel)
  | int _ => exact kit_ty (show kitB "int" "bool" = some false by decide +kernel)
  | str _ => exact kit_ty (show kitB "str" "bool" = some false by decide +kernel)
  | list _ => exact kit_ty (show kitB "list" "bool" = some false by decide +kernel)
  | tuple _ => exact kit_ty (show kitB "tuple" "bool" = some false by decide +kernel)
  | dict _ => exact kit_ty (show kitB "dict" "bool" = some false by decide +kernel)
theorem kit_list {K : PySem.W.Frag} (d : PyData) : PySem.W.kitOne K (.type (tyOf d)) (.type "list") = some (isList d) := by
  cases d with
  | none => exact kit_ty (show kitB "NoneType" "list" = some false by decide +kernel)
  | bool _ => exact kit_ty (show kitB "bool" "list" = some false by decide +kernel)
  | int _ => exact kit_ty (show kitB "int" "list" = some false by decide +kernel)
  | str _ => exact kit_ty (show kitB "str" "list" = some false by decide +kernel)
  | list _ => exact kit_ty (show kitB "list" "list" = some true by decide +kernel)
  | tuple _ => exact kit_ty (show kitB "tuple" "list" = some false by decide +kernel)
  | dict _ => exact kit_ty (show kitB "dict" "list" = some false by decide +kernel)
theorem yes_of {σ : L2.St} {H : Hp} {A B : Bool → Hp → Prop} (h : A true H) : tYes σ H (fun b H' => if b = true then A b H' else B b H') := by
  show (if true = true then A true H else B true H)
  exact iteT h
end GL

/-! Data whose repr is known to fit: leaves, and lists and tuples of at most fifty things, three deep. -/
namespace GL
open PySem PySem.Spec PyProof.Rows L2
def Leaf : PyData → Prop
  | .none => True
  | .bool _ => True
  | .int i => i.natAbs < 2 ^ 100
  | .str x => (reprText x).length ≤ 110
  | .dict kvs => kvs = []
  | _ => False
def Nice : Nat → PyData → Prop
  | 0, d => Leaf d
  | n + 1, d => Leaf d ∨ ∃ ds, (d = .list ds ∨ d = .tuple ds) ∧ ds.length ≤ 50 ∧ ∀ e ∈ ds, Nice n e
theorem Nice.leaf {n : Nat} {d : PyData} (h : Leaf d) : Nice n d := by
  cases n with
  | zero => exact h
  | succ n => exact .inl h
theorem Nice.up {n : Nat} {d : PyData} (h : Nice n d) : Nice (n + 1) d := by
  induction n generalizing d with
  | zero => exact .inl h
  | succ n ih =>
    rcases h with h | ⟨ds, e, l, a⟩
    · exact .inl h
    · exact .inr ⟨ds, e, l, fun x hx => ih (a x hx)⟩
theorem Nice.list {n : Nat} {ds : List PyData} (l : ds.length ≤ 50) (a : ∀ e ∈ ds, Nice n e) : Nice (n + 1) (.list ds) := .inr ⟨ds, .inl rfl, l, a⟩
theorem Nice.tuple {n : Nat} {ds : List PyData} (l : ds.length ≤ 50) (a : ∀ e ∈ ds, Nice n e) : Nice (n + 1) (.tuple ds) := .inr ⟨ds, .inr rfl, l, a⟩
theorem textFrom_le : ∀ (ts : List Str) (k : Nat) (acc : Str), (textFrom k acc ts).length ≤ acc.length + piled ts
  | [], k, acc => Nat.le_refl _
  | t :: r, k, acc => by
    have ih := textFrom_le r (k + 1) (acc ++ (if k > 0 then ", " else "" : String) ++ t)
    rw [strLen_append, strLen_append] at ih
    rw [piled_cons]
    show (textFrom (k + 1) (acc ++ (if k > 0 then ", " else "" : String) ++ t) r).length ≤ _
    have e : (Str.ofString (if k > 0 then ", " else "" : String)).length ≤ 2 := by
      by_cases h : k > 0
      · rw [if_pos h]
        exact Nat.le_of_eq rfl
      · rw [if_neg h]
        exact Nat.zero_le _
    omega
theorem listText_le (ts : List Str) : (listText ts).length ≤ 2 + piled ts := by
  unfold listText
  rw [strLen_append]
  have := textFrom_le ts 0 "["
  have e1 : (Str.ofString "[").length = 1 := rfl
  have e2 : (Str.ofString "]").length = 1 := rfl
  omega
theorem tupleText_le (ts : List Str) : (tupleText ts).length ≤ 3 + piled ts := by
  unfold tupleText
  rw [strLen_append, strLen_append]
  have e1 : (Str.ofString "(").length = 1 := rfl
  have e2 : (Str.ofString (if ts.length == 1 then ",)" else ")" : String)).length ≤ 2 := by
    by_cases h : (ts.length == 1) = true
    · rw [if_pos h]
      exact Nat.le_of_eq rfl
    · rw [if_neg h]
      exact Nat.le_succ _
  cases ts with
  | nil =>
    have e3 : (Str.join ", " ([] : List Str)).length = 0 := rfl
    omega
  | cons t r =>
    have := join_length_add (t :: r) (by simp)
    omega
theorem piled_le {B : Nat} : ∀ {ds : List PyData}, (∀ e ∈ ds, e.shown.length ≤ B) → piled (PyData.shownAll ds) ≤ ds.length * (B + 2)
  | [], _ => Nat.zero_le _
  | d :: ds, h => by
    have ih := piled_le (ds := ds) (B := B) fun e he => h e (List.mem_cons_of_mem _ he)
    have h0 := h d (List.mem_cons_self ..)
    simp only [PyData.shownAll]
    rw [piled_cons, List.length_cons, Nat.add_mul]
    omega
def Bound : Nat → Nat
  | 0 => 110
  | n + 1 => 3 + 50 * (Bound n + 2)
theorem Bound.up (n : Nat) : 110 ≤ Bound n := by
  induction n with
  | zero => exact Nat.le_refl _
  | succ n ih =>
    show 110 ≤ 3 + 50 * (Bound n + 2)
    omega
theorem log_of {i : Int} (h : i.natAbs < 2 ^ 100) : i.natAbs.log2 < 100 := PySem.Flt.log2_lt_of (by decide) h
theorem Leaf.shown {d : PyData} (h : Leaf d) : d.shown.length ≤ 110 ∧ d.showable = true ∧ d.depth ≤ 1 := by
  cases d with
  | none => exact ⟨by simp only [PyData.shown]; decide, by simp only [PyData.showable], by simp only [PyData.depth]; omega⟩
  | bool b => exact ⟨by simp only [PyData.shown]; cases b <;> decide, by simp only [PyData.showable], by simp only [PyData.depth]; omega⟩
  | int i =>
    have l := log_of h
    refine ⟨?_, by simp only [PyData.showable]; exact decide_eq_true (by omega), by simp only [PyData.depth]; omega⟩
    simp only [PyData.shown]
    have := int_text_length_le (k := 100) (by decide) l
    rw [PySem.ofString_length]
    omega
  | str x => exact ⟨by simp only [PyData.shown]; exact h, by simp only [PyData.showable], by simp only [PyData.depth]; omega⟩
  | dict kvs =>
    have e : kvs = [] := h
    subst e
    exact ⟨by simp only [PyData.shown, PyData.shownKv]; decide, by simp only [PyData.showable, PyData.showableKv], by simp only [PyData.depth, PyData.depthKv]; omega⟩
  | list ds => exact h.elim
  | tuple ds => exact h.elim
theorem showableAll_of : ∀ {ds : List PyData}, (∀ e ∈ ds, e.showable = true) → PyData.showableAll ds = true
  | [], _ => by simp only [PyData.showableAll]
  | d :: ds, h => by
    simp only [PyData.showableAll]
    rw [h d (List.mem_cons_self ..), showableAll_of fun e he => h e (List.mem_cons_of_mem _ he)]
    rfl
theorem depthAll_of {n : Nat} : ∀ {ds : List PyData}, (∀ e ∈ ds, e.depth ≤ n) → PyData.depthAll ds ≤ n
  | [], _ => by simp only [PyData.depthAll]; omega
  | d :: ds, h => by
    simp only [PyData.depthAll]
    have h0 := h d (List.mem_cons_self ..)
    have ih := depthAll_of (n := n) fun e he => h e (List.mem_cons_of_mem _ he)
    omega
theorem Nice.shown : ∀ {n : Nat} {d : PyData}, Nice n d → d.shown.length ≤ Bound n ∧ d.showable = true ∧ d.depth ≤ n + 1
  | 0, d, h => by
    obtain ⟨a, b, c⟩ := Leaf.shown h
    exact ⟨a, b, by omega⟩
  | n + 1, d, h => by
    rcases h with h | ⟨ds, e, l, a⟩
    · obtain ⟨x, y, z⟩ := Leaf.shown h
      exact ⟨Nat.le_trans x (Bound.up _), y, by omega⟩
    · have m : ds.length * (Bound n + 2) ≤ 50 * (Bound n + 2) := Nat.mul_le_mul_right _ l
      have pl := piled_le (B := Bound n) fun x hx => (Nice.shown (a x hx)).1
      have sh := showableAll_of fun x hx => (Nice.shown (a x hx)).2.1
      have dp := depthAll_of (n := n + 1) fun x hx => (Nice.shown (a x hx)).2.2
      rcases e with rfl | rfl
      · refine ⟨?_, by simp only [PyData.showable]; exact sh, by simp only [PyData.depth]; omega⟩
        simp only [PyData.shown]
        have := listText_le (PyData.shownAll ds)
        show _ ≤ 3 + 50 * (Bound n + 2)
        omega
      · refine ⟨?_, by simp only [PyData.showable]; exact sh, by simp only [PyData.depth]; omega⟩
        simp only [PyData.shown]
        have := tupleText_le (PyData.shownAll ds)
        show _ ≤ 3 + 50 * (Bound n + 2)
        omega
theorem Nice.fits {d : PyData} (h : Nice 3 d) : d.showable = true ∧ d.shown.length ≤ sizeLine ∧ d.depth ≤ 60 := by
  obtain ⟨a, b, c⟩ := h.shown
  refine ⟨b, Nat.le_trans a ?_, by omega⟩
  rw [sizeLine_eq]
  decide
/-! ### what is tracked, but for one thing -/
def hid (H : Hp) (g : Addr) : Hp := fun b => if b = g then none else H b
theorem hid_ne {H : Hp} {g b : Addr} (h : b ≠ g) : hid H g b = H b := if_neg h
theorem hid_same {H : Hp} {g : Addr} : Same (hid H g) H := fun b o e => by
  by_cases h : b = g
  · unfold hid at e
    rw [if_pos h] at e
    cases e
  · rw [hid_ne h] at e
    exact e
theorem hid_none {H : Hp} {g b : Addr} {o : HO} (h : hid H g b = some o) : b ≠ g := fun z => by
  unfold hid at h
  rw [if_pos z] at h
  cases h
end GL

namespace GL
open PySem PySem.Spec PyProof.Rows L2
theorem dpAll_ints {K : PySem.W.Frag} {H : Hp} : ∀ ns : List Int, DpAll K H (ns.map V.int) (ns.map PyData.int)
  | [] => .nil
  | n :: ns => .cons (.int n) (dpAll_ints ns)
/-- a row of numbers, as data -/
def rowP (ns : List Int) : PyData := .list (ns.map PyData.int)
theorem dp_row {K : PySem.W.Frag} {H : Hp} {a : Addr} {ns : List Int} (h : SqL K H a (ns.map V.int)) : Dp K H (.ref a) (rowP ns) := .lst h (dpAll_ints ns)
def rSortedL (K : PySem.W.Frag) : List V → Hp → VK → Prop := fun vs H Q => ∃ (a : Addr) (ts : List (Addr × List Int)), vs = [.ref a] ∧ SqL K H a (ts.map fun t => V.ref t.1) ∧ (∀ t ∈ ts, SqL K H t.1 (t.2.map V.int)) ∧
  ∀ p, H p = none → Q (.ref p) (upd H p (.lst ((ts.mergeSort fun x y => decide (x.2 ≤ y.2)).map fun t => V.ref t.1)))
theorem each_refs {ts : List (Addr × List Int)} : ∀ {its : List Value}, Vals (ts.map fun t => V.ref t.1) its → PySem.W.EachIs (fun v (b : Addr × List Int) => v = Value.ref b.1) its ts := by
  induction ts with
  | nil =>
    intro its h
    cases h
    exact .nil
  | cons t ts ih =>
    intro its h
    cases h with
    | cons r h => exact .cons r (ih h)
theorem refs_each {ts : List (Addr × List Int)} : ∀ {its : List Value}, PySem.W.EachIs (fun v (b : Addr × List Int) => v = Value.ref b.1) its ts → Vals (ts.map fun t => V.ref t.1) its := by
  induction ts with
  | nil =>
    intro its h
    cases h
    exact .nil
  | cons t ts ih =>
    intro its h
    cases h with
    | cons r h => exact .cons r (ih h)
theorem each_of {R : Value → Addr × List Int → Prop} {ts : List (Addr × List Int)} : ∀ {its : List Value}, PySem.W.EachIs (fun v (b : Addr × List Int) => v = Value.ref b.1) its ts → (∀ t ∈ ts, R (.ref t.1) t) → PySem.W.EachIs R its ts := by
  induction ts with
  | nil =>
    intro its h _
    cases h
    exact .nil
  | cons t ts ih =>
    intro its h q
    cases h with
    | cons r h =>
      subst r
      exact .cons (q t (List.mem_cons_self ..)) (ih h fun t' ht => q t' (List.mem_cons_of_mem _ ht))
section
variable {X : Cx}
theorem cr_sortedL (hu : X.A.units + 64 < cLine) : CallR X (.builtin "sorted") (rSortedL X.K) := by
  intro pins s σ H vs us Q I r h
  obtain ⟨a, ts, rfl, hs, hx, q⟩ := h
  obtain ⟨its, rv, hl, hz⟩ := I.list hs
  obtain ⟨u, rfl, ru⟩ := vals1 r
  obtain rfl : u = Value.ref a := ru
  have e := each_refs rv
  refine PySem.W.sorted_data (enc := fun b : Addr × List Int => rowP b.2) (R := fun v b => v = Value.ref b.1) hl.isList e (each_of e fun t ht => Dp.reads I _ _ _ (dp_row (hx t ht)) rfl)
    (PySem.W.AllAlike.of fun b b' => ?_) (PySem.W.Sortable.others fun b => ⟨fun z => (by cases z), fun xs z => (by cases z)⟩) (by rw [← List.length_map (as := ts) (f := fun t => V.ref t.1)]; exact hz) (fun b hb => ?_) fun out ho eo => ?_
  · unfold rowP
    simp only [PySem.W.alike]
    exact PySem.W.alike_ints _ _
  · have d1 : (rowP b.2).depth ≤ 2 := by
      unfold rowP
      simp only [PyData.depth]
      have := PySem.W.depth_ints b.2
      omega
    omega
  · have eo' : (ts.mergeSort (PySem.W.dataLe false fun b => rowP b.2)) = ts.mergeSort fun x y => decide (x.2 ≤ y.2) := by
      have := PySem.W.dataLe_rows (β := Addr × List Int) fun b => b.2
      unfold rowP
      rw [this]
    rw [eo'] at eo
    obtain ⟨c, hc⟩ := sortedAll_at s.heap its out.toArray
    refine ⟨.ref (s.heap.objs.size + 1), upd H (s.heap.objs.size + 1) _, I.laid (t' := s.toks) (o := .lst ((ts.mergeSort fun x y => decide (x.2 ≤ y.2)).map fun t => V.ref t.1)) (fun b o q => sortedAll_old q) (Nat.le_succ _) ⟨?_, out, c, refs_each eo, hc⟩, rfl, q _ (I.hok.fresh (Nat.le_succ _))⟩
    rw [List.length_map, (List.mergeSort_perm ts _).length_eq, ← List.length_map (as := ts) (f := fun t => V.ref t.1)]
    exact hz
end
/-! ### how many unlike numbers -/
def alikeAll (ns : List Int) : Bool := ns.all fun z => z == ns.headD 0
def tLenSetV (K : PySem.W.Frag) (ta : TE) : TE := fun σ H Q => ta σ H fun x H1 => ∃ (l : Addr) (ns : List Int), x = .ref l ∧ SqL K H1 l (ns.map V.int) ∧ ns.length ≤ 4000 ∧ ∀ n : Nat, ((n ≤ 1) ↔ (∀ x ∈ ns, ∀ y ∈ ns, x = y)) → Q (.int n) H1
theorem dups_ne {a : Int} {l : List Int} (h : a ∈ l) : l.eraseDups ≠ [] := fun e => by
  have := (PySem.W.oss_has (l := l) (x := a)).2 h
  rw [PySem.W.oss_dups, e] at this
  cases this
theorem met_one {ns : List Int} : (firstMet (fun i => ns.getD i 0) ns.length).length ≤ 1 ↔ (∀ x ∈ ns, ∀ y ∈ ns, x = y) := by
  rw [PySem.W.oss_met, PySem.W.oss_dups]
  cases ns with
  | nil => simp
  | cons a r =>
    rw [List.eraseDups_cons, List.length_cons]
    constructor
    · intro h
      have e : (r.filter fun x => !x == a).eraseDups = [] := List.length_eq_zero_iff.mp (by omega)
      have z : ∀ x ∈ r, x = a := fun x hx => by
        by_cases c : x = a
        · exact c
        · exact (dups_ne (l := r.filter fun x => !x == a) (List.mem_filter.mpr ⟨hx, by simp [c]⟩) e).elim
      have z' : ∀ x ∈ a :: r, x = a := fun x hx => by
        rcases List.mem_cons.mp hx with hx | hx
        · exact hx
        · exact z x hx
      exact fun x hx y hy => (z' x hx).trans (z' y hy).symm
    · intro h
      have e : (r.filter fun x => !x == a) = [] := List.filter_eq_nil_iff.mpr fun x hx => by
        have := h x (List.mem_cons_of_mem _ hx) a (List.mem_cons_self ..)
        simp [this]
      rw [e]
      exact Nat.le_refl _
theorem pe_lenSetV {X : Cx} {a : Expr} {ta : TE} {p p2 q pos : Pos} (hg : Gl X "len") (hm : X.mg "len" = none) (hg2 : Gl X "set") (hm2 : X.mg "set" = none) (ha : PE X a ta) (hc : X.calm = true := by rfl)
    (na : starEach [a] X.env = (false, eval a X.env) :: starEach [] X.env := by rfl) : PE X (.Call (.Name "len" p) [.Call (.Name "set" p2) [a] [] q] [] pos) (tLenSetV X.K ta) := by
  refine ⟨fun pins s σ H Q I h => ?_⟩
  refine Call_ (ld_blt I hg hm boot_len ?_)
  refine PyProof.Rows.callWith_builtin1 (PyProof.Rows.args_cons ?_ rfl) rfl rfl
  refine Call_ (ld_blt I hg2 hm2 (show bootBuiltins "set" = some (.type "set") by decide +kernel) ?_)
  refine PyProof.Rows.callWith_type1 (PyProof.Rows.args_cons (thn (ha.run pins s σ H _ I h) fun v s1 ⟨x, H1, I1, r1, q1⟩ => PyProof.Rows.args_nil ?_) na) na rfl
  obtain ⟨l, ns, rfl, hq, hl, q1⟩ := q1
  cases r1
  obtain ⟨its, r, pl, hz⟩ := I1.list hq
  have hlen : its.toArray.size = ns.length := by rw [List.size_toArray, ← r.length, List.length_map]
  refine call_set_list (I1.ok.hd hc) pl.isList (by simpa using RZ.intsAre_vals r) (by rw [hlen]; unfold scanBound; omega) fun h' tk hS hk => ?_
  refine PyProof.Rows.args_nil ?_
  have b := firstMet_length_le (fun i => ns.getD i 0) ns.length
  rw [hlen] at hS
  obtain ⟨o, es, ep, t, ho, hex, hd, _, _, _, hf, hn⟩ := hS
  have I2 : Inv X pins σ H1 { s1 with heap := h', toks := tk } := I1.kept fun b o e => hk b o (Heap.lt_size e) e
  exact call_len_set ho hex hd hf (by rw [hn] <;> omega) ⟨.int (firstMet (fun i => ns.getD i 0) ns.length).length, H1, I2.tok _, ⟨_, by rw [hn]⟩, q1 _ met_one⟩
/-! ### rows compared -/
theorem eqv_ints : ∀ xs ys : List Int, PyData.eqvAll (xs.map PyData.int) (ys.map PyData.int) = decide (xs = ys)
  | [], [] => by simp [PyData.eqvAll]
  | [], y :: ys => by simp [PyData.eqvAll]
  | x :: xs, [] => by simp [PyData.eqvAll]
  | x :: xs, y :: ys => by
    simp only [List.map_cons, PyData.eqvAll, PyData.eqv]
    rw [eqv_ints xs ys]
    by_cases h1 : x = y
    · subst h1
      simp
    · simp [h1]
theorem eqv_row (xs ys : List Int) : PyData.eqv (rowP xs) (rowP ys) = decide (xs = ys) := by
  unfold rowP
  simp only [PyData.eqv]
  exact eqv_ints xs ys
def tabP (kss : List (List Int)) : PyData := .list (kss.map rowP)
theorem eqv_rows : ∀ xs ys : List (List Int), PyData.eqvAll (xs.map rowP) (ys.map rowP) = decide (xs = ys)
  | [], [] => by simp [PyData.eqvAll]
  | [], y :: ys => by simp [PyData.eqvAll]
  | x :: xs, [] => by simp [PyData.eqvAll]
  | x :: xs, y :: ys => by
    simp only [List.map_cons, PyData.eqvAll]
    rw [eqv_rows xs ys, eqv_row]
    by_cases h1 : x = y
    · subst h1
      simp
    · simp [h1]
theorem eqv_tab (xs ys : List (List Int)) : PyData.eqv (tabP xs) (tabP ys) = decide (xs = ys) := by
  unfold tabP
  simp only [PyData.eqv]
  exact eqv_rows xs ys
theorem lay_ints : ∀ xs : List Int, PyData.canLayAll0 (xs.map PyData.int) = true
  | [] => by simp [PyData.canLayAll0]
  | x :: xs => by
    simp only [List.map_cons, PyData.canLayAll0, PyData.canLay0]
    rw [lay_ints xs]
    rfl
theorem lay_row (xs : List Int) : PyData.canLay0 (rowP xs) = true := by
  unfold rowP
  simp only [PyData.canLay0]
  exact lay_ints xs
theorem lay_rows : ∀ xs : List (List Int), PyData.canLayAll0 (xs.map rowP) = true
  | [] => by simp [PyData.canLayAll0]
  | x :: xs => by
    simp only [List.map_cons, PyData.canLayAll0]
    rw [lay_rows xs, lay_row]
    rfl
theorem depth_row (xs : List Int) : (rowP xs).depth ≤ 1 := by
  unfold rowP
  simp only [PyData.depth]
  have := PySem.W.depth_ints xs
  omega
theorem depth_rows (xs : List (List Int)) : (tabP xs).depth ≤ 2 := by
  unfold tabP
  simp only [PyData.depth]
  have := depthAll_of (n := 1) (ds := xs.map rowP) fun e he => by
    obtain ⟨x, _, rfl⟩ := List.mem_map.mp he
    exact depth_row x
  omega
theorem shaped_row (xs : List Int) : SeqAt.shaped (rowP xs) = true := by
  unfold SeqAt.shaped
  rw [lay_row, decide_eq_true (Nat.le_trans (depth_row xs) (by decide))]
  rfl
theorem shaped_tab (xs : List (List Int)) : SeqAt.shaped (tabP xs) = true := by
  unfold SeqAt.shaped
  rw [decide_eq_true (Nat.le_trans (depth_rows xs) (by decide))]
  unfold tabP
  simp only [PyData.canLay0]
  rw [lay_rows]
  rfl
theorem any_row (xs : List (List Int)) (y : List Int) : ((xs.map rowP).any fun z => PyData.eqv z (rowP y)) = decide (y ∈ xs) := by
  induction xs with
  | nil => simp
  | cons x xs ih =>
    rw [List.map_cons, List.any_cons, ih, eqv_row]
    by_cases h : x = y
    · subst h
      simp
    · have h' : y ≠ x := fun z => h z.symm
      simp [h, h']
/-- a list of rows, as data -/
theorem dpAll_rows {K : PySem.W.Frag} {H : Hp} : ∀ {rs : List Addr} {kss : List (List Int)}, rs.length = kss.length → (∀ (i : Nat) r ks, rs[i]? = some r → kss[i]? = some ks → SqL K H r (ks.map V.int)) → DpAll K H (rs.map V.ref) (kss.map rowP)
  | [], [], _, _ => .nil
  | [], _ :: _, l, _ => by simp at l
  | _ :: _, [], l, _ => by simp at l
  | r :: rs, ks :: kss, l, h => .cons (dp_row (h 0 r ks rfl rfl)) (dpAll_rows (Nat.succ.inj l) fun i r' ks' a b => h (i + 1) r' ks' a b)
end GL

namespace K6
open PySem PySem.Spec PyProof.Rows L2 GL
def topS (i : Nat) : Stmt := PySem.Challenge.pw_twinties_k06_whole_houses.main.body.getD i (.Pass ⟨0, 0, 0, 0⟩)
abbrev sHash : Stmt := topS 25
abbrev sRandom : Stmt := topS 26
abbrev sCell : Stmt := topS 27
abbrev sGen : Stmt := topS 28
/-- the built-in names that the text uses are still the built-in ones -/
structure Bi (mg : Str → Option Value) : Prop where
  int : mg "int" = none
  len : mg "len" = none
  sum : mg "sum" = none
  max : mg "max" = none
  min : mg "min" = none
  range : mg "range" = none
  isinstance : mg "isinstance" = none
  bool : mg "bool" = none
  list : mg "list" = none
  tuple : mg "tuple" = none
  all : mg "all" = none
  enumerate : mg "enumerate" = none
  repr : mg "repr" = none
  zip : mg "zip" = none
  any : mg "any" = none
  set : mg "set" = none
  sorted : mg "sorted" = none
section
variable {P : Program} {w : World} {K : PySem.W.Frag} {mg : Str → Option Value} {base : Heap}
/-! ### numbers drawn -/
theorem scHash : FnScope ["_law_seed", "_law_index", "_law_mixed"] ["_law_seed", "_law_index"] (defScope sHash) := ⟨rfl, rfl, rfl, by decide +kernel, rfl, by decide +kernel, by decide +kernel⟩
def spHash : Sp := fun vs H Q _ => ∃ b c : Int, vs = [.int b, .int c] ∧ 0 ≤ b ∧ b < 2147483647 ∧ 0 ≤ c ∧ c < 1099511627776 ∧ ∀ r : Int, 0 ≤ r → r < 2147483647 → Q (.int r) H
theorem ok_hash {f : Addr} {fd : FuncData} (F : Fun K "_law_hash" "_law_hash" sHash f fd) (T : Bi mg) : FnOk P w K mg base CX0 1 f fd ["_law_seed", "_law_index"] spHash := by
  refine F.ok scHash (fun vs H Q E h => ?_) (fun cdv A outer s H vs Q E hr h => ?_)
  · obtain ⟨b, c, rfl, _⟩ := h
    rfl
  · obtain ⟨b, c, rfl, hb0, hb1, hc0, hc1, q⟩ := h
    refine ⟨_, pss_cons (ps_set (i := 2) scHash.nd rfl (Or.inl rfl) (pe_op op_mod (pe_callTy call_int1 (by rfl) T.int PyProof.Rows.boot_int (pa_cons
        (pe_op op_add (pe_op op_add (pe_op op_add (pe_op op_mul (pv 0) pe_int) (pe_op op_mul (pe_op op_mul pe_int (pv 1)) (pv 1))) (pe_op op_mul pe_int (pv 1))) pe_int) pa_nil)) pe_int))
      (pss_cons (ps_set (i := 2) scHash.nd rfl (Or.inl rfl) (pe_op op_mod (pe_callTy call_int1 (by rfl) T.int PyProof.Rows.boot_int (pa_cons
        (pe_op op_add (pe_op op_add (pe_op op_mul (pv 2) (pv 2)) (pe_op op_mul pe_int (pv 1))) pe_int) pa_nil)) pe_int))
      (pss_one (ps_ret (pe_op op_mod (pe_callTy call_int1 (by rfl) T.int PyProof.Rows.boot_int (pa_cons (pe_op op_mul (pv 2) pe_int) pa_nil)) pe_int)))), ?_⟩
    refine ⟨_, rfl, _, _, rfl, rfl, .inl ⟨by omega, by omega⟩, _, rfl, _, _, rfl, rfl, .inl ⟨by omega, by omega⟩, _, rfl, _, _, rfl, rfl, .inr ⟨by omega, by omega⟩, _, _, rfl, rfl, _, rfl, _, _, rfl, rfl, .inl ⟨by omega, by omega⟩, _, _, rfl, rfl, _, _, rfl, rfl,
      .inl ⟨_, rfl, _, _, rfl, rfl, (by show (0 : Int) < 2147483629; decide), ?_⟩⟩
    generalize hm : (b * 1140671 + 27644437 * c * c + 131 * c + 19) % 2147483629 = m
    have m0 : 0 ≤ m := by rw [← hm]; exact Int.emod_nonneg _ (by decide)
    have m1 : m < 2147483629 := by rw [← hm]; exact Int.emod_lt_of_pos _ (by decide)
    refine ⟨_, rfl, _, rfl, _, _, rfl, rfl, .inl ⟨by omega, by omega⟩, _, rfl, _, _, rfl, rfl, .inl ⟨by omega, by omega⟩, _, _, rfl, rfl, _, _, rfl, rfl,
      .inl ⟨_, rfl, _, _, rfl, rfl, (by show (0 : Int) < 2147483587; decide), ?_⟩⟩
    generalize hn : (m * m + 62089 * c + 32416187) % 2147483587 = n
    have n0 : 0 ≤ n := by rw [← hn]; exact Int.emod_nonneg _ (by decide)
    have n1 : n < 2147483587 := by rw [← hn]; exact Int.emod_lt_of_pos _ (by decide)
    refine ⟨_, rfl, _, _, rfl, rfl, .inl ⟨by omega, by omega⟩, .inl ⟨_, rfl, _, _, rfl, rfl, (by show (0 : Int) < 2147483647; decide), ?_⟩⟩
    exact q _ (Int.emod_nonneg _ (by decide)) (Int.emod_lt_of_pos _ (by decide))
end
end K6

namespace K6
open PySem PySem.Spec PyProof.Rows L2 GL
/-- a list of three numbers that is drawn from: n are the draws' steps that are left -/
def Gen (H : Hp) (g : Addr) (n : Nat) : Prop := ∃ a b c : Int, H g = some (.lst [.int a, .int b, .int c]) ∧ 0 ≤ b ∧ b < 2147483647 ∧ 0 ≤ c ∧ c + n ≤ 1099511627000
theorem Gen.less {H : Hp} {g : Addr} {n m : Nat} (h : Gen H g n) (l : m ≤ n) : Gen H g m := by
  obtain ⟨a, b, c, h1, h2, h3, h4, h5⟩ := h
  exact ⟨a, b, c, h1, h2, h3, h4, by omega⟩
/-- all that was tracked but g is as it was -/
def But (g : Addr) (H H' : Hp) : Prop := ∀ b o, H b = some o → b ≠ g → H' b = some o
theorem But.refl {g : Addr} {H : Hp} : But g H H := fun _ _ e _ => e
theorem But.trans {g : Addr} {H H1 H2 : Hp} (a : But g H H1) (b : But g H1 H2) : But g H H2 := fun c o e n => b c o (a c o e n) n
theorem But.of {g : Addr} {H H' : Hp} (s : Same H H') : But g H H' := fun b o e _ => s b o e
theorem same_new {p : Addr} {H : Hp} {o : HO} (h : H p = none) : Same H (upd H p o) := fun b u e => by rw [upd_ne (ne_of_none e h)]; exact e
theorem But.new {g p : Addr} {H : Hp} {o : HO} (h : H p = none) : But g H (upd H p o) := .of (same_new h)
theorem But.put {g : Addr} {H : Hp} {o : HO} : But g H (upd H g o) := fun b o' e n => by rw [upd_ne n]; exact e
theorem Gen.ne {H : Hp} {g p : Addr} {n : Nat} (h : Gen H g n) (e : H p = none) : g ≠ p := by
  obtain ⟨a, b, c, h1, _⟩ := h
  exact ne_of_none h1 e
theorem Gen.new {H : Hp} {g p : Addr} {n : Nat} {o : HO} (h : Gen H g n) (e : H p = none) : Gen (upd H p o) g n := by
  have ne := h.ne e
  obtain ⟨a, b, c, h1, r⟩ := h
  exact ⟨a, b, c, by rw [upd_ne ne]; exact h1, r⟩
theorem Gen.other {H : Hp} {g p : Addr} {n : Nat} {o : HO} (h : Gen H g n) (ne : p ≠ g) : Gen (upd H p o) g n := by
  obtain ⟨a, b, c, h1, r⟩ := h
  exact ⟨a, b, c, by rw [upd_ne ne.symm]; exact h1, r⟩
section
variable {P : Program} {w : World} {K : PySem.W.Frag} {mg : Str → Option Value} {base : Heap}
theorem scRandom : FnScope ["_law_generator_here", "_law_bound", "_law_drawn", "_law_turn"] ["_law_generator_here", "_law_bound"] (defScope sRandom) := ⟨rfl, rfl, rfl, by decide +kernel, rfl, by decide +kernel, by decide +kernel⟩
def spRandom : Sp := fun vs H Q _ => ∃ (g : Addr) (m : Int) (n : Nat), vs = [.ref g, .int m] ∧ 0 < m ∧ m < 1329227995784915872903807060280344576 ∧ Gen H g (n + 5) ∧
  ∀ (r : Int) (H' : Hp), 0 ≤ r → r < m → Gen H' g n → But g H H' → Q (.int r) H'
theorem bits_le {m : Int} (h0 : 0 < m) (h : m < 1329227995784915872903807060280344576) : (Builtin.Int.intBits m : Int) / 30 ≤ 4 ∧ 0 ≤ (Builtin.Int.intBits m : Int) / 30 := by
  have l : m.natAbs < 2 ^ 120 := by omega
  have b : Builtin.Int.intBits m ≤ 120 := by
    have x := PySem.Flt.log2_lt_of (by decide : 0 < 120) l
    unfold Builtin.Int.intBits
    split <;> omega
  omega
theorem ok_random {f : Addr} {fd : FuncData} (F : Fun K "_law_random" "_law_random" sRandom f fd) (T : Bi mg) (UH : Use P w K mg base "_law_hash" ["_law_seed", "_law_index"] spHash 1) : FnOk P w K mg base CX0 2 f fd ["_law_generator_here", "_law_bound"] spRandom := by
  refine F.ok scRandom (fun vs H Q E h => ?_) (fun cdv A outer s H vs Q E hr h => ?_)
  · obtain ⟨g, m, n, rfl, _⟩ := h
    rfl
  · obtain ⟨g, m, n, rfl, m0, m1, G, q⟩ := h
    refine ⟨_, pss_cons (ps_if (pt_cmpR op_gt (pe_ix ix_list (pv 0) pe_int (fun _ _ => rfl)) pe_int (nomark _))
        (pss_cons (ps_set (i := 2) scRandom.nd rfl (Or.inl rfl) (pe_op op_mod (pe_callTy call_int1 (by rfl) T.int PyProof.Rows.boot_int (pa_cons (pe_ix ix_list (pv 0) pe_int (fun _ _ => rfl)) pa_nil)) (pv 1)))
        (pss_cons (ps_asg (pe_op op_fdivW (pe_ix ix_list (pv 0) pe_int (fun _ _ => rfl)) (pv 1)) (pg_sub (pv 0) pe_int set_list))
        (pss_one (ps_ret (pv 2))))) pss_nil)
      (pss_cons (ps_set (i := 2) scRandom.nd rfl (Or.inl rfl) pe_int)
      (pss_cons (ps_for PassesOwn.never rfl (pi_range1 (by rfl) T.range (pa_cons (pe_op op_add pe_int (pe_op op_fdiv (pe_bits (pv 1)) pe_int)) pa_nil)) (pg_name (i := 3) scRandom.nd rfl (Or.inl rfl))
        (pss_cons (ps_asg (pe_op op_add (pe_ix ix_list (pv 0) pe_int (fun _ _ => rfl)) pe_int) (pg_sub (pv 0) pe_int set_list))
        (pss_one (ps_set (i := 2) scRandom.nd rfl (Or.inl rfl) (pe_op op_add (pe_op op_mul (pv 2) pe_int)
          (pe_use UH hr (by rfl) (pa_cons (pe_ix ix_list (pv 0) pe_int (fun _ _ => rfl)) (pa_cons (pe_ix ix_list (pv 0) pe_int (fun _ _ => rfl)) pa_nil))))))))
      (pss_one (ps_ret (pe_op op_mod (pe_callTy call_int1 (by rfl) T.int PyProof.Rows.boot_int (pa_cons (pv 2) pa_nil)) (pv 1)))))), ?_⟩
    obtain ⟨a, b, c, hg, b0, b1, c0, c1⟩ := G
    refine ⟨_, rfl, g, _, _, _, rfl, rfl, SqL.of hg, at_of (j := 0) rfl rfl, _, _, rfl, rfl, _, rfl, ?_⟩
    by_cases ha : 0 < a
    · refine ite2 (fun _ => ?_) (fun z => absurd (decide_eq_true ha) z)
      refine ⟨_, rfl, g, _, _, _, rfl, rfl, SqL.of hg, at_of (j := 0) rfl rfl, .inl ⟨_, rfl, _, rfl, _, _, rfl, rfl, m0, ?_⟩⟩
      refine ⟨_, rfl, g, _, _, _, rfl, rfl, SqL.of hg, at_of (j := 0) rfl rfl, _, rfl, _, _, rfl, rfl, wide_div (b := 120) m0 (by omega) (by decide) (by decide), _, rfl, g, _, _, 0, rfl, rfl, hg, rfl, ?_⟩
      refine ⟨_, rfl, q _ _ (Int.emod_nonneg _ (by omega)) (Int.emod_lt_of_pos _ m0) ⟨_, b, c, upd_same, b0, b1, c0, by omega⟩ But.put⟩
    · refine ite2 (fun z => absurd (of_decide_eq_true z) ha) (fun _ => ?_)
      obtain ⟨u1, u0⟩ := bits_le m0 m1
      generalize hu : (Builtin.Int.intBits m : Int) / 30 = u at u0 u1
      refine ⟨_, rfl, _, rfl, _, _, rfl, rfl, ⟨by decide, by decide⟩, _, _, rfl, rfl, 1 + u, by rw [hu], by omega, by omega,
        for_range (lo := 0) (n := (1 + u).toNat) (fun i σ H' => ∃ (d : Int) (t : Option V) (c' : Int), σ = [some (.ref g), some (.int m), some (.int d), t] ∧ But g H H' ∧ H' g = some (.lst [.int a, .int b, .int c']) ∧ c ≤ c' ∧ c' ≤ c + i)
        ⟨0, none, c, rfl, But.refl, hg, by omega, by omega⟩ ?_ ?_⟩
      · rintro i σ H' hi ⟨d, t, c', rfl, bt, hg', c2, c3⟩
        refine ⟨_, rfl, g, _, _, _, rfl, rfl, SqL.of hg', at_of (j := 2) rfl rfl, _, _, rfl, rfl, _, rfl, g, _, _, 2, rfl, rfl, hg', rfl, ?_⟩
        refine ⟨_, rfl, _, _, rfl, rfl, .inr ⟨by decide, by decide⟩, _, rfl, g, _, _, _, rfl, rfl, SqL.of upd_same, at_of (j := 1) rfl rfl, _, rfl, g, _, _, _, rfl, rfl, SqL.of upd_same, at_of (j := 2) rfl rfl,
          b, c' + 1, rfl, b0, b1, by omega, by omega, fun r r0 r1 => ⟨_, _, rfl, rfl, ?_⟩⟩
        exact ⟨_, _, c' + 1, rfl, bt.trans But.put, upd_same, by omega, by omega⟩
      · rintro σ H' ⟨d, t, c', rfl, bt, hg', c2, c3⟩
        refine ⟨_, rfl, .inl ⟨_, rfl, _, rfl, _, _, rfl, rfl, m0, ?_⟩⟩
        exact q _ _ (Int.emod_nonneg _ (by omega)) (Int.emod_lt_of_pos _ m0) ⟨a, b, c', hg', b0, b1, by omega, by omega⟩ bt
end
end K6

namespace K6
open PySem PySem.Spec PyProof.Rows L2 GL
theorem cut_ints (ns : List Int) (lo hi : Option Int) : ∃ l : List Int, cutV (ns.map V.int) lo hi = l.map V.int ∧ l.length ≤ ns.length := by
  refine ⟨(ns.drop (HT.sIx (ns.map V.int).length 0 lo)).take (HT.sIx (ns.map V.int).length (ns.map V.int).length hi - HT.sIx (ns.map V.int).length 0 lo), ?_, ?_⟩
  · unfold cutV
    rw [← List.map_drop, ← List.map_take]
  · rw [List.length_take, List.length_drop]
    omega
section
variable {P : Program} {w : World} {K : PySem.W.Frag} {mg : Str → Option Value} {base : Heap}
theorem scCell : FnScope ["_law_script", "_law_index"] ["_law_script", "_law_index"] (defScope sCell) := ⟨rfl, rfl, rfl, by decide +kernel, rfl, by decide +kernel, by decide +kernel⟩
def spCell (K : PySem.W.Frag) : Sp := fun vs H Q _ => ∃ (a : Addr) (ns : List Int) (i : Nat), vs = [.ref a, .int i] ∧ SqL K H a (ns.map V.int) ∧ ∀ (r : Int) (H' : Hp), Same H H' → Q (.int r) H'
theorem ok_cell {f : Addr} {fd : FuncData} (F : Fun K "_law_cell" "_law_cell" sCell f fd) (T : Bi mg) : FnOk P w K mg base CX0 1 f fd ["_law_script", "_law_index"] (spCell K) := by
  refine F.ok scCell (fun vs H Q E h => ?_) (fun cdv A outer s H vs Q E hr h => ?_)
  · obtain ⟨a, ns, i, rfl, _⟩ := h
    rfl
  · obtain ⟨a, ns, i, rfl, hS, q⟩ := h
    refine ⟨_, pss_cons (ps_if (pt_cmpR op_lt (pv 1) (pe_callB call_len_seq (by rfl) T.len PySem.boot_len (pa_cons (pv 0) pa_nil)) (nomark _)) (pss_one (ps_ret (pe_ix ix_list (pv 0) (pv 1) (fun _ _ => rfl)))) pss_nil)
      (pss_one (ps_ret (pe_op op_mod (pe_callB (cr_sum rfl) (by rfl) T.sum (by decide +kernel) (pa_cons (pe_slice sl_list (pv 0) po_none (po_some pe_int)) pa_nil)) pe_int))), ?_⟩
    refine ⟨_, rfl, _, rfl, a, _, rfl, .inl hS, _, _, rfl, rfl, _, rfl, ite2 (fun c => ?_) (fun c => ?_)⟩
    · have hl := of_decide_eq_true c
      rw [List.length_map] at hl
      have hi : i < ns.length := by omega
      exact ⟨_, rfl, _, rfl, a, _, _, _, rfl, rfl, hS, at_of (j := i) rfl (by rw [List.getElem?_map, List.getElem?_eq_getElem hi]; rfl), q _ _ (Same.refl _)⟩
    · refine ⟨_, rfl, 1, rfl, a, _, rfl, hS, fun c nc => ?_⟩
      obtain ⟨l, el, _⟩ := cut_ints ns none (some 1)
      refine ⟨c, l, rfl, by rw [← el]; exact SqL.of upd_same, _, _, rfl, rfl, (by show (0 : Int) < 1000003; decide), q _ _ (same_new nc)⟩
theorem scGen : FnScope ["_law_script", "_law_index", "_law_seed"] ["_law_script", "_law_index"] (defScope sGen) := ⟨rfl, rfl, rfl, by decide +kernel, rfl, by decide +kernel, by decide +kernel⟩
def spGen (K : PySem.W.Frag) : Sp := fun vs H Q _ => ∃ (a : Addr) (ns : List Int) (i : Nat), vs = [.ref a, .int i] ∧ i ≤ 100 ∧ SqL K H a (ns.map V.int) ∧ ∀ (g : Addr) (H' : Hp), Same H H' → H g = none → Gen H' g 1000000 → Q (.ref g) H'
theorem pow60 : CPowW ((10 : Int) ^ (60 : Int).toNat) 10 := ⟨by decide, by decide +kernel⟩
theorem pow600 : (0 : Int) < ((10 : Int) ^ (60 : Int).toNat) ^ (10 : Int).toNat := Int.pow_pos (Int.pow_pos (by decide))
theorem ok_gen {f : Addr} {fd : FuncData} (F : Fun K "_law_generator" "_law_generator" sGen f fd) (T : Bi mg) (U : Use P w K mg base "_law_cell" ["_law_script", "_law_index"] (spCell K) 1) : FnOk P w K mg base CX0 2 f fd ["_law_script", "_law_index"] (spGen K) := by
  refine F.ok scGen (fun vs H Q E h => ?_) (fun cdv A outer s H vs Q E hr h => ?_)
  · obtain ⟨a, ns, i, rfl, _⟩ := h
    rfl
  · obtain ⟨a, ns, i, rfl, hi, hS, q⟩ := h
    refine ⟨_, pss_cons (ps_set (i := 2) scGen.nd rfl (Or.inl rfl) (pe_use U hr (by rfl) (pa_cons (pv 0) (pa_cons (pv 1) pa_nil))))
      (pss_one (ps_ret (pe_lst (pa_cons (pe_op op_mod (pe_callTy call_int1 (by rfl) T.int PyProof.Rows.boot_int (pa_cons (pe_callB (call_max2 rfl) (by rfl) T.max (by decide +kernel) (pa_cons (pe_op op_sub (pv 2) (pe_op op_pow pe_int pe_int)) (pa_cons pe_int pa_nil))) pa_nil)) (pe_op op_powW (pe_op op_pow pe_int pe_int) pe_int))
        (pa_cons (pe_op op_mod (pe_callTy call_int1 (by rfl) T.int PyProof.Rows.boot_int (pa_cons (pv 2) pa_nil)) pe_int) (pa_cons (pe_op op_mul pe_int (pv 1)) pa_nil)))))), ?_⟩
    refine ⟨_, rfl, _, rfl, a, ns, i, rfl, hS, fun r H1 s1 => ?_⟩
    refine ⟨_, rfl, _, _, rfl, rfl, ⟨by decide, by decide, by decide⟩, _, _, rfl, rfl, _, _, rfl, .inl ⟨_, rfl, _, _, rfl, rfl, ⟨by decide, by decide, by decide⟩, _, _, rfl, rfl, pow60, _, _, rfl, rfl, pow600, ?_⟩⟩
    refine ⟨_, rfl, .inl ⟨_, rfl, _, _, rfl, rfl, (by show (0 : Int) < 2147483647; decide), _, rfl, _, _, rfl, rfl, .inl ⟨by decide, by decide⟩, (by show 3 ≤ sizeLine; decide), fun g hg => ?_⟩⟩
    exact q g _ (s1.trans (same_new hg)) (s1.free hg) ⟨_, _, _, upd_same, Int.emod_nonneg _ (by decide), Int.emod_lt_of_pos _ (by decide), by omega, by omega⟩
end
end K6

namespace K6
open PySem PySem.Spec PyProof.Rows L2 GL
abbrev sWhole : Stmt := topS 9
abbrev sBelow : Stmt := topS 10
abbrev sKinds : Stmt := topS 11
abbrev sRow : Stmt := topS 12
abbrev sCompOf : Stmt := topS 13
abbrev sCheck : Stmt := topS 15
/-! ### what a company is -/
def whole (d : PyData) : Bool := isInt d && !isBool d
def below (k : Int) : PyData → Bool
  | .int i => decide (0 ≤ i) && decide (i < k)
  | _ => false
def rowOk (k n : Int) : PyData → Bool
  | .list ds => decide ((ds.length : Int) = n) && ds.all (below k)
  | _ => false
def rowsOk (k : Int) : Nat → List PyData → Bool
  | _, [] => true
  | n, d :: ds => rowOk k n d && rowsOk k (n + 1) ds
def compOk (k : Int) : PyData → Bool
  | .list ds => (decide (1 ≤ ds.length) && decide (ds.length ≤ 40)) && rowsOk k 0 ds
  | _ => false
section
variable {P : Program} {w : World} {K : PySem.W.Frag} {mg : Str → Option Value} {base : Heap}
theorem scWhole : FnScope ["value"] ["value"] (defScope sWhole) := ⟨rfl, rfl, rfl, by decide +kernel, rfl, by decide +kernel, by decide +kernel⟩
def spWhole (K : PySem.W.Frag) : Sp := fun vs H Q _ => ∃ x d, vs = [x] ∧ Dt K H x d ∧ Q (.bl (whole d)) H
theorem ok_whole {f : Addr} {fd : FuncData} (F : Fun K "is_whole" "is_whole" sWhole f fd) (T : Bi mg) : FnOk P w K mg base CX0 1 f fd ["value"] (spWhole K) := by
  refine F.ok scWhole (fun vs H Q E h => ?_) (fun cdv A outer s H vs Q E hr h => ?_)
  · obtain ⟨x, d, rfl, _⟩ := h
    rfl
  · obtain ⟨x, d, rfl, hd, q⟩ := h
    refine ⟨_, pss_one (ps_ret (pe_and (pe_callB call_isi (by rfl) T.isinstance (by decide +kernel) (pa_cons (pv 0) (pa_cons (pe_bltn (v := .ty "int") (by rfl) T.int PyProof.Rows.boot_int rfl) pa_nil)))
      (pe_one (pe_not (pe_callB call_isi (by rfl) T.isinstance (by decide +kernel) (pa_cons (pv 0) (pa_cons (pe_bltn (v := .ty "bool") (by rfl) T.bool (by decide +kernel) rfl) pa_nil))))))), ?_⟩
    refine ⟨_, rfl, _, _, _, _, _, rfl, .ty "int", hd.ty, kit_int d, _, rfl, ?_⟩
    cases e : isInt d with
    | false =>
      refine iteF ?_
      have z : whole d = false := by unfold whole; rw [e]; rfl
      rw [← z]
      exact q
    | true =>
      refine iteT ⟨_, rfl, _, _, _, _, _, rfl, .ty "bool", hd.ty, kit_bool d, _, rfl, ?_⟩
      have z : whole d = !isBool d := by unfold whole; rw [e]; rfl
      rw [← z]
      exact q
theorem scBelow : FnScope ["value", "bound"] ["value", "bound"] (defScope sBelow) := ⟨rfl, rfl, rfl, by decide +kernel, rfl, by decide +kernel, by decide +kernel⟩
def spBelow (K : PySem.W.Frag) : Sp := fun vs H Q _ => ∃ x d k, vs = [x, .int k] ∧ Dt K H x d ∧ Q (.bl (below k d)) H
theorem whole_cases (d : PyData) : (∃ i, d = .int i ∧ whole d = true) ∨ (whole d = false ∧ ∀ k, below k d = false) := by
  cases d with
  | int i => exact .inl ⟨i, rfl, rfl⟩
  | _ => exact .inr ⟨rfl, fun _ => rfl⟩
theorem ok_below {f : Addr} {fd : FuncData} (F : Fun K "is_below" "is_below" sBelow f fd) (U : Use P w K mg base "is_whole" ["value"] (spWhole K) 1) : FnOk P w K mg base CX0 2 f fd ["value", "bound"] (spBelow K) := by
  refine F.ok scBelow (fun vs H Q E h => ?_) (fun cdv A outer s H vs Q E hr h => ?_)
  · obtain ⟨x, d, k, rfl, _⟩ := h
    rfl
  · obtain ⟨x, d, k, rfl, hd, q⟩ := h
    refine ⟨_, pss_one (ps_ret (pe_and (pe_use U hr (by rfl) (pa_cons (pv 0) pa_nil)) (pe_one (pe_chain op_le op_lt pe_int (pv 0) (pv 1))))), ?_⟩
    refine ⟨_, rfl, _, d, rfl, hd, _, rfl, ?_⟩
    rcases whole_cases d with ⟨i, rfl, e⟩ | ⟨e, z⟩
    · rw [e]
      cases hd
      refine iteT ⟨_, rfl, _, _, rfl, rfl, _, rfl, ?_⟩
      cases c : decide ((0 : Int) ≤ i) with
      | true =>
        refine iteT ⟨_, rfl, _, _, rfl, rfl, ?_⟩
        have z : below k (.int i) = decide (i < k) := by
          show (decide (0 ≤ i) && decide (i < k)) = decide (i < k)
          rw [c, Bool.true_and]
        rw [z] at q
        exact q
      | false =>
        refine iteF ?_
        have z : below k (.int i) = false := by
          show (decide (0 ≤ i) && decide (i < k)) = false
          rw [c, Bool.false_and]
        rw [z] at q
        exact q
    · rw [e]
      refine iteF ?_
      rw [← z k]
      exact q
theorem scKinds : FnScope ["value"] ["value"] (defScope sKinds) := ⟨rfl, rfl, rfl, by decide +kernel, rfl, by decide +kernel, by decide +kernel⟩
def spKinds (K : PySem.W.Frag) : Sp := fun vs H Q _ => ∃ k : Int, vs = [.int k] ∧ 2 ≤ k ∧ k ≤ 9 ∧ Q (.bl true) H
/-- the bounds, as the text has written them -/
structure Cs (mg : Str → Option Value) : Prop where
  least : ∃ t, mg "LEAST_KINDS" = some (.int 2 t)
  most : ∃ t, mg "MOST_KINDS" = some (.int 9 t)
  people : ∃ t, mg "MOST_PEOPLE" = some (.int 40 t)
theorem ok_kinds {f : Addr} {fd : FuncData} (F : Fun K "are_kinds" "are_kinds" sKinds f fd) (C : Cs mg) (U : Use P w K mg base "is_whole" ["value"] (spWhole K) 1) : FnOk P w K mg base CX0 2 f fd ["value"] (spKinds K) := by
  refine F.ok scKinds (fun vs H Q E h => ?_) (fun cdv A outer s H vs Q E hr h => ?_)
  · obtain ⟨k, rfl, _⟩ := h
    rfl
  · obtain ⟨k, rfl, h2, h9, q⟩ := h
    obtain ⟨t1, c1⟩ := C.least
    obtain ⟨t2, c2⟩ := C.most
    refine ⟨_, pss_one (ps_ret (pe_and (pe_use U hr (by rfl) (pa_cons (pv 0) pa_nil)) (pe_one (pe_chain op_le op_le (pe_glob (v := .int 2) rfl c1 ⟨_, rfl⟩) (pv 0) (pe_glob (v := .int 9) rfl c2 ⟨_, rfl⟩))))), ?_⟩
    refine ⟨_, rfl, _, .int k, rfl, .int k, _, rfl, iteT ⟨_, rfl, _, _, rfl, rfl, _, rfl, ?_⟩⟩
    rw [decide_eq_true h2]
    rw [← decide_eq_true h9] at q
    exact iteT ⟨_, _, rfl, rfl, q⟩
theorem scRow : FnScope ["kinds", "many", "value", "kind"] ["kinds", "many", "value"] (defScope sRow) := ⟨rfl, rfl, rfl, by decide +kernel, rfl, by decide +kernel, by decide +kernel⟩
def spRow (K : PySem.W.Frag) : Sp := fun vs H Q _ => ∃ x d k n, vs = [.int k, .int n, x] ∧ n ≤ 1000 ∧ Dt K H x d ∧ ∀ H', Same H H' → Q (.bl (rowOk k n d)) H'
theorem take_more {α β : Type} (f : α → β) {l : List α} {i : Nat} {x : α} (h : l[i]? = some x) : (l.take (i + 1)).map f = (l.take i).map f ++ [f x] := by
  rw [List.take_add_one, h, List.map_append]
  rfl
theorem ok_row {f : Addr} {fd : FuncData} (F : Fun K "is_row" "is_row" sRow f fd) (T : Bi mg) (U : Use P w K mg base "is_below" ["value", "bound"] (spBelow K) 2) : FnOk P w K mg base CX0 3 f fd ["kinds", "many", "value"] (spRow K) := by
  refine F.ok scRow (fun vs H Q E h => ?_) (fun cdv A outer s H vs Q E hr h => ?_)
  · obtain ⟨x, d, k, n, rfl, _⟩ := h
    rfl
  · obtain ⟨x, d, k, n, rfl, hn, hd, q⟩ := h
    refine ⟨_, pss_one (ps_ret (pe_and (pe_callB call_isi (by rfl) T.isinstance (by decide +kernel) (pa_cons (pv 2) (pa_cons (pe_bltn (v := .ty "list") (by rfl) T.list PyProof.Rows.boot_list rfl) pa_nil)))
      (pe_and (pe_cmpR op_eq (pe_callB call_len_seq (by rfl) T.len PySem.boot_len (pa_cons (pv 2) pa_nil)) (pv 1) (nomark _))
      (pe_one (pe_callB (cr_all rfl) (by rfl) T.all (by decide +kernel) (pa_cons (pe_lc (own := [("kind", 3)]) (g := gName 3) (tt := tYes) rfl scRow.nd (pi_list (pv 2)) (blkOk_by (N := ["kinds", "many", "value", "kind"]) (sc := defScope sRow) (by decide +kernel))
        (fun _ _ _ _ _ => pg_name (i := 3) scRow.nd rfl (Or.inl rfl)) (fun _ _ _ _ _ => pts_nil) (fun _ _ _ _ _ => pe_use U hr (by rfl) (pa_cons (pv 3) (pa_cons (pv 0) pa_nil)))) pa_nil)))))), ?_⟩
    refine ⟨_, rfl, _, _, _, _, _, rfl, .ty "list", hd.ty, kit_list d, _, rfl, ?_⟩
    by_cases e : ∃ ds, d = .list ds
    · obtain ⟨ds, rfl⟩ := e
      cases hd with
      | @lst a xs _ ha hs =>
        have hl := hs.length
        refine iteT ⟨_, rfl, a, xs, rfl, .inl (SqL.of ha), _, rfl, rfl, _, rfl, ?_⟩
        rw [hl]
        by_cases c : (ds.length : Int) = n
        · rw [decide_eq_true (congrArg V.int c)]
          refine iteT ⟨_, rfl, a, rfl, ⟨_, SqL.of ha⟩, fun D hD => ?_⟩
          refine lc_list (K := K) (a := a) (xs := xs) (fun i H' => Same H H' ∧ H' D = some (.lst (((ds.take i).map (below k)).map V.bl))) ⟨same_new hD, upd_same⟩ (fun i H' _ z => (z.1).seq (SqL.of ha)) ?_ ?_
          · rintro i y H' hi ⟨s1, hD'⟩
            obtain ⟨dy, e1, d1⟩ := hs.get hi
            refine ⟨rfl, yes_of ?_⟩
            refine ⟨_, rfl, _, rfl, y, dy, k, rfl, Dt.same s1 dy _ d1, _, hD', ?_, ?_, ?_⟩
            · rw [List.length_map, List.length_map, List.length_take]
              exact small1000 (by omega)
            · exact fun b o z => by rw [upd_ne (ne_of_none z hD)]; exact s1 b o z
            · rw [upd_same, take_more (below k) e1, List.map_append]
              rfl
          · rintro H' ⟨s1, hD'⟩
            rw [hl, List.take_length] at hD'
            refine ⟨D, ds.map (below k), rfl, SqL.of hD', ?_⟩
            have z : rowOk k n (.list ds) = (ds.map (below k)).all id := by
              show (decide ((ds.length : Int) = n) && ds.all (below k)) = _
              rw [decide_eq_true c, Bool.true_and, List.all_map]
              rfl
            rw [← z]
            exact q _ s1
        · rw [decide_eq_false (fun z => c (V.int.inj z))]
          refine iteF ?_
          have z : rowOk k n (.list ds) = false := by
            show (decide ((ds.length : Int) = n) && ds.all (below k)) = false
            rw [decide_eq_false c]
            rfl
          rw [← z]
          exact q _ (Same.refl _)
    · have z : isList d = false ∧ rowOk k n d = false := by
        cases d with
        | list ds => exact (e ⟨ds, rfl⟩).elim
        | _ => exact ⟨rfl, rfl⟩
      rw [z.1]
      refine iteF ?_
      rw [← z.2]
      exact q _ (Same.refl _)
end
end K6

namespace K6
open PySem PySem.Spec PyProof.Rows L2 GL
theorem rowsOk_all (k : Int) : ∀ (ds : List PyData) (n : Nat), rowsOk k n ds = (((List.range ds.length).map fun j => rowOk k ((n + j : Nat) : Int) (ds.getD j .none))).all id
  | [], _ => rfl
  | d :: ds, n => by
    have ih := rowsOk_all k ds (n + 1)
    show (rowOk k n d && rowsOk k (n + 1) ds) = _
    rw [ih, List.length_cons, List.range_succ_eq_map, List.map_cons, List.map_map, List.all_cons]
    have e : (List.range ds.length).map (fun j => rowOk k ((n + 1 + j : Nat) : Int) (ds.getD j .none)) = (List.range ds.length).map ((fun j => rowOk k ((n + j : Nat) : Int) ((d :: ds).getD j .none)) ∘ Nat.succ) := by
      refine List.map_congr_left fun j _ => ?_
      show rowOk k ((n + 1 + j : Nat) : Int) (ds.getD j .none) = rowOk k ((n + (j + 1) : Nat) : Int) (ds.getD j .none)
      rw [show n + 1 + j = n + (j + 1) by omega]
    rw [e]
    rfl
theorem all_range_more (f : Nat → Bool) (i : Nat) : (((List.range (i + 1)).map f).map V.bl) = ((List.range i).map f).map V.bl ++ [V.bl (f i)] := by
  rw [List.range_succ, List.map_append, List.map_append]
  rfl
section
variable {P : Program} {w : World} {K : PySem.W.Frag} {mg : Str → Option Value} {base : Heap}
theorem scCompOf : FnScope ["kinds", "value", "person", "row"] ["kinds", "value"] (defScope sCompOf) := ⟨rfl, rfl, rfl, by decide +kernel, rfl, by decide +kernel, by decide +kernel⟩
def spCompOf (K : PySem.W.Frag) : Sp := fun vs H Q _ => ∃ x d k, vs = [.int k, x] ∧ Dt K H x d ∧ ∀ H', Same H H' → Q (.bl (compOk k d)) H'
theorem ok_compOf {f : Addr} {fd : FuncData} (F : Fun K "is_company_of" "is_company_of" sCompOf f fd) (T : Bi mg) (C : Cs mg) (U : Use P w K mg base "is_row" ["kinds", "many", "value"] (spRow K) 3) : FnOk P w K mg base CX0 4 f fd ["kinds", "value"] (spCompOf K) := by
  refine F.ok scCompOf (fun vs H Q E h => ?_) (fun cdv A outer s H vs Q E hr h => ?_)
  · obtain ⟨x, d, k, rfl, _⟩ := h
    rfl
  · obtain ⟨x, d, k, rfl, hd, q⟩ := h
    obtain ⟨t3, c3⟩ := C.people
    refine ⟨_, pss_cons (ps_if (PW.pt (pw_or (pt_not (pt_val (pe_callB call_isi (by rfl) T.isinstance (by decide +kernel) (pa_cons (pv 1) (pa_cons (pe_bltn (v := .ty "list") (by rfl) T.list PyProof.Rows.boot_list rfl) pa_nil)))))
        (pw_or1 (pt_not (pt_chain op_le op_le pe_int (pe_callB call_len_seq (by rfl) T.len PySem.boot_len (pa_cons (pv 1) pa_nil)) (pe_glob (v := .int 40) rfl c3 ⟨_, rfl⟩)))))) (pss_one (ps_ret pe_bl)) pss_nil)
      (pss_one (ps_ret (pe_callB (cr_all rfl) (by rfl) T.all (by decide +kernel) (pa_cons (pe_lc (own := [("person", 2), ("row", 3)]) (g := gTup K 2 (gCons (gName 2) (gCons (gName 3) gNil))) (tt := tYes) rfl scCompOf.nd (pi_enum (by rfl) T.enumerate (pa_cons (pv 1) pa_nil))
        (blkOk_by (N := ["kinds", "value", "person", "row"]) (sc := defScope sCompOf) (by decide +kernel)) (fun _ _ _ _ _ => pg_tup rfl (pgs_cons (pg_name (i := 2) scCompOf.nd rfl (Or.inl rfl)) (pgs_cons (pg_name (i := 3) scCompOf.nd rfl (Or.inl rfl)) pgs_nil)))
        (fun _ _ _ _ _ => pts_nil) (fun _ _ _ _ _ => pe_use U hr (by rfl) (pa_cons (pv 0) (pa_cons (pv 2) (pa_cons (pv 3) pa_nil))))) pa_nil)))), ?_⟩
    refine ⟨_, rfl, _, _, _, _, _, rfl, .ty "list", hd.ty, kit_list d, _, rfl, ?_⟩
    by_cases e : ∃ ds, d = .list ds
    · obtain ⟨ds, rfl⟩ := e
      cases hd with
      | @lst a xs _ ha hs =>
        have hl := hs.length
        refine iteF ⟨_, rfl, a, xs, rfl, .inl (SqL.of ha), _, _, rfl, rfl, _, rfl, ?_⟩
        rw [hl]
        by_cases c1 : (1 : Int) ≤ (ds.length : Int)
        · rw [decide_eq_true c1]
          refine iteT ⟨_, _, rfl, rfl, _, rfl, ?_⟩
          by_cases c2 : (ds.length : Int) ≤ 40
          · rw [decide_eq_true c2]
            refine iteF ⟨_, rfl, a, xs, rfl, SqL.of ha, fun D hD => ?_⟩
            refine lc_it (walk_enum (K := K) (a := a) (xs := xs)) (fun i H' => Same H H' ∧ H' D = some (.lst (((List.range i).map fun j => rowOk k ((0 + j : Nat) : Int) (ds.getD j .none)).map V.bl))) ⟨same_new hD, upd_same⟩ (fun i H' _ z => (z.1).seq (SqL.of ha)) ?_ ?_
            · rintro i y H' H'' hi ⟨s1, hD'⟩ ⟨T, x1, x2, rfl, nT, rfl, e1, e2⟩
              have e1' : x1 = .int (i : Nat) := (Option.some.inj e1).symm
              subst e1'
              obtain ⟨dy, f1, f2⟩ := hs.get e2
              have s2 := s1.trans (same_new (o := .tup [.int (i : Nat), x2]) nT)
              have ne : D ≠ T := ne_of_none hD' nT
              refine ⟨T, [.int (i : Nat), x2], rfl, SqT.of upd_same, rfl, _, _, rfl, _, _, rfl, rfl, rfl, yes_of ?_⟩
              refine ⟨_, rfl, _, rfl, _, rfl, x2, dy, k, i, rfl, by omega, Dt.same s2 dy _ f2, fun H3 s3 => ⟨_, s3 D _ (by rw [upd_ne ne]; exact hD'), ?_, ?_, ?_⟩⟩
              · rw [List.length_map, List.length_map, List.length_range]
                exact small1000 (by omega)
              · exact fun b o z => by rw [upd_ne (ne_of_none z hD)]; exact s3 b o (s2 b o z)
              · rw [upd_same, all_range_more]
                have ez : (0 + i : Nat) = i := Nat.zero_add i
                have eg : ds.getD i .none = dy := by rw [List.getD_eq_getElem?_getD, f1]; rfl
                rw [ez, eg]
            · rintro H' ⟨s1, hD'⟩
              refine ⟨D, _, rfl, SqL.of hD', ?_⟩
              rw [hl, ← rowsOk_all]
              have z : compOk k (.list ds) = rowsOk k 0 ds := by
                show ((decide (1 ≤ ds.length) && decide (ds.length ≤ 40)) && rowsOk k 0 ds) = _
                rw [decide_eq_true (by omega : 1 ≤ ds.length), decide_eq_true (by omega : ds.length ≤ 40)]
                rfl
              rw [← z]
              exact q _ s1
          · rw [decide_eq_false c2]
            refine iteT ?_
            have z : compOk k (.list ds) = false := by
              show ((decide (1 ≤ ds.length) && decide (ds.length ≤ 40)) && rowsOk k 0 ds) = _
              rw [decide_eq_false (by omega : ¬ ds.length ≤ 40), Bool.and_false, Bool.false_and]
            have q' := q _ (Same.refl _)
            rw [z] at q'
            exact q'
        · rw [decide_eq_false c1]
          refine iteF ⟨_, rfl, iteT ?_⟩
          have z : compOk k (.list ds) = false := by
            show ((decide (1 ≤ ds.length) && decide (ds.length ≤ 40)) && rowsOk k 0 ds) = _
            rw [decide_eq_false (by omega : ¬ 1 ≤ ds.length), Bool.false_and, Bool.false_and]
          have q' := q _ (Same.refl _)
          rw [z] at q'
          exact q'
    · have z : isList d = false ∧ compOk k d = false := by
        cases d with
        | list ds => exact (e ⟨ds, rfl⟩).elim
        | _ => exact ⟨rfl, rfl⟩
      rw [z.1]
      refine iteT ?_
      have q' := q _ (Same.refl _)
      rw [z.2] at q'
      exact q'
end
end K6

namespace K6
open PySem PySem.Spec PyProof.Rows L2 GL
/-! ### tables of numbers -/
/-- at c a list of the lists at rs, which hold the numbers kss -/
structure Tab (H : Hp) (c : Addr) (rs : List Addr) (kss : List (List Int)) : Prop where
  top : H c = some (.lst (rs.map V.ref))
  len : rs.length = kss.length
  row : ∀ (i : Nat) (r : Addr) (ks : List Int), rs[i]? = some r → kss[i]? = some ks → H r = some (.lst (ks.map V.int))
  nd : rs.Nodup
/-- the numbers of a company -/
def Fine (k : Int) (kss : List (List Int)) : Prop := ∀ (i : Nat) (ks : List Int), kss[i]? = some ks → ks.length = i ∧ ∀ z ∈ ks, 0 ≤ z ∧ z < k
theorem Tab.same {H H' : Hp} {c : Addr} {rs : List Addr} {kss : List (List Int)} (t : Tab H c rs kss) (s : Same H H') : Tab H' c rs kss := ⟨s _ _ t.top, t.len, fun i r ks a b => s _ _ (t.row i r ks a b), t.nd⟩
theorem Tab.at {H : Hp} {c : Addr} {rs : List Addr} {kss : List (List Int)} (t : Tab H c rs kss) {i : Nat} (hi : i < kss.length) : ∃ r ks, rs[i]? = some r ∧ kss[i]? = some ks ∧ H r = some (.lst (ks.map V.int)) := by
  have h2 : i < rs.length := by rw [t.len]; exact hi
  exact ⟨rs[i], kss[i], List.getElem?_eq_getElem h2, List.getElem?_eq_getElem hi, t.row i _ _ (List.getElem?_eq_getElem h2) (List.getElem?_eq_getElem hi)⟩
def exprOf : Stmt → Expr
  | .Return (some e) _ => e
  | .Assign _ e _ => e
  | _ => .Name "" ⟨0, 0, 0, 0⟩
def stmtIn (l : List Stmt) (i : Nat) : Stmt := l.getD i (.Pass ⟨0, 0, 0, 0⟩)
def compScope : Expr → Scope
  | .ListComp _ _ sc _ => sc
  | _ => { kind := .function, names := [], isGenerator := false, isCoroutine := false }
theorem cut_to {xs : List V} {i : Nat} (h : i ≤ xs.length) : cutV xs none (some (i : Int)) = xs.take i := by
  unfold cutV
  rw [HT.sIx_none, HT.sIx_nat, Nat.min_eq_left h]
  rfl
theorem Tab.push {H H4 : Hp} {c p : Addr} {rs : List Addr} {kss : List (List Int)} {ks : List Int} (t : Tab H c rs kss) (nc : c ∉ rs) (s : ∀ r ∈ rs, ∀ o, H r = some o → H4 r = some o) (hp : H p = none) (h4 : H4 p = some (.lst (ks.map V.int))) :
    Tab (upd H4 c (.lst (rs.map V.ref ++ [V.ref p]))) c (rs ++ [p]) (kss ++ [ks]) ∧ c ∉ rs ++ [p] := by
  have pc : c ≠ p := ne_of_none t.top hp
  have held : ∀ r ∈ rs, ∃ o, H r = some o := fun r hr => by
    obtain ⟨i, hi⟩ := List.getElem?_of_mem hr
    have h2 : i < kss.length := by rw [← t.len]; exact (List.getElem?_eq_some_iff.mp hi).1
    exact ⟨_, t.row i r _ hi (List.getElem?_eq_getElem h2)⟩
  have np : p ∉ rs := fun hr => by
    obtain ⟨o, e⟩ := held p hr
    rw [hp] at e
    cases e
  refine ⟨⟨?_, ?_, ?_, ?_⟩, ?_⟩
  · rw [upd_same, List.map_append]
    rfl
  · rw [List.length_append, List.length_append, t.len]
    rfl
  · intro i r ks' h1 h2
    by_cases hi : i < rs.length
    · rw [List.getElem?_append_left hi] at h1
      rw [List.getElem?_append_left (by rw [← t.len]; exact hi)] at h2
      have e := t.row i r ks' h1 h2
      have rc : r ≠ c := fun z => nc (by rw [← z]; exact List.mem_of_getElem? h1)
      rw [upd_ne rc]
      exact s r (List.mem_of_getElem? h1) _ e
    · rw [List.getElem?_append_right (by omega)] at h1
      rw [List.getElem?_append_right (by rw [← t.len]; omega)] at h2
      have i0 : i - rs.length = 0 := by
        have := (List.getElem?_eq_some_iff.mp h1).1
        simp at this
        omega
      rw [i0] at h1
      rw [← t.len, i0] at h2
      cases h1
      cases h2
      rw [upd_ne pc.symm]
      exact h4
  · rw [List.nodup_append]
    refine ⟨t.nd, by simp, fun a ha b hb => ?_⟩
    rw [List.mem_singleton] at hb
    subst hb
    exact fun z => np (by rw [← z]; exact ha)
  · rw [List.mem_append, List.mem_singleton]
    rintro (z | z)
    · exact nc z
    · exact pc z
theorem Fine.nil {k : Int} : Fine k [] := fun i ks h => by simp at h
theorem Fine.push {k : Int} {kss : List (List Int)} {ks : List Int} (f : Fine k kss) (l : ks.length = kss.length) (b : ∀ z ∈ ks, 0 ≤ z ∧ z < k) : Fine k (kss ++ [ks]) := by
  intro i ks' h
  by_cases hi : i < kss.length
  · rw [List.getElem?_append_left hi] at h
    exact f i ks' h
  · rw [List.getElem?_append_right (by omega)] at h
    have i0 : i - kss.length = 0 := by
      have := (List.getElem?_eq_some_iff.mp h).1
      simp at this
      omega
    rw [i0] at h
    cases h
    exact ⟨by omega, b⟩
theorem Tab.but {H H' : Hp} {c g : Addr} {rs : List Addr} {kss : List (List Int)} (t : Tab H c rs kss) (b : But g H H') (h1 : c ≠ g) (h2 : g ∉ rs) : Tab H' c rs kss :=
  ⟨b _ _ t.top h1, t.len, fun i r ks x y => b _ _ (t.row i r ks x y) fun z => h2 (by rw [← z]; exact List.mem_of_getElem? x), t.nd⟩
def natV (os : List Nat) : List V := os.map fun (j : Nat) => V.int (j : Int)
theorem seq_in {r : Int} {n : Nat} (h0 : 0 ≤ r) (h1 : r < n) : seqIndex? r n = some r.toNat := by
  unfold seqIndex?
  rw [if_neg (by omega : ¬ r < 0), if_pos (by simp [h0, h1])]
theorem rg_nat (n : Nat) : rgV 0 (n : Int) = natV (List.range n) := by
  unfold rgV natV
  rw [show ((n : Int) - 0).toNat = n by omega]
  exact List.map_congr_left fun j _ => by rw [Int.zero_add]
theorem erase_map : ∀ {os : List Nat} (k : Nat), (natV os).eraseIdx k = natV (os.eraseIdx k)
  | [], k => by cases k <;> rfl
  | a :: os, 0 => rfl
  | a :: os, k + 1 => congrArg (V.int (a : Int) :: ·) (erase_map (os := os) k)
theorem perm_erase : ∀ {l : List Nat} {k : Nat} {y : Nat}, l[k]? = some y → (y :: l.eraseIdx k).Perm l
  | [], k, y, h => by simp at h
  | a :: l, 0, y, h => by
    cases h
    exact .refl _
  | a :: l, k + 1, y, h => (List.Perm.swap a y (l.eraseIdx k)).trans (List.Perm.cons a (perm_erase (l := l) (k := k) h))
def ifBody : Stmt → List Stmt
  | .If _ b _ _ => b
  | _ => []
def forBody : Stmt → List Stmt
  | .For _ _ b _ _ => b
  | _ => []
theorem rep_one (n : Nat) (k : Int) : (List.replicate n [V.int k]).flatten = (List.replicate n k).map V.int := by
  induction n with
  | zero => rfl
  | succ n ih =>
    rw [List.replicate_succ, List.replicate_succ, List.flatten_cons, ih]
    rfl
theorem notin_new {H : Hp} {g : Addr} {n : Nat} {rs : List Addr} (G : Gen H g n) (nR : ∀ r ∈ rs, H r = none) : g ∉ rs := fun z => by
  obtain ⟨a, b, c, h1, _⟩ := G
  have := nR g z
  rw [h1] at this
  cases this
theorem but_free {H H' : Hp} {g p : Addr} {n' : Nat} (b : But g H H') (G' : Gen H' g n') (hp : H' p = none) : H p = none := by
  have pg : p ≠ g := (G'.ne hp).symm
  cases q : H p with
  | none => rfl
  | some o =>
    rw [b p o q pg] at hp
    cases hp
theorem Gen.same {H H' : Hp} {g : Addr} {n : Nat} (h : Gen H g n) (s : Same H H') : Gen H' g n := by
  obtain ⟨a, b, c, h1, r⟩ := h
  exact ⟨a, b, c, s _ _ h1, r⟩
theorem cut_one (xs : List V) : cutV xs (some 1) none = xs.drop 1 := by
  unfold cutV
  rw [HT.sIx_none, show HT.sIx xs.length 0 (some 1) = min 1 xs.length from HT.sIx_nat xs.length 0 1]
  cases xs with
  | nil => rfl
  | cons x xs =>
    have e : min 1 (x :: xs).length = 1 := by
      rw [List.length_cons]
      omega
    rw [e]
    exact List.take_of_length_le (by rw [List.length_drop]; omega)
theorem gen (H : Hp) {p : Addr} (h : H p = none) (o : HO) : ∃ H', upd H p o = H' ∧ Same H H' ∧ H' p = some o := ⟨_, rfl, same_new h, upd_same⟩
theorem one_le : 1 ≤ sizeLine := by decide
abbrev sCheckC : Stmt := topS 16
abbrev sTie : Stmt := topS 30
/-- the tie of two people -/
def tieN (kss : List (List Int)) (i j : Nat) : Int := (kss.getD (max i j) []).getD (min i j) 0
theorem tieN_comm (kss : List (List Int)) (i j : Nat) : tieN kss i j = tieN kss j i := by
  unfold tieN
  rw [Nat.max_comm, Nat.min_comm]
theorem tieN_in {k : Int} {kss : List (List Int)} (f : Fine k kss) {i j : Nat} (hi : i < kss.length) (hj : j < kss.length) (ne : i ≠ j) : 0 ≤ tieN kss i j ∧ tieN kss i j < k := by
  have hm : max i j < kss.length := by omega
  have e : kss.getD (max i j) [] = kss[max i j] := by rw [List.getD_eq_getElem?_getD, List.getElem?_eq_getElem hm]; rfl
  obtain ⟨a, b⟩ := f _ _ (List.getElem?_eq_getElem hm)
  have hl : min i j < kss[max i j].length := by omega
  unfold tieN
  rw [e, List.getD_eq_getElem?_getD, List.getElem?_eq_getElem hl]
  exact b _ (List.getElem_mem hl)
section
variable {P : Program} {w : World} {K : PySem.W.Frag} {mg : Str → Option Value} {base : Heap}
theorem scCheck : FnScope ["kinds"] ["kinds"] (defScope sCheck) := ⟨rfl, rfl, rfl, by decide +kernel, rfl, by decide +kernel, by decide +kernel⟩
def spCheck : Sp := fun vs H Q _ => ∃ k : Int, vs = [.int k] ∧ 2 ≤ k ∧ k ≤ 9 ∧ Q .non H
theorem ok_check {f : Addr} {fd : FuncData} (F : Fun K "check_kinds" "check_kinds" sCheck f fd) (U : Use P w K mg base "are_kinds" ["value"] (spKinds K) 2) : FnOk P w K mg base CX0 3 f fd ["kinds"] spCheck := by
  refine F.ok scCheck (fun vs H Q E h => ?_) (fun cdv A outer s H vs Q E hr h => ?_)
  · obtain ⟨k, rfl, _⟩ := h
    rfl
  · obtain ⟨k, rfl, h2, h9, q⟩ := h
    refine ⟨_, pss_one (ps_if (pt_not (pt_val (pe_use U hr (by rfl) (pa_cons (pv 0) pa_nil)))) (pss_one ps_never) pss_nil), ?_⟩
    exact ⟨_, rfl, k, rfl, h2, h9, _, rfl, iteF q⟩

theorem scCheckC : FnScope ["kinds", "company"] ["kinds", "company"] (defScope sCheckC) := ⟨rfl, rfl, rfl, by decide +kernel, rfl, by decide +kernel, by decide +kernel⟩
def spCheckC (K : PySem.W.Frag) : Sp := fun vs H Q _ => ∃ (k : Int) (x : V) (d : PyData), vs = [.int k, x] ∧ 2 ≤ k ∧ k ≤ 9 ∧ Dt K H x d ∧ compOk k d = true ∧ ∀ H', Same H H' → Q .non H'
theorem ok_checkC {f : Addr} {fd : FuncData} (F : Fun K "check_company" "check_company" sCheckC f fd) (U : Use P w K mg base "check_kinds" ["kinds"] spCheck 3) (V : Use P w K mg base "is_company_of" ["kinds", "value"] (spCompOf K) 4) : FnOk P w K mg base CX0 5 f fd ["kinds", "company"] (spCheckC K) := by
  refine F.ok scCheckC (fun vs H Q E h => ?_) (fun cdv A outer s H vs Q E hr h => ?_)
  · obtain ⟨k, x, d, rfl, _⟩ := h
    rfl
  · obtain ⟨k, x, d, rfl, h2, h9, hd, ok, q⟩ := h
    refine ⟨_, pss_cons (ps_expr (pe_use U (hr.mono (by decide)) (by rfl) (pa_cons (pv 0) pa_nil))) (pss_one (ps_if (pt_not (pt_val (pe_use V hr (by rfl) (pa_cons (pv 0) (pa_cons (pv 1) pa_nil))))) (pss_one ps_never) pss_nil)), ?_⟩
    refine ⟨_, rfl, k, rfl, h2, h9, _, rfl, _, rfl, x, d, k, rfl, hd, fun H' s' => ⟨_, rfl, ?_⟩⟩
    rw [ok]
    exact iteF (q _ s')
theorem scTie : FnScope ["_law_company_here", "_law_one", "_law_other"] ["_law_company_here", "_law_one", "_law_other"] (defScope sTie) := ⟨rfl, rfl, rfl, by decide +kernel, rfl, by decide +kernel, by decide +kernel⟩
def spTie : Sp := fun vs H Q _ => ∃ (c : Addr) (rs : List Addr) (kss : List (List Int)) (k : Int) (one other : Nat), vs = [.ref c, .int one, .int other] ∧ Tab H c rs kss ∧ Fine k kss ∧ one < kss.length ∧ other < kss.length ∧ one ≠ other ∧ Q (.int (tieN kss one other)) H
theorem ok_tie {f : Addr} {fd : FuncData} (F : Fun K "_law_tie" "_law_tie" sTie f fd) (T : Bi mg) : FnOk P w K mg base CX0 1 f fd ["_law_company_here", "_law_one", "_law_other"] spTie := by
  refine F.ok scTie (fun vs H Q E h => ?_) (fun cdv A outer s H vs Q E hr h => ?_)
  · obtain ⟨c, rs, kss, k, i, j, rfl, _⟩ := h
    rfl
  · obtain ⟨c, rs, kss, k, i, j, rfl, t, fine, hi, hj, ne, q⟩ := h
    refine ⟨_, pss_one (ps_ret (pe_ix ix_list (pe_ix ix_list (pv 0) (pe_callB (call_max2 rfl) (by rfl) T.max (by decide +kernel) (pa_cons (pv 1) (pa_cons (pv 2) pa_nil))) (fun _ _ => rfl)) (pe_callB (call_min2 rfl) (by rfl) T.min (by decide +kernel) (pa_cons (pv 1) (pa_cons (pv 2) pa_nil))) (fun _ _ => rfl))), ?_⟩
    have e1 : (if (j : Int) > (i : Int) then (j : Int) else (i : Int)) = ((max i j : Nat) : Int) := by
      by_cases c : i < j
      · rw [if_pos (by omega), Nat.max_eq_right (by omega)]
      · rw [if_neg (by omega), Nat.max_eq_left (by omega)]
    have e2 : (if (j : Int) < (i : Int) then (j : Int) else (i : Int)) = ((min i j : Nat) : Int) := by
      by_cases c : i < j
      · rw [if_neg (by omega), Nat.min_eq_left (by omega)]
      · by_cases c2 : j < i
        · rw [if_pos (by omega), Nat.min_eq_right (by omega)]
        · omega
    have hm : max i j < kss.length := by omega
    obtain ⟨r, ks, a1, a2, a3⟩ := t.at hm
    obtain ⟨b1, _⟩ := fine _ _ a2
    have hlo : min i j < ks.length := by omega
    have ez : tieN kss i j = ks[min i j] := by
      have eA : kss.getD (max i j) [] = ks := by rw [List.getD_eq_getElem?_getD, a2]; rfl
      unfold tieN
      rw [eA, List.getD_eq_getElem?_getD, List.getElem?_eq_getElem hlo]
      rfl
    rw [ez] at q
    exact ⟨_, rfl, _, rfl, _, rfl, _, _, rfl, c, _, _, _, rfl, rfl, SqL.of t.top, at_of (j := max i j) (v := V.ref r) e1 (by rw [List.getElem?_map, a1]; rfl), _, rfl, _, rfl, _, _, rfl, r, _, _, _, rfl, rfl, SqL.of a3, at_of (j := min i j) (v := V.int ks[min i j]) e2 (by rw [List.getElem?_map, List.getElem?_eq_getElem hlo]; rfl), q⟩
end
end K6

namespace K6
open PySem PySem.Spec PyProof.Rows L2 GL
abbrev sLot : Stmt := topS 14
abbrev sCheckL : Stmt := topS 17
abbrev sTies : Stmt := topS 19
/-- a lot of so many people -/
structure Lot (n : Nat) (l : List Nat) : Prop where
  some : l ≠ []
  up : l.Pairwise (· < ·)
  low : ∀ p ∈ l, p < n
theorem up_len {n : Nat} : ∀ (l : List Nat) (m : Nat), l.Pairwise (· < ·) → (∀ p ∈ l, m ≤ p ∧ p < n) → l.length ≤ n - m
  | [], _, _, _ => Nat.zero_le _
  | a :: t, m, h, b => by
    obtain ⟨h1, h2⟩ := List.pairwise_cons.mp h
    have ba := b a (List.mem_cons_self ..)
    have ih := up_len t (a + 1) h2 fun p hp => ⟨h1 p hp, (b p (List.mem_cons_of_mem _ hp)).2⟩
    rw [List.length_cons]
    omega
theorem Lot.len {n : Nat} {l : List Nat} (h : Lot n l) : 1 ≤ l.length ∧ l.length ≤ n := by
  have := up_len l 0 h.up fun p hp => ⟨Nat.zero_le _, h.low p hp⟩
  have := List.length_pos_iff.mpr h.some
  omega
theorem trues_more (i : Nat) : (List.replicate (i + 1) true).map V.bl = (List.replicate i true).map V.bl ++ [V.bl true] := by
  rw [List.replicate_succ', List.map_append]
  rfl
theorem trues_all (n : Nat) : (List.replicate n true).all id = true := by
  induction n with
  | zero => rfl
  | succ n ih =>
    rw [List.replicate_succ, List.all_cons, ih]
    rfl
section
variable {P : Program} {w : World} {K : PySem.W.Frag} {mg : Str → Option Value} {base : Heap}
theorem scLot : FnScope ["many", "value", "person", "later"] ["many", "value"] (defScope sLot) := ⟨rfl, rfl, rfl, by decide +kernel, rfl, by decide +kernel, by decide +kernel⟩
def spLot (K : PySem.W.Frag) : Sp := fun vs H Q _ => ∃ (n : Nat) (o : Addr) (l : List Nat), vs = [.int n, .ref o] ∧ n ≤ 100 ∧ H o = some (.lst (natV l)) ∧ Lot n l ∧ ∀ H', Same H H' → Q (.bl true) H'
theorem ok_lot {f : Addr} {fd : FuncData} (F : Fun K "is_lot" "is_lot" sLot f fd) (T : Bi mg) (U : Use P w K mg base "is_below" ["value", "bound"] (spBelow K) 2) : FnOk P w K mg base CX0 3 f fd ["many", "value"] (spLot K) := by
  refine F.ok scLot (fun vs H Q E h => ?_) (fun cdv A outer s H vs Q E hr h => ?_)
  · obtain ⟨n, o, l, rfl, _⟩ := h
    rfl
  · obtain ⟨n, o, l, rfl, n100, ho, lot, q⟩ := h
    refine ⟨_, pss_cons (ps_if (PW.pt (pw_or (pt_not (pt_val (pe_callB call_isi (by rfl) T.isinstance (by decide +kernel) (pa_cons (pv 1) (pa_cons (pe_bltn (v := .ty "list") (by rfl) T.list PyProof.Rows.boot_list rfl) pa_nil)))))
        (pw_or1 (pt_not (pt_chain op_le op_le pe_int (pe_callB call_len_seq (by rfl) T.len PySem.boot_len (pa_cons (pv 1) pa_nil)) (pv 0)))))) (pss_one (ps_ret pe_bl)) pss_nil)
      (pss_cons (ps_if (pt_not (pt_val (pe_callB (cr_all rfl) (by rfl) T.all (by decide +kernel) (pa_cons (pe_lc (own := [("person", 2)]) (g := gName 2) (tt := tYes) rfl scLot.nd (pi_list (pv 1)) (blkOk_by (N := ["many", "value", "person", "later"]) (sc := defScope sLot) (by decide +kernel))
        (fun _ _ _ _ _ => pg_name (i := 2) scLot.nd rfl (Or.inl rfl)) (fun _ _ _ _ _ => pts_nil) (fun _ _ _ _ _ => pe_use U hr (by rfl) (pa_cons (pv 2) (pa_cons (pv 0) pa_nil)))) pa_nil)))) (pss_one (ps_ret pe_bl)) pss_nil)
      (pss_one (ps_ret (pe_callB (cr_all rfl) (by rfl) T.all (by decide +kernel) (pa_cons (pe_lc (own := [("person", 2), ("later", 3)]) (g := gTup K 2 (gCons (gName 2) (gCons (gName 3) gNil))) (tt := tYes) rfl scLot.nd
        (pi_zip (by rfl) T.zip (pa_cons (pv 1) (pa_cons (pe_slice sl_list (pv 1) (po_some pe_int) po_none) pa_nil))) (blkOk_by (N := ["many", "value", "person", "later"]) (sc := defScope sLot) (by decide +kernel))
        (fun _ _ _ _ _ => pg_tup rfl (pgs_cons (pg_name (i := 2) scLot.nd rfl (Or.inl rfl)) (pgs_cons (pg_name (i := 3) scLot.nd rfl (Or.inl rfl)) pgs_nil))) (fun _ _ _ _ _ => pts_nil) (fun _ _ _ _ _ => pe_cmpR op_lt (pv 2) (pv 3) (nomark _))) pa_nil))))), ?_⟩
    obtain ⟨l1, l2⟩ := lot.len
    have ll : (natV l).length = l.length := List.length_map _
    refine ⟨_, rfl, _, _, _, _, _, rfl, .ty "list", .base (.lst ho), kit_list (.list []), _, rfl, iteF ⟨_, rfl, o, _, rfl, .inl (SqL.of ho), _, _, rfl, rfl, _, rfl, ?_⟩⟩
    rw [decide_eq_true (by omega : (1 : Int) ≤ ((natV l).length : Int))]
    refine iteT ⟨_, rfl, _, _, rfl, rfl, _, rfl, ?_⟩
    rw [decide_eq_true (by omega : ((natV l).length : Int) ≤ (n : Int))]
    refine iteF ⟨_, rfl, o, rfl, ⟨_, SqL.of ho⟩, fun D hD => ?_⟩
    refine lc_list (K := K) (a := o) (xs := natV l) (fun i H' => Same H H' ∧ H' D = some (.lst ((List.replicate i true).map V.bl))) ⟨same_new hD, upd_same⟩ (fun i H' _ z => SqL.of (z.1 _ _ ho)) ?_ ?_
    · rintro i y H' hi ⟨s1, h1⟩
      unfold natV at hi
      rw [List.getElem?_map] at hi
      cases e : l[i]? with
      | none =>
        rw [e] at hi
        cases hi
      | some p =>
        rw [e] at hi
        cases hi
        have pl := lot.low p (List.mem_of_getElem? e)
        have il := (List.getElem?_eq_some_iff.mp e).1
        refine ⟨rfl, yes_of ⟨_, rfl, _, rfl, _, .int (p : Nat), n, rfl, .int _, ?_⟩⟩
        have z : below n (.int (p : Nat)) = true := by
          show (decide ((0 : Int) ≤ (p : Nat)) && decide (((p : Nat) : Int) < n)) = true
          rw [decide_eq_true (by omega : (0 : Int) ≤ (p : Nat)), decide_eq_true (by omega : ((p : Nat) : Int) < n)]
          rfl
        rw [z]
        refine ⟨_, h1, ?_, fun b o' e' => ?_, ?_⟩
        · rw [List.length_map, List.length_replicate]
          exact small1000 (by omega)
        · rw [upd_ne (ne_of_none e' hD)]
          exact s1 b o' e'
        · rw [upd_same, trues_more]
    · rintro H' ⟨s1, h1⟩
      refine ⟨D, _, rfl, SqL.of h1, _, rfl, ?_⟩
      rw [trues_all]
      refine iteF ⟨_, rfl, _, rfl, 1, rfl, o, _, rfl, SqL.of (s1 _ _ ho), fun c nc => ?_⟩
      rw [cut_one]
      obtain ⟨H2, e2, s2, f2⟩ := gen H' nc (.lst ((natV l).drop 1))
      rw [e2]
      clear e2
      have s12 := s1.trans s2
      refine ⟨o, c, _, _, rfl, SqL.of (s12 _ _ ho), SqL.of f2, fun D2 hD2 => ?_⟩
      have mn : min (natV l).length ((natV l).drop 1).length = l.length - 1 := by
        rw [List.length_drop, ll]
        omega
      refine lc_it (walk_zip (K := K) (a := o) (b := c) (xs := natV l) (ys := (natV l).drop 1) (n := l.length - 1) mn.symm) (fun i H' => Same H2 H' ∧ H' D2 = some (.lst ((List.replicate i true).map V.bl))) ⟨same_new hD2, upd_same⟩ (fun i H' _ z => ⟨SqL.of (z.1 _ _ (s12 _ _ ho)), SqL.of (z.1 _ _ f2)⟩) ?_ ?_
      · rintro i y H3 H4 hi ⟨s3, h3⟩ ⟨A2, x1, x2, rfl, nA, rfl, e1, e2⟩
        have i1 : i < l.length := by omega
        have i2 : i + 1 < l.length := by omega
        have e1' : (natV l)[i]? = some x1 := e1
        have e2' : ((natV l).drop 1)[i]? = some x2 := e2
        unfold natV at e1' e2'
        rw [List.getElem?_map, List.getElem?_eq_getElem i1] at e1'
        rw [List.getElem?_drop, Nat.add_comm 1 i, List.getElem?_map, List.getElem?_eq_getElem i2] at e2'
        cases e1'
        cases e2'
        have lt : l[i] < l[i + 1] := List.pairwise_iff_getElem.mp lot.up i (i + 1) i1 i2 (by omega)
        refine ⟨A2, _, rfl, SqT.of upd_same, rfl, _, _, rfl, _, _, rfl, rfl, rfl, yes_of ?_⟩
        refine ⟨_, rfl, _, rfl, _, _, rfl, rfl, (List.replicate i true).map V.bl, ?_, ?_, ?_⟩
        · rw [upd_ne (ne_of_none h3 nA)]
          exact h3
        · rw [List.length_map, List.length_replicate]
          exact small1000 (by omega)
        · refine ⟨fun b o' e' => ?_, ?_⟩
          · rw [upd_ne (ne_of_none e' hD2)]
            exact (same_new nA) b o' (s3 b o' e')
          · have z : decide (((l[i] : Nat) : Int) < ((l[i + 1] : Nat) : Int)) = true := decide_eq_true (by omega)
            rw [upd_same, trues_more, ← z]
      · rintro H3 ⟨s3, h3⟩
        refine ⟨D2, _, rfl, SqL.of h3, ?_⟩
        rw [trues_all]
        exact q _ (s12.trans s3)
theorem scCheckL : FnScope ["company", "lot"] ["company", "lot"] (defScope sCheckL) := ⟨rfl, rfl, rfl, by decide +kernel, rfl, by decide +kernel, by decide +kernel⟩
def spCheckL : Sp := fun vs H Q _ => ∃ (c o : Addr) (xs : List V) (l : List Nat), vs = [.ref c, .ref o] ∧ H c = some (.lst xs) ∧ xs.length ≤ 100 ∧ H o = some (.lst (natV l)) ∧ Lot xs.length l ∧ ∀ H', Same H H' → Q .non H'
theorem ok_checkL {f : Addr} {fd : FuncData} (F : Fun K "check_lot" "check_lot" sCheckL f fd) (T : Bi mg) (U : Use P w K mg base "is_lot" ["many", "value"] (spLot K) 3) : FnOk P w K mg base CX0 4 f fd ["company", "lot"] spCheckL := by
  refine F.ok scCheckL (fun vs H Q E h => ?_) (fun cdv A outer s H vs Q E hr h => ?_)
  · obtain ⟨c, o, xs, l, rfl, _⟩ := h
    rfl
  · obtain ⟨c, o, xs, l, rfl, hc, lx, ho, lot, q⟩ := h
    refine ⟨_, pss_one (ps_if (pt_not (pt_val (pe_use U hr (by rfl) (pa_cons (pe_callB call_len_seq (by rfl) T.len PySem.boot_len (pa_cons (pv 0) pa_nil)) (pa_cons (pv 1) pa_nil))))) (pss_one ps_never) pss_nil), ?_⟩
    exact ⟨_, rfl, c, _, rfl, .inl (SqL.of hc), _, rfl, xs.length, o, l, rfl, lx, ho, lot, fun H' s' => ⟨_, rfl, iteF (q _ s')⟩⟩
end
end K6

namespace K6
open PySem PySem.Spec PyProof.Rows L2 GL
/-! ### the table of all ties -/
structure Mat (H : Hp) (p : Addr) (ps : List Addr) (n : Nat) (f : Nat → Nat → V) : Prop where
  top : H p = some (.lst (ps.map V.ref))
  len : ps.length = n
  row : ∀ (i : Nat) (r : Addr), ps[i]? = some r → H r = some (.lst ((List.range n).map (f i)))
  nd : ps.Nodup
  np : p ∉ ps
theorem Mat.same {H H' : Hp} {p : Addr} {ps : List Addr} {n : Nat} {f : Nat → Nat → V} (m : Mat H p ps n f) (s : Same H H') : Mat H' p ps n f := ⟨s _ _ m.top, m.len, fun i r h => s _ _ (m.row i r h), m.nd, m.np⟩
theorem Mat.at {H : Hp} {p : Addr} {ps : List Addr} {n : Nat} {f : Nat → Nat → V} (m : Mat H p ps n f) {i : Nat} (hi : i < n) : ∃ r, ps[i]? = some r ∧ H r = some (.lst ((List.range n).map (f i))) := by
  have h2 : i < ps.length := by rw [m.len]; exact hi
  exact ⟨ps[i], List.getElem?_eq_getElem h2, m.row i _ (List.getElem?_eq_getElem h2)⟩
theorem Mat.congr {H : Hp} {p : Addr} {ps : List Addr} {n : Nat} {f g : Nat → Nat → V} (m : Mat H p ps n f) (e : ∀ i j, i < n → j < n → f i j = g i j) : Mat H p ps n g := ⟨m.top, m.len, fun i r h => by
  have hi : i < n := by rw [← m.len]; exact (List.getElem?_eq_some_iff.mp h).1
  rw [m.row i r h, List.map_congr_left fun j hj => e i j hi (List.mem_range.mp hj)], m.nd, m.np⟩
theorem Mat.set {H : Hp} {p r : Addr} {ps : List Addr} {n i j : Nat} {f : Nat → Nat → V} {v : V} (m : Mat H p ps n f) (hr : ps[i]? = some r) (hj : j < n) :
    Mat (upd H r (.lst (((List.range n).map (f i)).set j v))) p ps n fun a b => if a = i ∧ b = j then v else f a b := by
  have pr : p ≠ r := fun z => m.np (by rw [z]; exact List.mem_of_getElem? hr)
  refine ⟨by rw [upd_ne pr]; exact m.top, m.len, fun a q ha => ?_, m.nd, m.np⟩
  by_cases c : a = i
  · subst c
    rw [hr] at ha
    cases ha
    rw [upd_same]
    congr 2
    apply List.ext_getElem
    · rw [List.length_set, List.length_map, List.length_map]
    · intro b h1 h2
      rw [List.getElem_set, List.getElem_map, List.getElem_map, List.getElem_range]
      by_cases cb : j = b
      · subst cb
        rw [if_pos rfl, if_pos ⟨rfl, rfl⟩]
      · rw [if_neg cb, if_neg (fun z => cb z.2.symm)]
  · have qr : q ≠ r := fun z => by
      subst z
      have h1 := (List.getElem?_eq_some_iff.mp hr).1
      have h2 := (List.getElem?_eq_some_iff.mp ha).1
      have e := (List.getElem?_eq_some_iff.mp hr).2.trans (List.getElem?_eq_some_iff.mp ha).2.symm
      have nd := List.pairwise_iff_getElem.mp m.nd
      rcases Nat.lt_or_ge a i with z | z
      · exact nd a i h2 h1 z e.symm
      · exact nd i a h1 h2 (by omega) e
    rw [upd_ne qr, m.row a q ha]
    congr 2
    exact List.map_congr_left fun b _ => by rw [if_neg (fun z => c z.1)]
theorem ixN_nat {n j : Nat} (h : j < n) : ixN n (j : Int) = some j := by
  unfold ixN
  rw [if_pos (by omega), if_pos (by omega), Int.toNat_natCast]
def rLen (K : PySem.W.Frag) : List V → Hp → VK → Prop := fun xs H Q => ∃ p ys, xs = [.ref p] ∧ (SqL K H p ys ∨ SqT K H p ys) ∧ Q (.int ys.length) H
/-- the tie of two, none of one with itself -/
def tyV (kss : List (List Int)) (i j : Nat) : V := if i = j then .non else .int (tieN kss i j)
/-- the table when all above row m is put down, and r of row m -/
def ent (kss : List (List Int)) (m r i j : Nat) : V := if i ≠ j ∧ (max i j < m ∨ (max i j = m ∧ min i j < r)) then .int (tieN kss i j) else .non
theorem ent_zero (kss : List (List Int)) (i j : Nat) : ent kss 0 0 i j = .non := if_neg (by omega)
theorem ent_row (kss : List (List Int)) (m : Nat) : ent kss m m = ent kss (m + 1) 0 := by
  funext i j
  unfold ent
  by_cases h : i ≠ j ∧ (max i j < m ∨ (max i j = m ∧ min i j < m))
  · rw [if_pos h, if_pos (by omega)]
  · rw [if_neg h, if_neg (by omega)]
theorem ent_all (kss : List (List Int)) (n i j : Nat) (hi : i < n) (hj : j < n) : ent kss n 0 i j = tyV kss i j := by
  unfold ent tyV
  by_cases h : i = j
  · rw [if_neg (by omega), if_pos h]
  · rw [if_pos (by omega), if_neg h]
theorem ent_next (kss : List (List Int)) {m r : Nat} (h : r < m) : (fun a b => if a = m ∧ b = r then V.int (tieN kss m r) else (if a = r ∧ b = m then V.int (tieN kss m r) else ent kss m r a b)) = ent kss m (r + 1) := by
  funext i j
  unfold ent
  by_cases c1 : i = m ∧ j = r
  · obtain ⟨rfl, rfl⟩ := c1
    rw [if_pos ⟨rfl, rfl⟩, if_pos (by omega)]
  · rw [if_neg c1]
    by_cases c2 : i = r ∧ j = m
    · obtain ⟨rfl, rfl⟩ := c2
      rw [if_pos ⟨rfl, rfl⟩, if_pos (by omega), tieN_comm]
    · rw [if_neg c2]
      by_cases c3 : i ≠ j ∧ (max i j < m ∨ (max i j = m ∧ min i j < r))
      · rw [if_pos c3, if_pos (by omega)]
      · rw [if_neg c3, if_neg (by omega)]
theorem rep_non (n : Nat) : (List.replicate n [V.non]).flatten = List.replicate n V.non := by
  induction n with
  | zero => rfl
  | succ n ih =>
    rw [List.replicate_succ, List.replicate_succ, List.flatten_cons, ih]
    rfl
theorem rep_range (n : Nat) (v : V) : List.replicate n v = (List.range n).map fun _ => v := by
  apply List.ext_getElem
  · rw [List.length_replicate, List.length_map, List.length_range]
  · intro i h1 h2
    rw [List.getElem_replicate, List.getElem_map]
section
variable {P : Program} {w : World} {K : PySem.W.Frag} {mg : Str → Option Value} {base : Heap}
abbrev nTies : List Str := ["company", "ties", "_", "other", "row", "one", "kind"]
theorem scTies : FnScope nTies ["company"] (defScope sTies) := ⟨rfl, rfl, rfl, by decide +kernel, rfl, by decide +kernel, by decide +kernel⟩
def spTies : Sp := fun vs H Q _ => ∃ (c : Addr) (rs : List Addr) (kss : List (List Int)) (k : Int), vs = [.ref c] ∧ Tab H c rs kss ∧ Fine k kss ∧ kss.length ≤ 100 ∧
  ∀ (p : Addr) (ps : List Addr) (H' : Hp), Same H H' → Mat H' p ps kss.length (tyV kss) → Q (.ref p) H'
theorem ok_ties {f : Addr} {fd : FuncData} (F : Fun K "ties_of" "ties_of" sTies f fd) (T : Bi mg) : FnOk P w K mg base CX0 1 f fd ["company"] spTies := by
  refine F.ok scTies (fun vs H Q E h => ?_) (fun cdv A outer s H vs Q E hr h => ?_)
  · obtain ⟨c, rs, kss, k, rfl, _⟩ := h
    rfl
  · obtain ⟨c, rs, kss, k, rfl, t, fine, n100, q⟩ := h
    refine ⟨_, pss_cons (ps_setLc (i := 1) (own := [("_", 2)]) (g := gName 2) (tt := tYes) (te := tOp rRep (tLst (tCons (tC .non) tNil)) (tCB (rLen K) (tCons (tVar 0) tNil))) rfl scTies.nd rfl rfl (sw_true rfl rfl rfl (by decide +kernel)) (pi_list (pv 0))
          (blkOk_by (N := nTies) (sc := defScope sTies) (by decide +kernel)) (fun _ _ _ _ _ => pg_name (i := 2) scTies.nd rfl (Or.inl rfl)) (fun _ _ _ _ _ => pts_nil)
          (fun _ _ _ _ _ => by exact (pe_op op_rep (pe_lst (pa_cons pe_non pa_nil)) (pe_callB call_len_seq (by rfl) T.len PySem.boot_len (pa_cons (pv 0) pa_nil)))))
      (pss_cons (ps_for PassesOwn.never rfl (pi_enum (by rfl) T.enumerate (pa_cons (pv 0) pa_nil)) (pg_tup rfl (pgs_cons (pg_name (i := 3) scTies.nd rfl (Or.inl rfl)) (pgs_cons (pg_name (i := 4) scTies.nd rfl (Or.inl rfl)) pgs_nil)))
        (pss_one (ps_for PassesOwn.never rfl (pi_enum (by rfl) T.enumerate (pa_cons (pv 4) pa_nil)) (pg_tup rfl (pgs_cons (pg_name (i := 5) scTies.nd rfl (Or.inl rfl)) (pgs_cons (pg_name (i := 6) scTies.nd rfl (Or.inl rfl)) pgs_nil)))
          (pss_cons (ps_asg (pv 6) (pg_sub (pe_ix ix_list (pv 1) (pv 5) (fun _ _ => rfl)) (pv 3) set_list))
          (pss_one (ps_asg (pv 6) (pg_sub (pe_ix ix_list (pv 1) (pv 3) (fun _ _ => rfl)) (pv 5) set_list)))))))
      (pss_one (ps_ret (pv 1)))), ?_⟩
    obtain ⟨n, hn⟩ : ∃ n, kss.length = n := ⟨_, rfl⟩
    rw [hn] at n100
    have lr : (rs.map V.ref).length = n := by rw [List.length_map, t.len, hn]
    refine ⟨_, rfl, c, rfl, ⟨_, SqL.of t.top⟩, fun D hD => ?_⟩
    refine lc_list (K := K) (a := c) (xs := rs.map V.ref) (fun i H' => Same H H' ∧ ∃ ps : List Addr, H' D = some (.lst (ps.map V.ref)) ∧ ps.length = i ∧ (∀ r ∈ ps, H r = none ∧ H' r = some (.lst (List.replicate n .non))) ∧ ps.Nodup ∧ D ∉ ps)
      ⟨same_new hD, [], upd_same, rfl, by simp, List.nodup_nil, by simp⟩ (fun i H' _ z => SqL.of (z.1 _ _ t.top)) ?_ ?_
    · rintro i y H' hi ⟨s1, ps, h1, l1, a1, nd1, np1⟩
      have il := (List.getElem?_eq_some_iff.mp hi).1
      rw [lr] at il
      refine ⟨rfl, yes_of ?_⟩
      refine ⟨one_le, fun l hl => ?_⟩
      obtain ⟨H2, e2, s2, f2⟩ := gen H' hl (.lst [.non])
      rw [e2]
      clear e2
      have s12 := s1.trans s2
      refine ⟨_, rfl, c, _, rfl, .inl (SqL.of (s12 _ _ t.top)), l, _, _, rfl, rfl, f2, by omega, by omega, ?_, fun p hp => ?_⟩
      · show 1 * ((rs.map V.ref).length : Int).toNat ≤ sizeLine
        rw [lr]
        exact Nat.le_of_lt (small1000 (by omega))
      · have eq : (List.replicate ((rs.map V.ref).length : Int).toNat [V.non]).flatten = List.replicate n V.non := by
          rw [lr, Int.toNat_natCast, rep_non]
        rw [eq]
        obtain ⟨H3, e3, s3, f3⟩ := gen H2 hp (.lst (List.replicate n V.non))
        rw [e3]
        clear e3
        have s23 := s2.trans s3
        have hpD : D ≠ p := ne_of_none (s2 _ _ h1) hp
        have pps : p ∉ ps := fun z => by
          have := s2 _ _ (a1 p z).2
          rw [hp] at this
          cases this
        have hp0 : H p = none := s12.free hp
        refine ⟨ps.map V.ref, s23 _ _ h1, ?_, ?_, ps ++ [p], ?_, by rw [List.length_append, l1]; rfl, ?_, ?_, ?_⟩
        · rw [List.length_map]
          exact small1000 (by omega)
        · intro b o e
          rw [upd_ne (ne_of_none e hD)]
          exact s23 b o (s1 b o e)
        · rw [upd_same, List.map_append]
          rfl
        · intro r hr
          rcases List.mem_append.mp hr with hr | hr
          · have rD : r ≠ D := fun z => np1 (by rw [← z]; exact hr)
            rw [upd_ne rD]
            exact ⟨(a1 r hr).1, s23 _ _ (a1 r hr).2⟩
          · rw [List.mem_singleton] at hr
            subst hr
            rw [upd_ne hpD.symm]
            exact ⟨hp0, f3⟩
        · rw [List.nodup_append]
          refine ⟨nd1, by simp, fun a ha b hb => ?_⟩
          rw [List.mem_singleton] at hb
          subst hb
          exact fun z => pps (by rw [← z]; exact ha)
        · rw [List.mem_append, List.mem_singleton]
          rintro (z | z)
          · exact np1 z
          · exact hpD z
    · rintro H1 ⟨s1, ps, h1, l1, a1, nd1, np1⟩
      rw [lr] at l1
      have M0 : Mat H1 D ps n (ent kss 0 0) := ⟨h1, l1, fun i r hr => by
        rw [(a1 r (List.mem_of_getElem? hr)).2, rep_range, List.map_congr_left fun j _ => (ent_zero kss i j).symm], nd1, np1⟩
      have new : ∀ r ∈ ps, H r = none := fun r hr => (a1 r hr).1
      have keep : ∀ {H' : Hp} {r : Addr} {o : HO}, Same H H' → r ∈ ps → Same H (upd H' r o) := fun s' hr b u e => by
        rw [upd_ne (ne_of_none e (new _ hr))]
        exact s' b u e
      refine ⟨_, rfl, c, _, rfl, SqL.of (s1 _ _ t.top), ?_⟩
      refine for_it (walk_enum (K := K) (a := c) (xs := rs.map V.ref)) (fun m σ H' => ∃ a b d e : Option V, σ = [some (.ref c), some (.ref D), none, a, b, d, e] ∧ Same H H' ∧ Mat H' D ps n (ent kss m 0))
        ⟨none, none, none, none, rfl, s1, M0⟩ (fun m σ H' _ z => by
          obtain ⟨_, _, _, _, _, s', _⟩ := z
          exact SqL.of (s' _ _ t.top)) ?_ ?_
      · rintro m y σ H' H'' hm ⟨a, b, d, e, rfl, s', M⟩ ⟨A2, x1, x2, rfl, nA, rfl, e1, e2⟩
        rw [lr] at hm
        have e1' : x1 = .int (m : Nat) := (Option.some.inj e1).symm
        subst e1'
        obtain ⟨r, ks, c1, c2, c3⟩ := t.at (i := m) (by omega)
        have e2' : x2 = .ref r := by
          have e3 : (rs.map V.ref)[m]? = some x2 := e2
          rw [List.getElem?_map, c1] at e3
          exact (Option.some.inj e3).symm
        subst e2'
        obtain ⟨lk, bk⟩ := fine _ _ c2
        have s2 := s'.trans (same_new (o := .tup [.int (m : Nat), .ref r]) nA)
        have M2 := M.same (same_new (o := .tup [.int (m : Nat), .ref r]) nA)
        refine ⟨A2, [.int (m : Nat), .ref r], rfl, SqT.of upd_same, rfl, _, _, rfl, _, _, rfl, rfl, ?_⟩
        refine ⟨_, rfl, r, _, rfl, SqL.of (s2 _ _ c3), ?_⟩
        have lks : (ks.map V.int).length = m := by rw [List.length_map]; exact lk
        refine for_it (walk_enum (K := K) (a := r) (xs := ks.map V.int)) (fun j σ H' => ∃ d e : Option V, σ = [some (.ref c), some (.ref D), none, some (.int (m : Nat)), some (.ref r), d, e] ∧ Same H H' ∧ Mat H' D ps n (ent kss m j))
          ⟨d, e, rfl, s2, M2⟩ (fun j σ H' _ z => by
            obtain ⟨_, _, _, s', _⟩ := z
            exact SqL.of (s' _ _ c3)) ?_ ?_
        · rintro j y σ H3 H4 hj ⟨d, e, rfl, s3, M3⟩ ⟨A3, z1, z2, rfl, nA3, rfl, g1, g2⟩
          rw [lks] at hj
          have g1' : z1 = .int (j : Nat) := (Option.some.inj g1).symm
          subst g1'
          have jl : j < ks.length := by omega
          have ek : tieN kss m j = ks[j] := by
            have eA : kss.getD (max m j) [] = ks := by rw [List.getD_eq_getElem?_getD, Nat.max_eq_left (by omega), c2]; rfl
            unfold tieN
            rw [eA, Nat.min_eq_right (by omega), List.getD_eq_getElem?_getD, List.getElem?_eq_getElem jl]
            rfl
          have g2' : z2 = .int (tieN kss m j) := by
            have e3 : (ks.map V.int)[j]? = some z2 := g2
            rw [List.getElem?_map, List.getElem?_eq_getElem jl] at e3
            rw [ek]
            exact (Option.some.inj e3).symm
          subst g2'
          have s4 := s3.trans (same_new (o := .tup [.int (j : Nat), .int (tieN kss m j)]) nA3)
          have M4 := M3.same (same_new (o := .tup [.int (j : Nat), .int (tieN kss m j)]) nA3)
          refine ⟨A3, [.int (j : Nat), .int (tieN kss m j)], rfl, SqT.of upd_same, rfl, _, _, rfl, _, _, rfl, rfl, ?_⟩
          generalize upd H3 A3 (.tup [.int (j : Nat), .int (tieN kss m j)]) = H4 at s4 M4
          obtain ⟨rj, j1, j2⟩ := M4.at (i := j) (by omega)
          have M5 := M4.set (v := .int (tieN kss m j)) j1 (by omega : m < n)
          refine ⟨_, rfl, _, rfl, _, rfl, D, _, _, _, rfl, rfl, SqL.of M4.top, at_of (j := j) (v := V.ref rj) rfl (by rw [List.getElem?_map, j1]; rfl), _, rfl, rj, _, _, m, rfl, rfl, j2, ?_, ?_⟩
          · rw [List.length_map, List.length_range]
            exact ixN_nat (by omega)
          · have s5 : Same H _ := keep (o := .lst (((List.range n).map (ent kss m j j)).set m (.int (tieN kss m j)))) s4 (List.mem_of_getElem? j1)
            generalize upd H4 rj (.lst (((List.range n).map (ent kss m j j)).set m (.int (tieN kss m j)))) = H5 at s5 M5
            obtain ⟨rm, m1, m2⟩ := M5.at (i := m) (by omega)
            have M6 := M5.set (v := .int (tieN kss m j)) m1 (by omega : j < n)
            have s6 : Same H _ := keep (o := .lst (((List.range n).map (fun b => if m = j ∧ b = m then V.int (tieN kss m j) else ent kss m j m b)).set j (.int (tieN kss m j)))) s5 (List.mem_of_getElem? m1)
            refine ⟨_, rfl, _, rfl, _, rfl, D, _, _, _, rfl, rfl, SqL.of M5.top, at_of (j := m) (v := V.ref rm) rfl (by rw [List.getElem?_map, m1]; rfl), _, rfl, rm, _, _, j, rfl, rfl, m2, ?_, ?_⟩
            · rw [List.length_map, List.length_range]
              exact ixN_nat (by omega)
            · rw [← ent_next kss hj]
              exact ⟨_, _, rfl, s6, M6⟩
        · rintro σ H3 ⟨d, e, rfl, s3, M3⟩
          rw [lks, ent_row] at M3
          exact ⟨_, _, _, _, rfl, s3, M3⟩
      · rintro σ H' ⟨a, b, d, e, rfl, s', M⟩
        rw [lr] at M
        refine ⟨_, rfl, q D ps H' s' ?_⟩
        rw [hn]
        exact M.congr fun i j hi hj => ent_all kss n i j hi hj
end
end K6

namespace K6
open PySem PySem.Spec PyProof.Rows L2 GL
abbrev sFirst : Stmt := topS 21
abbrev sHouse : Stmt := topS 22
abbrev sParting : Stmt := topS 23
/-! ### houses -/
/-- somebody outside has unlike ties to two of a lot -/
def partsB (kss : List (List Int)) (l : List Nat) (p : Nat) : Bool := decide (p ∉ l) && l.any fun m => decide (tieN kss p m ≠ tieN kss p (l.headD 0))
def partingOf (kss : List (List Int)) (l : List Nat) : Option Nat := (List.range kss.length).find? (partsB kss l)
def optV : Option Nat → V
  | none => .non
  | some p => .int (p : Nat)
theorem inV_nat (l : List Nat) (p : Nat) : inV (.int (p : Nat)) (natV l) = decide (p ∈ l) := by
  unfold inV natV
  induction l with
  | nil => rfl
  | cons a l ih =>
    rw [List.map_cons, List.any_cons, ih]
    show (((a : Nat) : Int) == (p : Int) || decide (p ∈ l)) = decide (p ∈ a :: l)
    by_cases h : a = p
    · subst h
      simp
    · have h' : ¬ p = a := fun z => h z.symm
      have h2 : ¬ (a : Int) = (p : Int) := by omega
      simp [h', h2]
theorem flat_nat (l : List Nat) : (natV l).all flatV = true := by
  unfold natV
  rw [List.all_map]
  exact List.all_eq_true.mpr fun _ _ => rfl
theorem find_none {n : Nat} {f : Nat → Bool} (h : ∀ p, p < n → f p = false) : (List.range n).find? f = none := List.find?_eq_none.mpr fun p hp => by
  rw [h p (List.mem_range.mp hp)]
  decide
theorem find_some {n m : Nat} {f : Nat → Bool} (hm : m < n) (h : ∀ p, p < m → f p = false) (hf : f m = true) : (List.range n).find? f = some m := by
  rw [List.find?_range_eq_some]
  exact ⟨hf, List.mem_range.mpr hm, fun j hj => by rw [h j hj]; rfl⟩
section
variable {P : Program} {w : World} {K : PySem.W.Frag} {mg : Str → Option Value} {base : Heap}
abbrev nFirst : List Str := ["ties", "lot", "person", "row", "member"]
theorem scFirst : FnScope nFirst ["ties", "lot"] (defScope sFirst) := ⟨rfl, rfl, rfl, by decide +kernel, rfl, by decide +kernel, by decide +kernel⟩
def spFirst : Sp := fun vs H Q _ => ∃ (m o : Addr) (ps : List Addr) (kss : List (List Int)) (l : List Nat), vs = [.ref m, .ref o] ∧ Mat H m ps kss.length (tyV kss) ∧ kss.length ≤ 100 ∧ H o = some (.lst (natV l)) ∧ Lot kss.length l ∧
  ∀ H', Same H H' → Q (optV (partingOf kss l)) H'
theorem ok_first {f : Addr} {fd : FuncData} (F : Fun K "first_parting" "first_parting" sFirst f fd) (T : Bi mg) : FnOk P w K mg base CX0 1 f fd ["ties", "lot"] spFirst := by
  refine F.ok scFirst (fun vs H Q E h => ?_) (fun cdv A outer s H vs Q E hr h => ?_)
  · obtain ⟨m, o, ps, kss, l, rfl, _⟩ := h
    rfl
  · obtain ⟨m, o, ps, kss, l, rfl, M, n100, ho, lot, q⟩ := h
    refine ⟨_, pss_cons (ps_for PassesOwn.never rfl (pi_enum (by rfl) T.enumerate (pa_cons (pv 0) pa_nil)) (pg_tup rfl (pgs_cons (pg_name (i := 2) scFirst.nd rfl (Or.inl rfl)) (pgs_cons (pg_name (i := 3) scFirst.nd rfl (Or.inr rfl)) pgs_nil)))
        (pss_one (ps_if (PW.pt (pw_and (pt_cmpR op_notIn_seq (pv 2) (pv 1) (by rfl)) (pw_and1 (pt_val (pe_callB (cr_any rfl) (by rfl) T.any (by decide +kernel) (pa_cons
          (pe_lc (own := [("member", 4)]) (g := gName 4) (tt := tYes) (te := tOp rNe (tOp (rIxL K) (tVar 3) (tVar 4)) (tOp (rIxL K) (tVar 3) (tOp (rIxL K) (tVar 1) (tC (.int 0))))) rfl scFirst.nd (pi_list (pv 1)) (blkOk_by (N := nFirst) (sc := defScope sFirst) (by decide +kernel))
            (fun _ _ _ _ _ => pg_name (i := 4) scFirst.nd rfl (Or.inl rfl)) (fun _ _ _ _ _ => pts_nil)
            (fun _ _ _ _ _ => by exact (pe_cmpR op_ne (pe_ix ix_list (pv 3) (pv 4) (fun _ _ => rfl)) (pe_ix ix_list (pv 3) (pe_ix ix_list (pv 1) pe_int (fun _ _ => rfl)) (fun _ _ => rfl)) (nomark _)))) pa_nil))))))
          (pss_one (ps_ret (pv 2))) pss_nil)))
      (pss_one (ps_ret pe_non)), ?_⟩
    obtain ⟨l1, l2⟩ := lot.len
    have lp : (ps.map V.ref).length = kss.length := by rw [List.length_map, M.len]
    refine ⟨_, rfl, m, _, rfl, SqL.of M.top, ?_⟩
    refine for_it (walk_enum (K := K) (a := m) (xs := ps.map V.ref)) (fun i σ H' => ∃ a b : Option V, σ = [some (.ref m), some (.ref o), a, b, none] ∧ Same H H' ∧ ∀ p, p < i → partsB kss l p = false)
      ⟨none, none, rfl, Same.refl _, fun p hp => absurd hp (Nat.not_lt_zero p)⟩ (fun i σ H' _ z => by
        obtain ⟨_, _, _, s', _⟩ := z
        exact SqL.of (s' _ _ M.top)) ?_ ?_
    · rintro i y σ H1 H2 hi ⟨a, b, rfl, s1, no⟩ ⟨A2, x1, x2, rfl, nA, rfl, e1, e2⟩
      rw [lp] at hi
      have e1' : x1 = .int (i : Nat) := (Option.some.inj e1).symm
      subst e1'
      obtain ⟨r, c1, c2⟩ := M.at hi
      have e2' : x2 = .ref r := by
        have e3 : (ps.map V.ref)[i]? = some x2 := e2
        rw [List.getElem?_map, c1] at e3
        exact (Option.some.inj e3).symm
      subst e2'
      have s2 := s1.trans (same_new (o := .tup [.int (i : Nat), .ref r]) nA)
      refine ⟨A2, [.int (i : Nat), .ref r], rfl, SqT.of upd_same, rfl, _, _, rfl, _, _, rfl, rfl, ?_⟩
      generalize upd H1 A2 (.tup [.int (i : Nat), .ref r]) = H2 at s2
      have next : ∀ H', Same H H' → partsB kss l i = false → ∃ a b : Option V, [some (V.ref m), some (.ref o), some (.int (i : Nat)), some (.ref r), none] = [some (.ref m), some (.ref o), a, b, none] ∧ Same H H' ∧ ∀ p, p < i + 1 → partsB kss l p = false := fun H' s' z =>
        ⟨_, _, rfl, s', fun p hp => by
          by_cases c : p = i
          · subst c
            exact z
          · exact no p (by omega)⟩
      refine ⟨_, rfl, _, rfl, o, _, rfl, .inl (SqL.of (s2 _ _ ho)), rfl, flat_nat l, _, rfl, ?_⟩
      show ite ((!inV (.int (i : Nat)) (natV l)) = true) _ _
      rw [inV_nat]
      by_cases c : i ∈ l
      · rw [decide_eq_true c]
        refine iteF (iteF ?_)
        exact next _ s2 (by unfold partsB; rw [decide_eq_false (fun z => z c)]; rfl)
      · rw [decide_eq_false c]
        refine iteT ⟨_, rfl, o, rfl, ⟨_, SqL.of (s2 _ _ ho)⟩, fun D hD => ?_⟩
        have hd0 : ∃ z, l[0]? = some z ∧ l.headD 0 = z ∧ z < kss.length ∧ i ≠ z := by
          cases l with
          | nil => simp at l1
          | cons z l => exact ⟨z, rfl, rfl, lot.low z (List.mem_cons_self ..), fun e => c (by rw [e]; exact List.mem_cons_self ..)⟩
        obtain ⟨z, z1, z2, z3, z4⟩ := hd0
        have tz : ∀ x, x < kss.length → i ≠ x → atI ((List.range kss.length).map (tyV kss i)) ((x : Nat) : Int) = some (.int (tieN kss i x)) := fun x hx ne => by
          refine atI_nat ?_
          rw [List.getElem?_map, List.getElem?_range hx]
          show some (tyV kss i x) = _
          unfold tyV
          rw [if_neg ne]
        refine lc_list (K := K) (a := o) (xs := natV l) (fun j H' => Same H2 H' ∧ H' D = some (.lst (((l.take j).map fun m => decide (tieN kss i m ≠ tieN kss i (l.headD 0))).map V.bl))) ⟨same_new hD, upd_same⟩ (fun j H' _ z => SqL.of (z.1 _ _ (s2 _ _ ho))) ?_ ?_
        · rintro j y H' hj ⟨s3, h3⟩
          unfold natV at hj
          rw [List.getElem?_map] at hj
          cases e : l[j]? with
          | none =>
            rw [e] at hj
            cases hj
          | some x =>
            rw [e] at hj
            cases hj
            have jl := (List.getElem?_eq_some_iff.mp e).1
            have xl := lot.low x (List.mem_of_getElem? e)
            have xi : i ≠ x := fun z => c (by rw [z]; exact List.mem_of_getElem? e)
            have s23 := s2.trans s3
            have hr2 := s3 _ _ (s2 _ _ c2)
            have ho2 := s3 _ _ (s2 _ _ ho)
            refine ⟨rfl, yes_of ?_⟩
            refine ⟨_, rfl, _, rfl, r, _, _, _, rfl, rfl, SqL.of hr2, tz x xl xi, _, rfl, _, rfl, o, _, _, _, rfl, rfl, SqL.of ho2, at_of (j := 0) (v := .int (z : Nat)) rfl (by unfold natV; rw [List.getElem?_map, z1]; rfl), r, _, _, _, rfl, rfl, SqL.of hr2, tz z z3 z4, rfl, _, h3, ?_, ?_, ?_⟩
            · rw [List.length_map, List.length_map, List.length_take]
              exact small1000 (by omega)
            · intro b o' e'
              rw [upd_ne (ne_of_none e' hD)]
              exact s3 b o' e'
            · have eb : (!decide (V.int (tieN kss i x) = V.int (tieN kss i z))) = decide (tieN kss i x ≠ tieN kss i (l.headD 0)) := by
                rw [z2]
                by_cases q : tieN kss i x = tieN kss i z
                · simp [q]
                · simp [q]
              rw [upd_same, take_more (fun m => decide (tieN kss i m ≠ tieN kss i (l.headD 0))) e, List.map_append, eb]
              rfl
        · rintro H' ⟨s3, h3⟩
          have lx : (natV l).length = l.length := List.length_map _
          rw [lx, List.take_length] at h3
          refine ⟨D, _, rfl, SqL.of h3, _, rfl, ?_⟩
          have ev : ((l.map fun m => decide (tieN kss i m ≠ tieN kss i (l.headD 0))).any id) = partsB kss l i := by
            unfold partsB
            rw [decide_eq_true c, List.any_map]
            rfl
          rw [ev]
          have s23 := s2.trans s3
          cases pb : partsB kss l i with
          | true =>
            refine iteT ⟨_, rfl, ?_⟩
            have e5 : partingOf kss l = some i := find_some hi no pb
            rw [e5] at q
            exact q H' s23
          | false =>
            refine iteF ?_
            exact next _ s23 pb
    · rintro σ H1 ⟨a, b, rfl, s1, no⟩
      have e5 : partingOf kss l = none := find_none fun p hp => no p (by rw [lp]; exact hp)
      rw [e5] at q
      exact q H1 s1
end
end K6

namespace K6
open PySem PySem.Spec PyProof.Rows L2 GL
theorem dts_ints {K : PySem.W.Frag} {H : Hp} : ∀ ks : List Int, Dts K H (ks.map V.int) (ks.map PyData.int)
  | [] => .nil
  | k :: ks => .cons (.int k) (dts_ints ks)
theorem dts_rows {K : PySem.W.Frag} {H : Hp} : ∀ {rs : List Addr} {kss : List (List Int)}, rs.length = kss.length → (∀ (i : Nat) r ks, rs[i]? = some r → kss[i]? = some ks → H r = some (.lst (ks.map V.int))) → Dts K H (rs.map V.ref) (kss.map rowP)
  | [], [], _, _ => .nil
  | [], _ :: _, l, _ => by simp at l
  | _ :: _, [], l, _ => by simp at l
  | r :: rs, ks :: kss, l, h => .cons (.lst (h 0 r ks rfl rfl) (dts_ints ks)) (dts_rows (Nat.succ.inj l) fun i r' ks' a b => h (i + 1) r' ks' a b)
theorem Tab.dt {K : PySem.W.Frag} {H : Hp} {c : Addr} {rs : List Addr} {kss : List (List Int)} (t : Tab H c rs kss) : Dt K H (.ref c) (tabP kss) := .lst t.top (dts_rows t.len t.row)
theorem rows_get {k : Int} {ds : List PyData} (n : Nat) : rowsOk k n ds = true ↔ ∀ (j : Nat) (d : PyData), ds[j]? = some d → rowOk k ((n + j : Nat) : Int) d = true := by
  induction ds generalizing n with
  | nil => exact ⟨fun _ j d h => by simp at h, fun _ => rfl⟩
  | cons a ds ih =>
    show (rowOk k n a && rowsOk k (n + 1) ds) = true ↔ _
    rw [Bool.and_eq_true, ih]
    constructor
    · rintro ⟨h1, h2⟩ j d h
      cases j with
      | zero =>
        cases h
        exact h1
      | succ j =>
        have := h2 j d h
        rwa [show n + 1 + j = n + (j + 1) by omega] at this
    · intro h
      refine ⟨h 0 a rfl, fun j d hd => ?_⟩
      have := h (j + 1) d hd
      rwa [show n + (j + 1) = n + 1 + j by omega] at this
theorem Fine.comp {k : Int} {kss : List (List Int)} (f : Fine k kss) (h1 : 1 ≤ kss.length) (h2 : kss.length ≤ 40) : compOk k (tabP kss) = true := by
  unfold tabP
  show ((decide (1 ≤ (kss.map rowP).length) && decide ((kss.map rowP).length ≤ 40)) && rowsOk k 0 (kss.map rowP)) = true
  rw [List.length_map, decide_eq_true h1, decide_eq_true h2, (rows_get 0).mpr]
  · rfl
  · intro j d hd
    rw [List.getElem?_map] at hd
    cases e : kss[j]? with
    | none =>
      rw [e] at hd
      cases hd
    | some ks =>
      rw [e] at hd
      cases hd
      obtain ⟨a, b⟩ := f j ks e
      show (decide (((ks.map PyData.int).length : Int) = ((0 + j : Nat) : Int)) && (ks.map PyData.int).all (below k)) = true
      rw [List.length_map, decide_eq_true (by omega), List.all_map]
      refine List.all_eq_true.mpr fun z hz => ?_
      obtain ⟨z0, z1⟩ := b z hz
      show (decide (0 ≤ z) && decide (z < k)) = true
      rw [decide_eq_true z0, decide_eq_true z1]
      rfl
def houseB (kss : List (List Int)) (l : List Nat) : Bool := (partingOf kss l).isNone
theorem opt_non (x : Option Nat) : decide (optV x = V.non) = x.isNone := by
  cases x with
  | none => rfl
  | some p => rfl
/-- value by name: lot, company, kinds -/
def gK : List Value → List Value → List Value
  | [], [l, c, k] => [k, c, l]
  | _, _ => []
def gKV : List V → List V → List V
  | [], [l, c, k] => [k, c, l]
  | _, _ => []
theorem gK_rel {vs : List V} {us : List Value} {zs : List V} {ws : List Value} (a : Vals vs us) (b : Vals zs ws) : Vals (gKV vs zs) (gK us ws) := by
  cases a with
  | cons _ _ => exact .nil
  | nil =>
    cases b with
    | nil => exact .nil
    | cons r1 b =>
      cases b with
      | nil => exact .nil
      | cons r2 b =>
        cases b with
        | nil => exact .nil
        | cons r3 b =>
          cases b with
          | nil => exact .cons r3 (.cons r2 (.cons r1 .nil))
          | cons _ _ => exact .nil
section
variable {P : Program} {w : World} {K : PySem.W.Frag} {mg : Str → Option Value} {base : Heap}
theorem scHouse : FnScope ["kinds", "company", "lot"] ["kinds", "company", "lot"] (defScope sHouse) := ⟨rfl, rfl, rfl, by decide +kernel, rfl, by decide +kernel, by decide +kernel⟩
theorem scParting : FnScope ["kinds", "company", "lot"] ["kinds", "company", "lot"] (defScope sParting) := ⟨rfl, rfl, rfl, by decide +kernel, rfl, by decide +kernel, by decide +kernel⟩
/-- what a function of a company and a lot is handed -/
structure Asked (H : Hp) (vs : List V) (kss : List (List Int)) (l : List Nat) : Prop where
  ex : ∃ (k : Int) (c o : Addr) (rs : List Addr), vs = [.int k, .ref c, .ref o] ∧ 2 ≤ k ∧ k ≤ 9 ∧ Tab H c rs kss ∧ Fine k kss ∧ H o = some (.lst (natV l))
  one : 1 ≤ kss.length
  most : kss.length ≤ 40
  lot : Lot kss.length l
def spHouse : Sp := fun vs H Q _ => ∃ (kss : List (List Int)) (l : List Nat), Asked H vs kss l ∧ ∀ H', Same H H' → Q (.bl (houseB kss l)) H'
def spPart : Sp := fun vs H Q _ => ∃ (kss : List (List Int)) (l : List Nat), Asked H vs kss l ∧ ∀ H', Same H H' → Q (optV (partingOf kss l)) H'
theorem ok_house {f : Addr} {fd : FuncData} (F : Fun K "is_house" "is_house" sHouse f fd) (UC : Use P w K mg base "check_company" ["kinds", "company"] (spCheckC K) 5) (UL : Use P w K mg base "check_lot" ["company", "lot"] spCheckL 4)
    (UT : Use P w K mg base "ties_of" ["company"] spTies 1) (UF : Use P w K mg base "first_parting" ["ties", "lot"] spFirst 1) : FnOk P w K mg base CX0 6 f fd ["kinds", "company", "lot"] spHouse := by
  refine F.ok scHouse (fun vs H Q E h => ?_) (fun cdv A outer s H vs Q E hr h => ?_)
  · obtain ⟨kss, l, a, _⟩ := h
    obtain ⟨k, c, o, rs, rfl, _⟩ := a.ex
    rfl
  · obtain ⟨kss, l, a, q⟩ := h
    obtain ⟨k, c, o, rs, rfl, k2, k9, t, fine, ho⟩ := a.ex
    have hr1 : Room 1 (A.deeper (envOfC "is_house" (defScope sHouse) s.heap.objs.size f cdv)) := hr.mono (by decide)
    have hr4 : Room 4 (A.deeper (envOfC "is_house" (defScope sHouse) s.heap.objs.size f cdv)) := hr.mono (by decide)
    refine ⟨_, pss_cons (ps_expr (pe_use UC hr (by rfl) (pa_cons (pv 0) (pa_cons (pv 1) pa_nil)))) (pss_cons (ps_expr (pe_use UL hr4 (by rfl) (pa_cons (pv 1) (pa_cons (pv 2) pa_nil))))
      (pss_one (ps_ret (pe_cmpR op_isN (pe_use UF hr1 (by rfl) (pa_cons (pe_use UT hr1 (by rfl) (pa_cons (pv 1) pa_nil)) (pa_cons (pv 2) pa_nil))) pe_non (nomark _))))), ?_⟩
    refine ⟨_, rfl, _, rfl, k, .ref c, tabP kss, rfl, k2, k9, t.dt, fine.comp a.one a.most, fun H1 s1 => ?_⟩
    have l100 : kss.length ≤ 100 := by have := a.most; omega
    refine ⟨_, rfl, _, rfl, c, o, rs.map V.ref, l, rfl, s1 _ _ t.top, by rw [List.length_map, t.len]; exact l100, s1 _ _ ho, by rw [List.length_map, t.len]; exact a.lot, fun H2 s2 => ?_⟩
    refine ⟨_, rfl, c, rs, kss, k, rfl, (t.same s1).same s2, fine, l100, fun p ps H3 s3 M => ?_⟩
    refine ⟨_, rfl, p, o, ps, kss, l, rfl, M, l100, s3 _ _ (s2 _ _ (s1 _ _ ho)), a.lot, fun H4 s4 => ?_⟩
    refine ⟨rfl, ?_⟩
    rw [opt_non]
    exact q _ (s1.trans (s2.trans (s3.trans s4)))
theorem ok_parting {f : Addr} {fd : FuncData} (F : Fun K "parting_person" "parting_person" sParting f fd) (UC : Use P w K mg base "check_company" ["kinds", "company"] (spCheckC K) 5) (UL : Use P w K mg base "check_lot" ["company", "lot"] spCheckL 4)
    (UT : Use P w K mg base "ties_of" ["company"] spTies 1) (UF : Use P w K mg base "first_parting" ["ties", "lot"] spFirst 1) : FnOk P w K mg base CX0 6 f fd ["kinds", "company", "lot"] spPart := by
  refine F.ok scParting (fun vs H Q E h => ?_) (fun cdv A outer s H vs Q E hr h => ?_)
  · obtain ⟨kss, l, a, _⟩ := h
    obtain ⟨k, c, o, rs, rfl, _⟩ := a.ex
    rfl
  · obtain ⟨kss, l, a, q⟩ := h
    obtain ⟨k, c, o, rs, rfl, k2, k9, t, fine, ho⟩ := a.ex
    have hr1 : Room 1 (A.deeper (envOfC "parting_person" (defScope sParting) s.heap.objs.size f cdv)) := hr.mono (by decide)
    have hr4 : Room 4 (A.deeper (envOfC "parting_person" (defScope sParting) s.heap.objs.size f cdv)) := hr.mono (by decide)
    refine ⟨_, pss_cons (ps_expr (pe_use UC hr (by rfl) (pa_cons (pv 0) (pa_cons (pv 1) pa_nil)))) (pss_cons (ps_expr (pe_use UL hr4 (by rfl) (pa_cons (pv 1) (pa_cons (pv 2) pa_nil))))
      (pss_one (ps_ret (pe_use UF hr1 (by rfl) (pa_cons (pe_use UT hr1 (by rfl) (pa_cons (pv 1) pa_nil)) (pa_cons (pv 2) pa_nil)))))), ?_⟩
    refine ⟨_, rfl, _, rfl, k, .ref c, tabP kss, rfl, k2, k9, t.dt, fine.comp a.one a.most, fun H1 s1 => ?_⟩
    have l100 : kss.length ≤ 100 := by have := a.most; omega
    refine ⟨_, rfl, _, rfl, c, o, rs.map V.ref, l, rfl, s1 _ _ t.top, by rw [List.length_map, t.len]; exact l100, s1 _ _ ho, by rw [List.length_map, t.len]; exact a.lot, fun H2 s2 => ?_⟩
    refine ⟨_, rfl, c, rs, kss, k, rfl, (t.same s1).same s2, fine, l100, fun p ps H3 s3 M => ?_⟩
    exact ⟨_, rfl, p, o, ps, kss, l, rfl, M, l100, s3 _ _ (s2 _ _ (s1 _ _ ho)), a.lot, fun H4 s4 => q _ (s1.trans (s2.trans (s3.trans s4)))⟩
end
end K6

namespace K6
open PySem PySem.Spec PyProof.Rows L2 GL
abbrev sRenamed : Stmt := topS 32
/-- a company all of whose lists are new since H0 -/
structure CoN (H0 H : Hp) (k : Int) (c : Addr) (n : Nat) : Prop where
  ex : ∃ rs kss, Tab H c rs kss ∧ kss.length = n ∧ Fine k kss ∧ c ∉ rs ∧ H0 c = none ∧ ∀ r ∈ rs, H0 r = none
theorem CoN.back {H0 H1 H : Hp} {k : Int} {c : Addr} {n : Nat} (h : CoN H1 H k c n) (f : ∀ a, H1 a = none → H0 a = none) : CoN H0 H k c n := by
  obtain ⟨rs, kss, t, l, fi, nc, n1, n2⟩ := h.ex
  exact ⟨rs, kss, t, l, fi, nc, f _ n1, fun r hr => f _ (n2 r hr)⟩
section
variable {P : Program} {w : World} {K : PySem.W.Frag} {mg : Str → Option Value} {base : Heap}
abbrev nRenamed : List Str := ["_law_generator_here", "_law_company_here", "_law_left", "_law_order", "_law_turn", "_law_place", "_law_person", "_law_mate"]
theorem scRenamed : FnScope nRenamed ["_law_generator_here", "_law_company_here"] (defScope sRenamed) := ⟨rfl, rfl, rfl, by decide +kernel, rfl, by decide +kernel, by decide +kernel⟩
def spRenamed : Sp := fun vs H Q _ => ∃ (g c : Addr) (rs : List Addr) (kss : List (List Int)) (k : Int) (n : Nat), vs = [.ref g, .ref c] ∧ Tab H c rs kss ∧ Fine k kss ∧ kss.length ≤ 60 ∧ c ≠ g ∧ g ∉ rs ∧ Gen H g (n + 5 * kss.length) ∧
  ∀ (p : Addr) (H' : Hp), But g H H' → Gen H' g n → CoN H H' k p kss.length → Q (.ref p) H'
theorem ok_renamed {f : Addr} {fd : FuncData} (F : Fun K "_law_renamed" "_law_renamed" sRenamed f fd) (T : Bi mg) (U : Use P w K mg base "_law_random" ["_law_generator_here", "_law_bound"] spRandom 2)
    (UT : Use P w K mg base "_law_tie" ["_law_company_here", "_law_one", "_law_other"] spTie 1) : FnOk P w K mg base CX0 3 f fd ["_law_generator_here", "_law_company_here"] spRenamed := by
  refine F.ok scRenamed (fun vs H Q E h => ?_) (fun cdv A outer s H vs Q E hr h => ?_)
  · obtain ⟨g, c, rs, kss, k, n, rfl, _⟩ := h
    rfl
  · obtain ⟨g, c, rs, kss, k, n, rfl, t, fine, m60, cg, gr, G, q⟩ := h
    have hr1 : Room 1 (A.deeper (envOfC "_law_renamed" (defScope sRenamed) s.heap.objs.size f cdv)) := hr.mono (by decide)
    refine ⟨_, pss_cons (ps_asg (pe_tup (pa_cons (pe_listRg rfl (by rfl) T.list (prg_1 (by rfl) T.range (pe_callB call_len_seq (by rfl) T.len PySem.boot_len (pa_cons (pv 1) pa_nil)))) (pa_cons (pe_lst pa_nil) pa_nil)))
          (pg_tup rfl (pgs_cons (pg_name (i := 2) scRenamed.nd rfl (Or.inl rfl)) (pgs_cons (pg_name (i := 3) scRenamed.nd rfl (Or.inr rfl)) pgs_nil))))
      (pss_cons (ps_for PassesOwn.never rfl (pi_range1 (by rfl) T.range (pa_cons (pe_callB call_len_seq (by rfl) T.len PySem.boot_len (pa_cons (pv 1) pa_nil)) pa_nil)) (pg_name (i := 4) scRenamed.nd rfl (Or.inl rfl))
        (pss_one (ps_expr (pe_bm PySem.F.plainAttrs_list PySem.F.slot_list_append PySem.F.type_list_append mt_append (pv 3) (pa_cons (pe_bm PySem.F.plainAttrs_list PySem.F.slot_list_pop PySem.F.type_list_pop mt_popAt (pv 2)
          (pa_cons (pe_use U hr (by rfl) (pa_cons (pv 0) (pa_cons (pe_callB call_len_seq (by rfl) T.len PySem.boot_len (pa_cons (pv 2) pa_nil)) pa_nil))) pa_nil)) pa_nil)))))
      (pss_one (ps_ret (pe_lc (own := [("_law_place", 5), ("_law_person", 6)]) (g := gTup K 2 (gCons (gName 5) (gCons (gName 6) gNil))) (tt := tYes)
          (te := tLc (iList K (tSl (rSlL K) (tVar 3) tNoPart (tPart (tVar 5)))) (gName 7) tYes (tCall spTie [] E0 (tCons (tVar 1) (tCons (tVar 6) (tCons (tVar 7) tNil)))) [7]) rfl scRenamed.nd (pi_enum (by rfl) T.enumerate (pa_cons (pv 3) pa_nil))
        (blkOk_by (N := nRenamed) (sc := defScope sRenamed) (by decide +kernel)) (fun _ _ _ _ _ => pg_tup rfl (pgs_cons (pg_name (i := 5) scRenamed.nd rfl (Or.inl rfl)) (pgs_cons (pg_name (i := 6) scRenamed.nd rfl (Or.inr rfl)) pgs_nil)))
        (fun _ _ _ _ _ => pts_nil)
        (fun _ _ _ _ _ => by exact (pe_lc (own := [("_law_mate", 7)]) (g := gName 7) (tt := tYes) rfl scRenamed.nd (pi_list (pe_slice sl_list (pv 3) po_none (po_some (pv 5))))
          (blkOk_by (N := nRenamed) (sc := relS (compScope (exprOf (stmtIn (defBody sRenamed) 2))) (defScope sRenamed)) (by decide +kernel)) (fun _ _ _ _ _ => pg_name (i := 7) scRenamed.nd rfl (Or.inl rfl))
          (fun _ _ _ _ _ => pts_nil) (fun _ _ _ _ _ => pe_use UT hr1 (by rfl) (pa_cons (pv 1) (pa_cons (pv 6) (pa_cons (pv 7) pa_nil)))))))))), ?_⟩
    obtain ⟨m, hm⟩ : ∃ m, kss.length = m := ⟨_, rfl⟩
    rw [hm] at q m60 G
    have lr : (rs.map V.ref).length = m := by rw [List.length_map, t.len, hm]
    refine ⟨_, rfl, c, _, rfl, .inl (SqL.of t.top), _, rfl, ?_, fun l hl => ⟨Nat.zero_le _, fun d hd => ⟨(by show 2 ≤ sizeLine; decide), fun tp htp => ?_⟩⟩⟩
    · rw [lr]
      exact RgOk.of_le (by omega) (by omega) (by omega) (by omega)
    have ld : l ≠ d := fun z => by
      rw [← z, upd_same] at hd
      cases hd
    have hd0 : H d = none := (same_new hl).free hd
    have htp0 : H tp = none := (same_new hl).free ((same_new hd).free htp)
    have gl : g ≠ l := G.ne hl
    have gd : g ≠ d := G.ne hd0
    have tl : tp ≠ l := fun z => by
      subst z
      rw [upd_ne ld, upd_same] at htp
      cases htp
    have td : tp ≠ d := fun z => by
      subst z
      rw [upd_same] at htp
      cases htp
    refine ⟨tp, _, rfl, SqT.of upd_same, rfl, _, _, rfl, _, _, rfl, rfl, ?_⟩
    obtain ⟨H1, e1, b1, h1l, h1d, G1⟩ : ∃ H1, upd (upd (upd H l (.lst (rgV 0 ((rs.map V.ref).length : Int)))) d (.lst [])) tp (.tup [.ref l, .ref d]) = H1 ∧ But g H H1 ∧ H1 l = some (.lst (natV (List.range m))) ∧ H1 d = some (.lst (natV [])) ∧ Gen H1 g (n + 5 * m) :=
      ⟨_, rfl, ((But.new hl).trans (But.new hd)).trans (But.new htp), by rw [upd_ne tl.symm, upd_ne ld, upd_same, lr, rg_nat], by rw [upd_ne td.symm, upd_same]; rfl, ((G.new hl).new hd).new htp⟩
    rw [e1]
    clear e1
    refine ⟨_, rfl, c, _, rfl, .inl (SqL.of (b1 _ _ t.top cg)), _, rfl, by omega, by omega, ?_⟩
    rw [lr]
    refine for_range (lo := 0) (n := (m : Int).toNat) (fun i σ H' => ∃ (L Fd : List Nat) (tv : Option V), σ = [some (.ref g), some (.ref c), some (.ref l), some (.ref d), tv, none, none, none] ∧ But g H H' ∧ H' l = some (.lst (natV L)) ∧ H' d = some (.lst (natV Fd)) ∧
        (Fd ++ L).Perm (List.range m) ∧ Fd.length = i ∧ Gen H' g (n + 5 * (m - i)))
      ⟨List.range m, [], none, rfl, b1, h1l, h1d, .refl _, rfl, G1⟩ ?_ ?_
    · rintro i σ H' hi ⟨L, Fd, tv, rfl, bt, h1, h2, pm, lf, G'⟩
      have cnt : (Fd ++ L).length = m := by rw [pm.length_eq, List.length_range]
      rw [List.length_append] at cnt
      have him : i < m := by omega
      have lL : (natV L).length = L.length := List.length_map _
      have G2 : Gen H' g (n + 5 * (m - (i + 1)) + 5) := by
        rw [show n + 5 * (m - (i + 1)) + 5 = n + 5 * (m - i) by omega]
        exact G'
      refine ⟨_, rfl, .inl ⟨rfl, _, SqL.of h2⟩, _, rfl, .inl ⟨rfl, _, SqL.of h1⟩, _, rfl, _, rfl, l, natV L, rfl, .inl (SqL.of h1), g, (natV L).length, n + 5 * (m - (i + 1)), rfl, by omega, by omega, G2, ?_⟩
      intro r H2 r0 r1 G3 bt2
      have h1' := bt2 l _ h1 gl.symm
      have h2' := bt2 d _ h2 gd.symm
      have rk : r.toNat < L.length := by omega
      refine ⟨l, natV L, r, r.toNat, V.int (L[r.toNat] : Nat), rfl, rfl, h1', by omega, by omega, seq_in r0 r1, ?_, ?_⟩
      · unfold natV
        rw [List.getElem?_map, List.getElem?_eq_getElem rk]
        rfl
      · refine ⟨d, natV Fd, _, rfl, rfl, by rw [upd_ne ld.symm]; exact h2', ?_, ?_⟩
        · unfold natV
          rw [List.length_map]
          exact small1000 (by omega)
        · refine ⟨L.eraseIdx r.toNat, Fd ++ [L[r.toNat]], _, rfl, ?_, ?_, ?_, ?_, ?_, ?_⟩
          · intro b o e nb
            have e' := bt2 b o (bt b o e nb) nb
            rw [upd_ne (ne_of_none e hd0), upd_ne (ne_of_none e hl)]
            exact e'
          · rw [upd_ne ld, upd_same, erase_map]
          · rw [upd_same]
            unfold natV
            rw [List.map_append]
            rfl
          · refine List.Perm.trans ?_ pm
            rw [List.append_assoc]
            exact List.Perm.append_left _ (perm_erase (List.getElem?_eq_getElem rk))
          · rw [List.length_append, lf]
            rfl
          · exact (G3.other gl.symm).other gd.symm
    · rintro σ H' ⟨L, os, tv, rfl, bt, h1, h2, pm, lf, G'⟩
      have cnt : (os ++ L).length = m := by rw [pm.length_eq, List.length_range]
      rw [List.length_append] at cnt
      have lf' : os.length = m := by omega
      have L0 : L = [] := List.length_eq_zero_iff.mp (by omega)
      subst L0
      rw [List.append_nil] at pm
      have nd : os.Nodup := pm.nodup_iff.mpr List.nodup_range
      have bd : ∀ j ∈ os, j < m := fun j hj => List.mem_range.mp (pm.mem_iff.mp hj)
      have t' : Tab H' c rs kss := t.but bt cg gr
      have G0 : Gen H' g n := G'.less (by omega)
      refine ⟨_, rfl, d, natV os, rfl, SqL.of h2, fun D hD => ?_⟩
      have lo : (natV os).length = os.length := List.length_map _
      refine lc_it (walk_enum (K := K) (a := d) (xs := natV os)) (fun i H5 => Same H' H5 ∧ ∃ rs kss, Tab H5 D rs kss ∧ kss.length = i ∧ Fine k kss ∧ D ∉ rs ∧ ∀ r ∈ rs, H' r = none) ⟨same_new hD, [], [], ⟨upd_same, rfl, fun i r ks h => by simp at h, List.nodup_nil⟩, rfl, Fine.nil, by simp, by simp⟩ (fun i H5 _ z => (z.1).seq (SqL.of h2)) ?_ ?_
      · rintro i y H5 H6 hi ⟨s1, rs', kss', u, lk, fine', nD, nR⟩ ⟨A2, x1, x2, rfl, nA, rfl, e1, e2⟩
        have e1' : x1 = .int (i : Nat) := (Option.some.inj e1).symm
        subst e1'
        rw [lo] at hi
        have e2' : x2 = .int (os[i] : Nat) := by
          have e3 : (natV os)[i]? = some x2 := e2
          unfold natV at e3
          rw [List.getElem?_map, List.getElem?_eq_getElem hi] at e3
          exact (Option.some.inj e3).symm
        subst e2'
        have s2 := s1.trans (same_new (o := .tup [.int (i : Nat), .int (os[i] : Nat)]) nA)
        refine ⟨A2, [.int (i : Nat), .int (os[i] : Nat)], rfl, SqT.of upd_same, rfl, _, _, rfl, _, _, rfl, rfl, rfl, yes_of ?_⟩
        refine ⟨_, rfl, _, rfl, _, rfl, d, _, rfl, SqL.of (s2 _ _ h2), fun C hC => ?_⟩
        rw [cut_to (by rw [lo]; omega)]
        have s3 := s2.trans (same_new (o := .lst ((natV os).take i)) hC)
        refine ⟨_, rfl, ⟨_, SqL.of upd_same⟩, fun D2 hD2 => ?_⟩
        refine lc_list (K := K) (a := C) (xs := (natV os).take i) (fun j H7 => Same (upd (upd H5 A2 (.tup [.int (i : Nat), .int (os[i] : Nat)])) C (.lst ((natV os).take i))) H7 ∧ ∃ ks : List Int, H7 D2 = some (.lst (ks.map V.int)) ∧ ks.length = j ∧ ∀ z ∈ ks, 0 ≤ z ∧ z < k)
          ⟨same_new hD2, [], upd_same, rfl, by simp⟩ (fun j H7 _ z => (z.1).seq (SqL.of upd_same)) ?_ ?_
        · rintro j y H7 hj ⟨s5, ks, h5, l5, b5⟩
          have hji : j < i := by
            have := (List.getElem?_eq_some_iff.mp hj).1
            rw [List.length_take] at this
            omega
          have ey : y = .int (os[j] : Nat) := by
            rw [List.getElem?_take_of_lt hji] at hj
            unfold natV at hj
            rw [List.getElem?_map, List.getElem?_eq_getElem (by omega)] at hj
            exact (Option.some.inj hj).symm
          subst ey
          have b1 : os[i] < m := bd _ (List.getElem_mem _)
          have b2 : os[j] < m := bd _ (List.getElem_mem _)
          have ne : os[i] ≠ os[j] := fun z => by
            have := (List.getElem_inj nd).mp z
            omega
          obtain ⟨z0, z1⟩ := tieN_in fine (by omega : os[i] < kss.length) (by omega : os[j] < kss.length) ne
          refine ⟨rfl, yes_of ?_⟩
          refine ⟨_, rfl, _, rfl, _, rfl, c, rs, kss, k, os[i], os[j], rfl, t'.same (s3.trans s5), fine, by omega, by omega, ne, _, h5, ?_, fun b o' zz => ?_, ks ++ [tieN kss os[i] os[j]], ?_, ?_, ?_⟩
          · rw [List.length_map]
            exact small1000 (by omega)
          · have nb : b ≠ D2 := ne_of_none zz hD2
            rw [upd_ne nb]
            exact s5 b o' zz
          · rw [upd_same, List.map_append]
            rfl
          · rw [List.length_append, l5]
            rfl
          · intro z' hz
            rcases List.mem_append.mp hz with hz | hz
            · exact b5 z' hz
            · rw [List.mem_singleton] at hz
              subst hz
              exact ⟨z0, z1⟩
        · rintro H7 ⟨s5, ks, h5, l5, b5⟩
          have l6 : ks.length = i := by
            rw [l5, List.length_take, lo]
            omega
          have nA' : ∀ b o', H5 b = some o' → H7 b = some o' := fun b o' e => s5 b o' ((same_new hC) b o' ((same_new nA) b o' e))
          have hp : H5 D2 = none := (same_new nA).free ((same_new hC).free hD2)
          refine ⟨rs'.map V.ref, nA' _ _ u.top, ?_, fun b o' e => ?_, ?_⟩
          · rw [List.length_map, u.len]
            exact small1000 (by omega)
          · rw [upd_ne (ne_of_none e hD)]
            exact nA' b o' (s1 b o' e)
          · obtain ⟨t2, n2⟩ := u.push nD (fun r _ o' e => nA' r o' e) hp h5
            exact ⟨_, _, t2, by rw [List.length_append, lk]; rfl, fine'.push (by omega) b5, n2, fun r hr => by
              rcases List.mem_append.mp hr with hr | hr
              · exact nR r hr
              · rw [List.mem_singleton] at hr
                subst hr
                exact s1.free hp⟩
      · rintro H5 ⟨s1, rs', kss', u, lk, fine', nD, nR⟩
        refine q D H5 (bt.trans (.of s1)) (G0.same s1) ?_
        rw [lo] at lk
        have c5 : CoN H' H5 k D kss.length := ⟨rs', kss', u, by rw [lk, lf', hm], fine', nD, hD, nR⟩
        rw [hm] at c5
        exact c5.back fun a ha => but_free bt G' ha
end
end K6

namespace K6
open PySem PySem.Spec PyProof.Rows L2 GL
abbrev sCompany : Stmt := topS 31
/-- between the turns of the loop that grows a company -/
def CI (H : Hp) (g f : Addr) (k : Int) (m n i : Nat) (σ : L2.St) (H' : Hp) : Prop := ∃ (tv sv wv rv lv : Option V), σ = [some (.ref g), some (.int k), some (.int m), some (.ref f), tv, sv, wv, rv, none, lv] ∧ But g H H' ∧ Gen H' g (n + 19000 - 300 * i) ∧
  ∃ rs kss, Tab H' f rs kss ∧ kss.length = i + 1 ∧ Fine k kss ∧ f ∉ rs ∧ H f = none ∧ ∀ r ∈ rs, H r = none
theorem CI.next {H H' H3 : Hp} {g f p : Addr} {k : Int} {m n i nn n' : Nat} {rs : List Addr} {kss : List (List Int)} {ks : List Int} {tv sv wv rv lv : Option V} (G0 : Gen H g nn) (bt : But g H H') (G' : Gen H' g n') (t : Tab H' f rs kss) (lk : kss.length = i + 1) (fine : Fine k kss) (nf : f ∉ rs)
    (hf : H f = none) (nR : ∀ r ∈ rs, H r = none) (b3 : But g H' H3) (G3 : Gen H3 g (n + 19000 - 300 * (i + 1))) (hp : H' p = none) (h3 : H3 p = some (.lst (ks.map V.int))) (lks : ks.length = i + 1) (bk : ∀ z ∈ ks, 0 ≤ z ∧ z < k) :
    H3 f = some (.lst (rs.map V.ref)) ∧ CI H g f k m n (i + 1) [some (.ref g), some (.int k), some (.int m), some (.ref f), tv, sv, wv, rv, none, lv] (upd H3 f (.lst (rs.map V.ref ++ [V.ref p]))) := by
  have gf : g ≠ f := G0.ne hf
  have gr : g ∉ rs := notin_new G0 nR
  obtain ⟨t2, n2⟩ := t.push nf (H4 := H3) (fun r hr o e => b3 r o e (fun z => gr (by rw [← z]; exact hr))) hp h3
  refine ⟨b3 _ _ t.top gf.symm, tv, sv, wv, rv, lv, rfl, ?_, G3.other gf.symm, _, _, t2, by rw [List.length_append, lk]; rfl, fine.push (by omega) bk, n2, hf, ?_⟩
  · intro b o e nb
    rw [upd_ne (ne_of_none e hf)]
    exact b3 b o (bt b o e nb) nb
  · intro r hr
    rcases List.mem_append.mp hr with hr | hr
    · exact nR r hr
    · rw [List.mem_singleton] at hr
      subst hr
      exact but_free bt G' hp
section
variable {P : Program} {w : World} {K : PySem.W.Frag} {mg : Str → Option Value} {base : Heap}
abbrev nCompany : List Str := ["_law_generator_here", "_law_kinds", "_law_most", "_law_found", "_law_turn", "_law_size", "_law_way", "_law_row", "_law_mate", "_law_like"]
theorem scCompany : FnScope nCompany ["_law_generator_here", "_law_kinds", "_law_most"] (defScope sCompany) := ⟨rfl, rfl, rfl, by decide +kernel, rfl, by decide +kernel, by decide +kernel⟩
def spCompany : Sp := fun vs H Q _ => ∃ (g : Addr) (k : Int) (m n : Nat), vs = [.ref g, .int k, .int m] ∧ 2 ≤ k ∧ k ≤ 9 ∧ 1 ≤ m ∧ m ≤ 40 ∧ Gen H g (n + 20000) ∧ ∀ (p : Addr) (H' : Hp) (l : Nat), But g H H' → Gen H' g n → 1 ≤ l → l ≤ m → CoN H H' k p l → Q (.ref p) H'
theorem ok_company {f : Addr} {fd : FuncData} (F : Fun K "_law_company" "_law_company" sCompany f fd) (T : Bi mg) (U : Use P w K mg base "_law_random" ["_law_generator_here", "_law_bound"] spRandom 2)
    (UT : Use P w K mg base "_law_tie" ["_law_company_here", "_law_one", "_law_other"] spTie 1) (UR : Use P w K mg base "_law_renamed" ["_law_generator_here", "_law_company_here"] spRenamed 3) :
    FnOk P w K mg base CX0 4 f fd ["_law_generator_here", "_law_kinds", "_law_most"] spCompany := by
  refine F.ok scCompany (fun vs H Q E h => ?_) (fun cdv A outer s H vs Q E hr h => ?_)
  · obtain ⟨g, k, m, n, rfl, _⟩ := h
    rfl
  · obtain ⟨g, k, m, n, rfl, k2, k9, m1, m40, G, q⟩ := h
    have hr2 : Room 2 (A.deeper (envOfC "_law_company" (defScope sCompany) s.heap.objs.size f cdv)) := hr.mono (by decide)
    have hr1 : Room 1 (A.deeper (envOfC "_law_company" (defScope sCompany) s.heap.objs.size f cdv)) := hr.mono (by decide)
    refine ⟨_, pss_cons (ps_set (i := 3) scCompany.nd rfl (Or.inr rfl) (pe_lst (pa_cons (pe_lst pa_nil) pa_nil)))
      (pss_cons (ps_for PassesOwn.never rfl (pi_range1 (by rfl) T.range (pa_cons (pe_use U hr2 (by rfl) (pa_cons (pv 0) (pa_cons (pv 2) pa_nil))) pa_nil)) (pg_name (i := 4) scCompany.nd rfl (Or.inl rfl))
        (pss_cons (ps_par (i := 5) (j := 6) rfl scCompany.nd rfl rfl (by decide) rfl rfl (pa_cons (pe_callB call_len_seq (by rfl) T.len PySem.boot_len (pa_cons (pv 3) pa_nil)) (pa_cons (pe_use U hr2 (by rfl) (pa_cons (pv 0) (pa_cons pe_int pa_nil))) pa_nil)) (by rfl))
        (pss_cons (ps_set (i := 7) scCompany.nd rfl (Or.inr rfl) (pe_lc (own := [("_law_mate", 8)]) (g := gName 8) (tt := tYes) rfl scCompany.nd (pi_range1 (by rfl) T.range (pa_cons (pv 5) pa_nil))
              (blkOk_by (N := nCompany) (sc := defScope sCompany) (by decide +kernel)) (fun _ _ _ _ _ => pg_name (i := 8) scCompany.nd rfl (Or.inl rfl)) (fun _ _ _ _ _ => pts_nil)
              (fun _ _ _ _ _ => pe_use U hr2 (by rfl) (pa_cons (pv 0) (pa_cons (pv 1) pa_nil)))))
        (pss_cons (ps_if (pt_cmpR op_eq (pv 6) pe_int (nomark _))
            (pss_one (ps_set (i := 7) scCompany.nd rfl (Or.inr rfl) (pe_op op_rep (pe_lst (pa_cons (pe_ix ix_list (pv 7) pe_int (fun _ _ => rfl)) pa_nil)) (pv 5))))
            (pss_one (ps_if (pt_cmpR op_gt (pv 6) pe_int (nomark _))
              (pss_cons (ps_set (i := 9) scCompany.nd rfl (Or.inr rfl) (pe_use U hr2 (by rfl) (pa_cons (pv 0) (pa_cons (pv 5) pa_nil))))
              (pss_one (ps_set (i := 7) scCompany.nd rfl (Or.inr rfl) (pe_lc (own := [("_law_mate", 8)]) (g := gName 8) (tt := tYes) rfl scCompany.nd (pi_range1 (by rfl) T.range (pa_cons (pv 5) pa_nil))
                (blkOk_by (N := nCompany) (sc := defScope sCompany) (by decide +kernel)) (fun _ _ _ _ _ => pg_name (i := 8) scCompany.nd rfl (Or.inl rfl)) (fun _ _ _ _ _ => pts_nil)
                (te := tIf (tTest (tOp rEq (tVar 8) (tVar 9))) (tOp (rIxL K) (tVar 7) (tC (.int 0))) (tCall spTie [] E0 (tCons (tVar 3) (tCons (tVar 9) (tCons (tVar 8) tNil)))))
                (fun _ _ _ _ _ => by exact (pe_ifExp (pt_cmpR op_eq (pv 8) (pv 9) (nomark _)) (pe_ix ix_list (pv 7) pe_int (fun _ _ => rfl)) (pe_use UT hr1 (by rfl) (pa_cons (pv 3) (pa_cons (pv 9) (pa_cons (pv 8) pa_nil))))))))))
              pss_nil)))
        (pss_one (ps_expr (pe_bm PySem.F.plainAttrs_list PySem.F.slot_list_append PySem.F.type_list_append mt_append (pv 3) (pa_cons (pv 7) pa_nil))))))))
      (pss_one (ps_ret (pe_use UR hr (by rfl) (pa_cons (pv 0) (pa_cons (pv 3) pa_nil)))))), ?_⟩
    refine ⟨Nat.zero_le _, fun l0 hl0 => ⟨one_le, fun f0 hf0 => ?_⟩⟩
    have hf00 : H f0 = none := (same_new hl0).free hf0
    have lf : l0 ≠ f0 := fun z => by
      rw [← z, upd_same] at hf0
      cases hf0
    have gf : g ≠ f0 := G.ne hf00
    refine ⟨_, rfl, _, rfl, g, m, n + 19995, rfl, by omega, by omega, ((G.new hl0).new hf0).less (by omega), fun r H1 r0 r1 G1 b1 => ?_⟩
    have b01 : But g H H1 := ((But.new hl0).trans (But.new hf0)).trans b1
    obtain ⟨tt, rfl⟩ : ∃ tt : Nat, r = (tt : Int) := ⟨r.toNat, by omega⟩
    refine ⟨_, rfl, by omega, by omega, ?_⟩
    refine for_range (lo := 0) (n := (tt : Int).toNat) (CI H g f0 k m n) ⟨none, none, none, none, none, rfl, b01, G1.less (by omega), [l0], [[]], ⟨b1 _ _ upd_same gf.symm, rfl, ?_, by simp⟩, rfl, ?_, ?_, hf00, ?_⟩ ?_ ?_
    · intro i r ks h1 h2
      have i0 : i = 0 := by
        have := (List.getElem?_eq_some_iff.mp h1).1
        simp at this
        exact this
      subst i0
      cases h1
      cases h2
      exact b1 _ _ (by rw [upd_ne lf, upd_same]; rfl) (G.ne hl0).symm
    · intro i ks h
      have i0 : i = 0 := by
        have := (List.getElem?_eq_some_iff.mp h).1
        simp at this
        exact this
      subst i0
      cases h
      exact ⟨rfl, by simp⟩
    · rw [List.mem_singleton]
      exact lf.symm
    · intro r hr
      rw [List.mem_singleton] at hr
      subst hr
      exact hl0
    · rintro i σ H' hi ⟨tv, sv, wv, rv, lv, rfl, bt, G', rs, kss, t, lk, fine, nf, _, nR⟩
      have gr : g ∉ rs := notin_new G nR
      have im : i + 1 ≤ 40 := by omega
      have lrs : (rs.map V.ref).length = i + 1 := by rw [List.length_map, t.len, lk]
      refine ⟨_, rfl, f0, _, rfl, .inl (SqL.of t.top), _, rfl, g, 4, n + 19000 - 300 * i - 5, rfl, by decide, by decide, G'.less (by omega), fun wy Ha w0 w1 Ga ba => ⟨_, _, rfl, ?_⟩⟩
      rw [lrs]
      refine ⟨_, rfl, _, rfl, by omega, by omega, fun D hD => ?_⟩
      have gD : D ≠ g := (Ga.ne hD).symm
      have hDH' : H' D = none := but_free ba Ga hD
      refine lc_it (walk_range (lo := 0) (n := ((i + 1 : Nat) : Int).toNat)) (fun j H5 => But g Ha H5 ∧ Gen H5 g (n + 19000 - 300 * i - 5 - 5 * j) ∧ ∃ ks : List Int, H5 D = some (.lst (ks.map V.int)) ∧ ks.length = j ∧ ∀ z ∈ ks, 0 ≤ z ∧ z < k)
          ⟨But.new hD, Ga.new hD, [], upd_same, rfl, by simp⟩ (fun _ _ _ _ => trivial) ?_ ?_
      · rintro j y H5 H6 hj ⟨b5, G5, ks, h5, l5, bb⟩ ⟨rfl, rfl⟩
        refine ⟨rfl, yes_of ?_⟩
        refine ⟨_, rfl, _, rfl, g, k, n + 19000 - 300 * i - 5 - 5 * (j + 1), rfl, by omega, by omega, G5.less (by omega), fun r2 H7 q0 q1 G7 b7 => ⟨_, b7 _ _ h5 gD, ?_, ?_, G7.other gD, ks ++ [r2], ?_, ?_, ?_⟩⟩
        · rw [List.length_map]
          exact small1000 (by omega)
        · intro b o e nb
          rw [upd_ne (ne_of_none e hD)]
          exact b7 b o (b5 b o e nb) nb
        · rw [upd_same, List.map_append]
          rfl
        · rw [List.length_append, l5]
          rfl
        · intro z hz
          rcases List.mem_append.mp hz with hz | hz
          · exact bb z hz
          · rw [List.mem_singleton] at hz
            subst hz
            exact ⟨q0, q1⟩
      · rintro H5 ⟨b5, G5, ks, h5, l5, bb⟩
        have l5' : ks.length = i + 1 := by omega
        have G5' : Gen H5 g (n + 19000 - 300 * (i + 1) + 10) := G5.less (by omega)
        have b05 : But g H' H5 := ba.trans b5
        have t5 : Tab H5 f0 rs kss := t.but b05 gf.symm gr
        have szf : (rs.map V.ref).length < sizeLine := by
          rw [lrs]
          exact small1000 (by omega)
        have first : ∃ z, ks[0]? = some z ∧ 0 ≤ z ∧ z < k := by
          cases ks with
          | nil => simp at l5'
          | cons z ks => exact ⟨z, rfl, bb z (List.mem_cons_self ..)⟩
        obtain ⟨z, z1, z2, z3⟩ := first
        have at0 : atI (ks.map V.int) 0 = some (.int z) := at_of (j := 0) rfl (by rw [List.getElem?_map, z1]; rfl)
        refine ⟨_, rfl, rfl, _, rfl, ite2 (fun cw => ?_) (fun cw => ?_)⟩
        · -- one tie to all
          refine ⟨_, rfl, D, _, _, _, rfl, rfl, SqL.of h5, at0, one_le, fun l hl => ⟨_, rfl, l, _, _, rfl, rfl, upd_same, by omega, by omega, ?_, fun p hp => ?_⟩⟩
          · show 1 * ((i + 1 : Nat) : Int).toNat ≤ sizeLine
            exact Nat.le_of_lt (small1000 (by omega))
          · have hl0 : H' l = none := but_free b05 G5 hl
            have hp0 : H' p = none := but_free b05 G5 ((same_new hl).free hp)
            obtain ⟨e1, e2⟩ := CI.next (H3 := upd (upd H5 l (.lst [V.int z])) p (.lst (List.replicate ((i + 1 : Nat) : Int).toNat [V.int z]).flatten)) (k := k) (m := m) (n := n) (ks := List.replicate ((i + 1 : Nat) : Int).toNat z) (tv := some (V.int (0 + (i : Int)))) (sv := some (V.int ((i + 1 : Nat) : Int))) (wv := some (V.int wy)) (rv := some (V.ref p)) (lv := lv) G bt G' t lk fine nf hf00 nR ((b05.trans (But.new hl)).trans (But.new hp)) (((G5'.new hl).new hp).less (by omega)) hp0 (by rw [upd_same, rep_one]) (by rw [List.length_replicate]; omega) (fun z' hz => by
              rw [List.eq_of_mem_replicate hz]
              exact ⟨z2, z3⟩)
            exact ⟨_, rfl, .inl ⟨rfl, _, SqL.of e1⟩, _, rfl, f0, _, _, rfl, rfl, e1, szf, e2⟩
        · refine ⟨_, rfl, _, _, rfl, rfl, _, rfl, ite2 (fun cg => ?_) (fun cg => ?_)⟩
          · refine ⟨_, rfl, _, rfl, g, ((i + 1 : Nat) : Int), n + 19000 - 300 * (i + 1) + 5, rfl, by omega, by omega, G5'.less (by omega), fun one Hb o0 o1 Gb bb6 => ?_⟩
            obtain ⟨u, rfl⟩ : ∃ u : Nat, one = (u : Int) := ⟨one.toNat, by omega⟩
            have h5b := bb6 _ _ h5 gD
            refine ⟨_, rfl, _, rfl, by omega, by omega, fun D2 hD2 => ?_⟩
            have b0b := b05.trans bb6
            refine lc_it (walk_range (lo := 0) (n := ((i + 1 : Nat) : Int).toNat)) (fun j H7 => Same Hb H7 ∧ ∃ ks : List Int, H7 D2 = some (.lst (ks.map V.int)) ∧ ks.length = j ∧ ∀ z ∈ ks, 0 ≤ z ∧ z < k)
              ⟨same_new hD2, [], upd_same, rfl, by simp⟩ (fun _ _ _ _ => trivial) ?_ ?_
            · rintro j y H7 H8 hj ⟨s7, ks7, h7, l7, bb7⟩ ⟨rfl, rfl⟩
              have more : ∀ (z : Int), 0 ≤ z → z < k → ∃ acc, H8 D2 = some (.lst acc) ∧ acc.length < sizeLine ∧ Same Hb (upd H8 D2 (.lst (acc ++ [V.int z]))) ∧
                  ∃ ks : List Int, (upd H8 D2 (.lst (acc ++ [V.int z]))) D2 = some (.lst (ks.map V.int)) ∧ ks.length = j + 1 ∧ ∀ z ∈ ks, 0 ≤ z ∧ z < k := by
                intro z z0 z1
                refine ⟨_, h7, ?_, fun b o e => ?_, ks7 ++ [z], ?_, ?_, ?_⟩
                · rw [List.length_map]
                  exact small1000 (by omega)
                · rw [upd_ne (ne_of_none e hD2)]
                  exact s7 b o e
                · rw [upd_same, List.map_append]
                  rfl
                · rw [List.length_append, l7]
                  rfl
                · intro z' hz
                  rcases List.mem_append.mp hz with hz | hz
                  · exact bb7 z' hz
                  · rw [List.mem_singleton] at hz
                    subst hz
                    exact ⟨z0, z1⟩
              refine ⟨rfl, yes_of ?_⟩
              refine ⟨_, rfl, _, rfl, rfl, _, rfl, ite2 (fun ce => ?_) (fun ce => ?_)⟩
              · exact ⟨_, rfl, D, _, _, _, rfl, rfl, SqL.of (s7 _ _ h5b), at0, more z z2 z3⟩
              · have ne : u ≠ j := fun z => ce (by
                  subst z
                  exact decide_eq_true (show V.int (0 + (u : Int)) = V.int (u : Int) by rw [Int.zero_add]))
                have tin := tieN_in fine (by omega : u < kss.length) (by omega : j < kss.length) ne
                refine ⟨_, rfl, _, rfl, _, rfl, f0, rs, kss, k, u, j, (show [V.ref f0, V.int (u : Int), V.int (0 + (j : Int))] = [V.ref f0, V.int (u : Int), V.int (j : Int)] by rw [Int.zero_add]), (t.but b0b gf.symm gr).same s7, fine, by omega, by omega, ne, more _ tin.1 tin.2⟩
            · rintro H7 ⟨s7, ks7, h7, l7, bb7⟩
              obtain ⟨e1, e2⟩ := CI.next (k := k) (m := m) (n := n) (tv := some (V.int (0 + (i : Int)))) (sv := some (V.int ((i + 1 : Nat) : Int))) (wv := some (V.int wy)) (rv := some (V.ref D2)) (lv := some (V.int (u : Int))) G bt G' t lk fine nf hf00 nR (b0b.trans (.of s7)) ((Gb.same s7).less (by omega)) (but_free b0b Gb hD2) h7 (by omega) bb7
              exact ⟨_, rfl, .inl ⟨rfl, _, SqL.of e1⟩, _, rfl, f0, _, _, rfl, rfl, e1, szf, e2⟩
          · obtain ⟨e1, e2⟩ := CI.next (k := k) (m := m) (n := n) (ks := ks) (tv := some (V.int (0 + (i : Int)))) (sv := some (V.int ((i + 1 : Nat) : Int))) (wv := some (V.int wy)) (rv := some (V.ref D)) (lv := lv) G bt G' t lk fine nf hf00 nR b05 (G5'.less (by omega)) hDH' h5 l5' bb
            exact ⟨_, rfl, .inl ⟨rfl, _, SqL.of e1⟩, _, rfl, f0, _, _, rfl, rfl, e1, szf, e2⟩
    · rintro σ H' ⟨tv, sv, wv, rv, lv, rfl, bt, G', rs, kss, t, lk, fine, nf, _, nR⟩
      have gr : g ∉ rs := notin_new G nR
      refine ⟨_, rfl, _, rfl, g, f0, rs, kss, k, n, rfl, t, fine, by omega, gf.symm, gr, G'.less (by omega), fun p Hp bp Gp cp => ?_⟩
      exact q p Hp kss.length (bt.trans bp) Gp (by omega) (by omega) (cp.back fun a ha => but_free bt G' ha)
end
end K6

namespace K6
open PySem PySem.Spec PyProof.Rows L2 GL
abbrev sSame : Stmt := topS 29
abbrev sKept : Stmt := topS 33
abbrev sLots : Stmt := topS 34
def nums (l : List Nat) : List Int := l.map fun (j : Nat) => (j : Int)
theorem natV_nums (l : List Nat) : natV l = (nums l).map V.int := by
  unfold natV nums
  rw [List.map_map]
  rfl
theorem nums_inj {l m : List Nat} (h : nums l = nums m) : l = m := by
  induction l generalizing m with
  | nil =>
    cases m with
    | nil => rfl
    | cons b m => cases h
  | cons a l ih =>
    cases m with
    | nil => cases h
    | cons b m =>
      obtain ⟨h1, h2⟩ := List.cons.inj h
      rw [ih h2, Int.ofNat.inj h1]
/-- all ascending lists of the first n numbers, in the order in which they are made -/
def rawLots : Nat → List (List Nat)
  | 0 => [[]]
  | n + 1 => rawLots n ++ (rawLots n).map (· ++ [n])
theorem raw_len : ∀ n, (rawLots n).length = 2 ^ n
  | 0 => rfl
  | n + 1 => by
    show (rawLots n ++ (rawLots n).map (· ++ [n])).length = _
    rw [List.length_append, List.length_map, raw_len n, Nat.pow_succ]
    omega
theorem raw_mem : ∀ (n : Nat) (l : List Nat), l ∈ rawLots n ↔ l.Pairwise (· < ·) ∧ ∀ p ∈ l, p < n
  | 0, l => by
    show l ∈ [[]] ↔ _
    rw [List.mem_singleton]
    constructor
    · rintro rfl
      exact ⟨.nil, by simp⟩
    · rintro ⟨_, h⟩
      cases l with
      | nil => rfl
      | cons a l => exact absurd (h a (List.mem_cons_self ..)) (by omega)
  | n + 1, l => by
    show l ∈ rawLots n ++ (rawLots n).map (· ++ [n]) ↔ _
    rw [List.mem_append, raw_mem n l, List.mem_map]
    constructor
    · rintro (⟨h1, h2⟩ | ⟨m, hm, rfl⟩)
      · exact ⟨h1, fun p hp => Nat.lt_succ_of_lt (h2 p hp)⟩
      · obtain ⟨h1, h2⟩ := (raw_mem n m).mp hm
        refine ⟨List.pairwise_append.mpr ⟨h1, List.pairwise_singleton .., fun a ha b hb => ?_⟩, fun p hp => ?_⟩
        · rw [List.mem_singleton] at hb
          subst hb
          exact h2 a ha
        · rcases List.mem_append.mp hp with hp | hp
          · exact Nat.lt_succ_of_lt (h2 p hp)
          · rw [List.mem_singleton] at hp
            omega
    · rintro ⟨h1, h2⟩
      by_cases c : n ∈ l
      · right
        obtain ⟨s, t, rfl⟩ := List.append_of_mem c
        obtain ⟨a1, a2, a3⟩ := List.pairwise_append.mp h1
        obtain ⟨b1, b2⟩ := List.pairwise_cons.mp a2
        have t0 : t = [] := by
          cases t with
          | nil => rfl
          | cons x t =>
            have := b1 x (List.mem_cons_self ..)
            have := h2 x (by simp)
            omega
        subst t0
        exact ⟨s, (raw_mem n s).mpr ⟨a1, fun p hp => a3 p hp n (List.mem_cons_self ..)⟩, rfl⟩
      · left
        refine ⟨h1, fun p hp => ?_⟩
        have := h2 p hp
        have : p ≠ n := fun z => c (by rw [← z]; exact hp)
        omega
/-- a list of lists of numbers, each at its place, new since H0 -/
structure Rows (H0 H : Hp) (a : Addr) (ts : List (Addr × List Nat)) : Prop where
  top : H a = some (.lst (ts.map fun t => V.ref t.1))
  row : ∀ t ∈ ts, H t.1 = some (.lst (natV t.2))
  new : ∀ t ∈ ts, H0 t.1 = none
theorem Rows.same {H0 H H' : Hp} {a : Addr} {ts : List (Addr × List Nat)} (r : Rows H0 H a ts) (s : Same H H') : Rows H0 H' a ts := ⟨s _ _ r.top, fun t ht => s _ _ (r.row t ht), r.new⟩
section
variable {P : Program} {w : World} {K : PySem.W.Frag} {mg : Str → Option Value} {base : Heap}
theorem scSame : FnScope ["_law_told", "_law_due"] ["_law_told", "_law_due"] (defScope sSame) := ⟨rfl, rfl, rfl, by decide +kernel, rfl, by decide +kernel, by decide +kernel⟩
def spSame (K : PySem.W.Frag) : Sp := fun vs H Q _ => ∃ (x y : V) (d : PyData), vs = [x, y] ∧ Dt K H x d ∧ Dt K H y d ∧ Nice 3 d ∧ Q (.bl true) H
theorem ok_same {f : Addr} {fd : FuncData} (F : Fun K "_law_same" "_law_same" sSame f fd) (T : Bi mg) : FnG P w K mg base CX0 1 f fd ["_law_told", "_law_due"] (spSame K) := by
  refine FnG.mk' F scSame (fun vs H Q E h => ?_) (fun cdv A outer s H vs Q E hgd hr h => ?_)
  · obtain ⟨x, y, d, rfl, _⟩ := h
    rfl
  · obtain ⟨x, y, d, rfl, hx, hy, ni, q⟩ := h
    have hgd' : (A.deeper (envOfC "_law_same" (defScope sSame) s.heap.objs.size f cdv)).guards = some [] := hgd
    obtain ⟨f1, f2, f3⟩ := ni.fits
    refine ⟨_, pss_one (ps_ret (pe_cmpR op_eq (pe_callB (call_repD hgd' hr.units) (by rfl) T.repr (by decide +kernel) (pa_cons (pv 0) pa_nil)) (pe_callB (call_repD hgd' hr.units) (by rfl) T.repr (by decide +kernel) (pa_cons (pv 1) pa_nil)) (nomark _))), ?_⟩
    refine ⟨_, rfl, x, d, rfl, hx, f1, f2, f3, _, rfl, y, d, rfl, hy, f1, f2, f3, rfl, ?_⟩
    rw [decide_eq_true rfl]
    exact q
abbrev nKept : List Str := ["_law_company_here", "_law_row"]
theorem scKept : FnScope nKept ["_law_company_here"] (defScope sKept) := ⟨rfl, rfl, rfl, by decide +kernel, rfl, by decide +kernel, by decide +kernel⟩
def rLstL (K : PySem.W.Frag) : List V → Hp → VK → Prop := fun xs H Q => ∃ p ys, xs = [.ref p] ∧ SqL K H p ys ∧ ∀ l, H l = none → Q (.ref l) (upd H l (.lst ys))
theorem call_lstL {X : Cx} : CallR X (.type "list") (rLstL X.K) := fun pins s σ H xs us Q I r ⟨p, ys, e, a, b⟩ => call_list_of pins s σ H xs us Q I r ⟨p, ys, e, .inl a, b⟩
def spKept : Sp := fun vs H Q _ => ∃ (c : Addr) (rs : List Addr) (kss : List (List Int)), vs = [.ref c] ∧ Tab H c rs kss ∧ kss.length ≤ 100 ∧
  ∀ (p : Addr) (ps : List Addr) (H' : Hp), Same H H' → Tab H' p ps kss → p ∉ ps → H p = none → (∀ r ∈ ps, H r = none) → Q (.ref p) H'
theorem ok_kept {f : Addr} {fd : FuncData} (F : Fun K "_law_kept" "_law_kept" sKept f fd) (T : Bi mg) : FnOk P w K mg base CX0 1 f fd ["_law_company_here"] spKept := by
  refine F.ok scKept (fun vs H Q E h => ?_) (fun cdv A outer s H vs Q E hr h => ?_)
  · obtain ⟨c, rs, kss, rfl, _⟩ := h
    rfl
  · obtain ⟨c, rs, kss, rfl, t, n100, q⟩ := h
    refine ⟨_, pss_one (ps_ret (pe_lc (own := [("_law_row", 1)]) (g := gName 1) (tt := tYes) (te := tCB (rLstL K) (tCons (tVar 1) tNil)) rfl scKept.nd (pi_list (pv 0)) (blkOk_by (N := nKept) (sc := defScope sKept) (by decide +kernel))
      (fun _ _ _ _ _ => pg_name (i := 1) scKept.nd rfl (Or.inl rfl)) (fun _ _ _ _ _ => pts_nil) (fun _ _ _ _ _ => pe_callTy call_lstL (by rfl) T.list PyProof.Rows.boot_list (pa_cons (pv 1) pa_nil)))), ?_⟩
    refine ⟨_, rfl, c, rfl, ⟨_, SqL.of t.top⟩, fun D hD => ?_⟩
    refine lc_list (K := K) (a := c) (xs := rs.map V.ref) (fun i H' => Same H H' ∧ ∃ ps, Tab H' D ps (kss.take i) ∧ D ∉ ps ∧ ∀ r ∈ ps, H r = none)
      ⟨same_new hD, [], ⟨upd_same, rfl, fun i r ks h => by simp at h, List.nodup_nil⟩, by simp, by simp⟩ (fun i H' _ z => SqL.of (z.1 _ _ t.top)) ?_ ?_
    · rintro i y H' hi ⟨s1, ps, u, nD, nR⟩
      rw [List.getElem?_map] at hi
      cases e : rs[i]? with
      | none =>
        rw [e] at hi
        cases hi
      | some r =>
        rw [e] at hi
        cases hi
        have il : i < kss.length := by rw [← t.len]; exact (List.getElem?_eq_some_iff.mp e).1
        have hrow := t.row i r kss[i] e (List.getElem?_eq_getElem il)
        refine ⟨rfl, yes_of ⟨_, rfl, r, _, rfl, SqL.of (s1 _ _ hrow), fun l hl => ?_⟩⟩
        obtain ⟨H3, e3, s3, f3⟩ := gen H' hl (.lst (kss[i].map V.int))
        rw [e3]
        clear e3
        obtain ⟨t2, n2⟩ := u.push nD (fun r _ o' e => s3 r o' e) hl f3
        refine ⟨ps.map V.ref, s3 _ _ u.top, ?_, ?_, ps ++ [l], ?_, n2, ?_⟩
        · rw [List.length_map, u.len, List.length_take]
          exact small1000 (by omega)
        · intro b o e'
          rw [upd_ne (ne_of_none e' hD)]
          exact s3 b o (s1 b o e')
        · rw [List.take_add_one, List.getElem?_eq_getElem il]
          exact t2
        · intro q hq
          rcases List.mem_append.mp hq with hq | hq
          · exact nR q hq
          · rw [List.mem_singleton] at hq
            subst hq
            exact s1.free hl
    · rintro H' ⟨s1, ps, u, nD, nR⟩
      rw [List.length_map, t.len, List.take_length] at u
      exact q D ps H' s1 u nD hD nR
abbrev nLots : List Str := ["_law_size", "_law_found", "_law_person", "_law_lot"]
theorem scLots : FnScope nLots ["_law_size"] (defScope sLots) := ⟨rfl, rfl, rfl, by decide +kernel, rfl, by decide +kernel, by decide +kernel⟩
def rowLe (x y : Addr × List Int) : Bool := decide (x.2 ≤ y.2)
def spLots : Sp := fun vs H Q _ => ∃ n : Nat, vs = [.int n] ∧ n ≤ 8 ∧ ∀ (p : Addr) (ts : List (Addr × List Nat)) (H' : Hp), Same H H' → H p = none → Rows H H' p ts → (ts.map (·.2)).Perm ((rawLots n).filter fun l => !l.isEmpty) → (ts.map fun t => nums t.2).Pairwise (· ≤ ·) → Q (.ref p) H'
theorem ok_lots {f : Addr} {fd : FuncData} (F : Fun K "_law_lots" "_law_lots" sLots f fd) (T : Bi mg) : FnOk P w K mg base CX0 1 f fd ["_law_size"] spLots := by
  refine F.ok scLots (fun vs H Q E h => ?_) (fun cdv A outer s H vs Q E hr h => ?_)
  · obtain ⟨n, rfl, _⟩ := h
    rfl
  · obtain ⟨n, rfl, n8, q⟩ := h
    refine ⟨_, pss_cons (ps_set (i := 1) scLots.nd rfl (Or.inl rfl) (pe_lst (pa_cons (pe_lst pa_nil) pa_nil)))
      (pss_cons (ps_for PassesOwn.never rfl (pi_range1 (by rfl) T.range (pa_cons (pv 0) pa_nil)) (pg_name (i := 2) scLots.nd rfl (Or.inr rfl))
        (pss_one (ps_set (i := 1) scLots.nd rfl (Or.inl rfl) (pe_op op_cat (pv 1) (pe_lc (own := [("_law_lot", 3)]) (g := gName 3) (tt := tYes) rfl scLots.nd (pi_list (pv 1)) (blkOk_by (N := nLots) (sc := defScope sLots) (by decide +kernel))
          (fun _ _ _ _ _ => pg_name (i := 3) scLots.nd rfl (Or.inl rfl)) (fun _ _ _ _ _ => pts_nil) (fun _ _ _ _ _ => by exact (pe_op op_cat (pv 3) (pe_lst (pa_cons (pv 2) pa_nil)))))))))
      (pss_one (ps_ret (pe_callB (cr_sortedL hr.units) (by rfl) T.sorted (by decide +kernel) (pa_cons (pe_lc (own := [("_law_lot", 3)]) (g := gName 3) (tt := tTest (tOp (rNeNil K) (tVar 3) (tLst tNil))) rfl scLots.nd (pi_list (pv 1)) (blkOk_by (N := nLots) (sc := defScope sLots) (by decide +kernel))
          (fun _ _ _ _ _ => pg_name (i := 3) scLots.nd rfl (Or.inl rfl)) (fun _ _ _ _ _ => by exact (pts_one (pt_cmpR (op_neNil hr.units) (pv 3) (pe_lst pa_nil) (nomark _)))) (fun _ _ _ _ _ => pv 3)) pa_nil))))), ?_⟩
    refine ⟨Nat.zero_le _, fun l0 hl0 => ⟨one_le, fun f0 hf0 => ?_⟩⟩
    have hf00 : H f0 = none := (same_new hl0).free hf0
    have lf : l0 ≠ f0 := fun z => by
      rw [← z, upd_same] at hf0
      cases hf0
    refine ⟨_, rfl, _, rfl, by omega, by omega, ?_⟩
    refine for_range (lo := 0) (n := (n : Int).toNat) (fun i σ H' => ∃ (a : Addr) (ts : List (Addr × List Nat)) (pv : Option V), σ = [some (.int n), some (.ref a), pv, none] ∧ Same H H' ∧ Rows H H' a ts ∧ ts.map (·.2) = rawLots i)
      ⟨f0, [(l0, [])], none, rfl, (same_new hl0).trans (same_new hf0), ⟨upd_same, fun t ht => ?_, fun t ht => ?_⟩, rfl⟩ ?_ ?_
    · rw [List.mem_singleton] at ht
      subst ht
      show upd _ f0 _ l0 = _
      rw [upd_ne lf, upd_same]
      rfl
    · rw [List.mem_singleton] at ht
      subst ht
      exact hl0
    · rintro i σ H' hi ⟨a, ts, pv0, rfl, s1, R, e1⟩
      have lts : ts.length = 2 ^ i := by
        rw [← raw_len i, ← e1, List.length_map]
      have p8 : 2 ^ i ≤ 128 := Nat.pow_le_pow_right (n := 2) (by decide) (by omega : i ≤ 7)
      refine ⟨_, rfl, _, rfl, a, rfl, ⟨_, SqL.of R.top⟩, fun D hD => ?_⟩
      refine lc_list (K := K) (a := a) (xs := ts.map fun t => V.ref t.1) (fun j H5 => Same H' H5 ∧ ∃ us, Rows H' H5 D us ∧ us.map (·.2) = ((ts.map (·.2)).take j).map (· ++ [i]))
        ⟨same_new hD, [], ⟨upd_same, by simp, by simp⟩, rfl⟩ (fun j H5 _ z => SqL.of (z.1 _ _ R.top)) ?_ ?_
      · rintro j y H5 hj ⟨s5, us, R5, e5⟩
        rw [List.getElem?_map] at hj
        cases e : ts[j]? with
        | none =>
          rw [e] at hj
          cases hj
        | some t =>
          rw [e] at hj
          cases hj
          have tm := List.mem_of_getElem? e
          have jl := (List.getElem?_eq_some_iff.mp e).1
          have lt : t.2.length ≤ i := by
            have : t.2 ∈ rawLots i := by rw [← e1]; exact List.mem_map_of_mem tm
            obtain ⟨w1, w2⟩ := (raw_mem i _).mp this
            have := up_len (n := i) t.2 0 w1 fun p hp => ⟨Nat.zero_le _, w2 p hp⟩
            omega
          refine ⟨rfl, yes_of ?_⟩
          refine ⟨_, rfl, _, rfl, one_le, fun l hl => ?_⟩
          obtain ⟨H6, e6, s6, f6⟩ := gen H5 hl (.lst [.int (0 + (i : Int))])
          rw [e6]
          clear e6
          refine ⟨t.1, l, _, _, rfl, rfl, s6 _ _ (s5 _ _ (R.row t tm)), f6, ?_, fun p hp => ?_⟩
          · unfold natV
            rw [List.length_map]
            exact Nat.le_of_lt (small1000 (by show t.2.length + 1 ≤ 1000; omega))
          · have ea : natV t.2 ++ [V.int (0 + (i : Int))] = natV (t.2 ++ [i]) := by
              unfold natV
              rw [List.map_append, Int.zero_add]
              rfl
            rw [ea]
            obtain ⟨H7, e7, s7, f7⟩ := gen H6 hp (.lst (natV (t.2 ++ [i])))
            rw [e7]
            clear e7
            have s57 := s6.trans s7
            have Dp : D ≠ p := ne_of_none (s6 _ _ R5.top) hp
            have hpH' : H' p = none := s5.free (s6.free hp)
            refine ⟨_, s57 _ _ R5.top, ?_, fun b o e' => ?_, us ++ [(p, t.2 ++ [i])], ⟨?_, ?_, ?_⟩, ?_⟩
            · have lu : us.length = j := by
                have := congrArg List.length e5
                rw [List.length_map, List.length_map, List.length_take, List.length_map] at this
                omega
              rw [List.length_map]
              exact small1000 (by omega)
            · rw [upd_ne (ne_of_none e' hD)]
              exact s57 b o (s5 b o e')
            · rw [upd_same, List.map_append]
              rfl
            · intro u hu
              rcases List.mem_append.mp hu with hu | hu
              · have h0 := R5.row u hu
                have uD : u.1 ≠ D := fun z => by
                  have := R5.new u hu
                  have h1 := R5.top
                  rw [z] at h0
                  rw [h0] at h1
                  have := HO.lst.inj (Option.some.inj h1)
                  unfold natV at this
                  cases us with
                  | nil => cases hu
                  | cons w us =>
                    cases e9 : u.2 with
                    | nil => rw [e9] at this; cases this
                    | cons x xs => rw [e9] at this; cases this
                rw [upd_ne uD]
                exact s57 _ _ h0
              · rw [List.mem_singleton] at hu
                subst hu
                show upd H7 D _ p = _
                rw [upd_ne Dp.symm]
                exact f7
            · intro u hu
              rcases List.mem_append.mp hu with hu | hu
              · exact R5.new u hu
              · rw [List.mem_singleton] at hu
                subst hu
                exact hpH'
            · rw [List.map_append, e5, take_more (· ++ [i]) (x := t.2) (by rw [List.getElem?_map, e]; rfl)]
              rfl
      · rintro H5 ⟨s5, us, R5, e5⟩
        have e5' : us.map (·.2) = (rawLots i).map (· ++ [i]) := by
          rw [e5, List.length_map, ← List.length_map (as := ts) (f := (·.2)), List.take_length, e1]
        have lus : us.length = 2 ^ i := by
          have := congrArg List.length e5'
          rw [List.length_map, List.length_map, raw_len] at this
          exact this
        refine ⟨a, D, _, _, rfl, rfl, s5 _ _ R.top, R5.top, ?_, fun p hp => ?_⟩
        · rw [List.length_map, List.length_map, lts, lus]
          exact Nat.le_of_lt (small1000 (by omega))
        · obtain ⟨H6, e6, s6, f6⟩ := gen H5 hp (.lst ((ts.map fun t => V.ref t.1) ++ (us.map fun t => V.ref t.1)))
          rw [e6]
          clear e6
          refine ⟨p, ts ++ us, _, rfl, s1.trans (s5.trans s6), ⟨?_, ?_, ?_⟩, ?_⟩
          · rw [f6, List.map_append]
          · intro t ht
            rcases List.mem_append.mp ht with ht | ht
            · exact s6 _ _ (s5 _ _ (R.row t ht))
            · exact s6 _ _ (R5.row t ht)
          · intro t ht
            rcases List.mem_append.mp ht with ht | ht
            · exact R.new t ht
            · exact s1.free (R5.new t ht)
          · rw [List.map_append, e1, e5']
            rfl
    · rintro σ H' ⟨a, ts, pv0, rfl, s1, R, e1⟩
      have nn : (n : Int).toNat = n := Int.toNat_natCast n
      rw [nn] at e1
      have lts : ts.length = 2 ^ n := by
        rw [← raw_len n, ← e1, List.length_map]
      have p8 : 2 ^ n ≤ 256 := Nat.pow_le_pow_right (n := 2) (by decide) (by omega : n ≤ 8)
      refine ⟨_, rfl, a, rfl, ⟨_, SqL.of R.top⟩, fun D hD => ?_⟩
      refine lc_list (K := K) (a := a) (xs := ts.map fun t => V.ref t.1) (fun j H5 => Same H' H5 ∧ H5 D = some (.lst (((ts.take j).filter fun t => !t.2.isEmpty).map fun t => V.ref t.1)))
        ⟨same_new hD, upd_same⟩ (fun j H5 _ z => SqL.of (z.1 _ _ R.top)) ?_ ?_
      · rintro j y H5 hj ⟨s5, h5⟩
        rw [List.getElem?_map] at hj
        cases e : ts[j]? with
        | none =>
          rw [e] at hj
          cases hj
        | some t =>
          rw [e] at hj
          cases hj
          have tm := List.mem_of_getElem? e
          have jl := (List.getElem?_eq_some_iff.mp e).1
          have ht := s5 _ _ (R.row t tm)
          have et : ∀ b, (natV t.2).isEmpty = b → t.2.isEmpty = b := fun b h => by
            cases e9 : t.2 with
            | nil => rw [e9] at h; exact h
            | cons x xs => rw [e9] at h; exact h
          have tk : (ts.take (j + 1)).filter (fun t => !t.2.isEmpty) = (ts.take j).filter (fun t => !t.2.isEmpty) ++ (if t.2.isEmpty then [] else [t]) := by
            rw [List.take_add_one, e, List.filter_append]
            show _ ++ [t].filter _ = _
            cases c : t.2.isEmpty with
            | true => rw [List.filter_cons_of_neg (by rw [c]; decide)]; rfl
            | false => rw [List.filter_cons_of_pos (by rw [c]; rfl)]; rfl
          refine ⟨rfl, ?_⟩
          refine ⟨_, rfl, Nat.zero_le _, fun l hl => ?_⟩
          obtain ⟨H6, e6, s6, f6⟩ := gen H5 hl (.lst [])
          rw [e6]
          clear e6
          refine ⟨t.1, l, natV t.2, rfl, rfl, SqL.of (s6 _ _ ht), SqL.of f6, _, rfl, ?_⟩
          have sz : (((ts.take j).filter fun t => !t.2.isEmpty).map fun t => V.ref t.1).length < sizeLine := by
            rw [List.length_map]
            have := List.length_filter_le (fun t : Addr × List Nat => !t.2.isEmpty) (ts.take j)
            rw [List.length_take] at this
            exact small1000 (by omega)
          cases c : (natV t.2).isEmpty with
          | true =>
            refine iteF ?_
            refine ⟨s5.trans s6, ?_⟩
            rw [tk, et _ c, if_pos rfl, List.append_nil]
            exact s6 _ _ h5
          | false =>
            refine iteT ?_
            refine ⟨_, rfl, _, s6 _ _ h5, sz, fun b o e' => ?_, ?_⟩
            · rw [upd_ne (ne_of_none e' hD)]
              exact s6 b o (s5 b o e')
            · rw [upd_same, tk, et _ c, List.map_append]
              rfl
      · rintro H5 ⟨s5, h5⟩
        rw [List.length_map, List.take_length] at h5
        refine ⟨D, (ts.filter fun t => !t.2.isEmpty).map fun t => (t.1, nums t.2), rfl, SqL.of (by rw [h5, List.map_map]; rfl), fun u hu => ?_, fun p hp => ?_⟩
        · obtain ⟨t, ht, rfl⟩ := List.mem_map.mp hu
          rw [← natV_nums]
          exact SqL.of (s5 _ _ (R.row t (List.mem_filter.mp ht).1))
        · obtain ⟨fs, hfs⟩ : ∃ fs, ts.filter (fun t => !t.2.isEmpty) = fs := ⟨_, rfl⟩
          rw [hfs]
          have em : (fs.map fun t => (t.1, nums t.2)).mergeSort (fun x y => decide (x.2 ≤ y.2)) = (fs.mergeSort fun x y => decide (nums x.2 ≤ nums y.2)).map fun t => (t.1, nums t.2) := (List.map_mergeSort (f := fun t : Addr × List Nat => (t.1, nums t.2)) (r := fun x y => decide (nums x.2 ≤ nums y.2)) (s := fun x y => decide (x.2 ≤ y.2)) (fun a _ b _ => rfl)).symm
          rw [em, List.map_map]
          have pm := List.mergeSort_perm fs fun x y => decide (nums x.2 ≤ nums y.2)
          have back : ∀ t ∈ fs.mergeSort (fun x y => decide (nums x.2 ≤ nums y.2)), t ∈ ts := fun t ht => by
            have := pm.mem_iff.mp ht
            rw [← hfs] at this
            exact (List.mem_filter.mp this).1
          obtain ⟨H7, e7, s7, f7⟩ := gen H5 hp (.lst ((fs.mergeSort fun x y => decide (nums x.2 ≤ nums y.2)).map ((fun t : Addr × List Int => V.ref t.1) ∘ fun t => (t.1, nums t.2))))
          rw [e7]
          clear e7
          have s57 := s5.trans s7
          refine q p (fs.mergeSort fun x y => decide (nums x.2 ≤ nums y.2)) H7 (s1.trans s57) (s1.free (s5.free hp)) ⟨f7, fun t ht => s57 _ _ (R.row t (back t ht)), fun t ht => R.new t (back t ht)⟩ ?_ ?_
          · refine (pm.map _).trans ?_
            rw [← e1, ← hfs, List.filter_map]
            exact .refl _
          · have := List.pairwise_mergeSort (le := fun x y : Addr × List Nat => decide (nums x.2 ≤ nums y.2)) (fun a b c h1 h2 => decide_eq_true (List.le_trans (of_decide_eq_true h1) (of_decide_eq_true h2))) (fun a b => by
              rcases List.le_total (nums a.2) (nums b.2) with h | h
              · rw [decide_eq_true h]; rfl
              · rw [decide_eq_true h, Bool.or_true]) fs
            exact List.pairwise_map.mpr (this.imp fun h => of_decide_eq_true h)
end
end K6

namespace K6
open PySem PySem.Spec PyProof.Rows L2 GL
abbrev sCouples : Stmt := topS 35
abbrev sAlike : Stmt := topS 36
abbrev sPart2 : Stmt := topS 37
/-- the couples of n whose first one is below m, in order -/
def cplTo (n : Nat) : Nat → List (Nat × Nat)
  | 0 => []
  | m + 1 => cplTo n m ++ (List.range (n - (m + 1))).map fun j => (m, m + 1 + j)
theorem cpl_mem (n : Nat) : ∀ (m : Nat) (a b : Nat), (a, b) ∈ cplTo n m ↔ a < m ∧ a < b ∧ b < n
  | 0, a, b => by
    show (a, b) ∈ [] ↔ _
    simp
  | m + 1, a, b => by
    show (a, b) ∈ cplTo n m ++ (List.range (n - (m + 1))).map (fun j => (m, m + 1 + j)) ↔ _
    rw [List.mem_append, cpl_mem n m, List.mem_map]
    constructor
    · rintro (h | ⟨j, hj, e⟩)
      · omega
      · cases e
        have := List.mem_range.mp hj
        omega
    · intro h
      by_cases c : a < m
      · exact .inl (by omega)
      · refine .inr ⟨b - (m + 1), List.mem_range.mpr (by omega), ?_⟩
        have h1 : m = a := by omega
        have h2 : m + 1 + (b - (m + 1)) = b := by omega
        rw [h2, h1]
theorem cpl_len (n : Nat) : ∀ m, (cplTo n m).length ≤ m * n
  | 0 => Nat.zero_le _
  | m + 1 => by
    show (cplTo n m ++ (List.range (n - (m + 1))).map fun j => (m, m + 1 + j)).length ≤ _
    rw [List.length_append, List.length_map, List.length_range, Nat.succ_mul]
    have := cpl_len n m
    omega
/-- a list of couples, each a tuple at its place, new since H0 -/
structure Cpls (H0 H : Hp) (a : Addr) (ts : List (Addr × Nat × Nat)) : Prop where
  top : H a = some (.lst (ts.map fun t => V.ref t.1))
  row : ∀ t ∈ ts, H t.1 = some (.tup [.int (t.2.1 : Nat), .int (t.2.2 : Nat)])
  new : ∀ t ∈ ts, H0 t.1 = none
/-- two stand alike -/
def alikeB (kss : List (List Int)) (a b : Nat) : Bool := (List.range kss.length).all fun m => m == a || m == b || decide (tieN kss m a = tieN kss m b)
theorem inV_two (p a b : Nat) : inV (.int (p : Nat)) [.int (a : Nat), .int (b : Nat)] = (p == a || p == b) := by
  have := inV_nat [a, b] p
  unfold natV at this
  rw [List.map_cons, List.map_cons, List.map_nil] at this
  rw [this]
  by_cases h1 : p = a
  · subst h1
    simp
  · by_cases h2 : p = b
    · subst h2
      simp
    · simp [h1, h2]
theorem same_any (kss : List (List Int)) (p : Nat) (l : List Nat) (h : l ≠ []) : (∀ x ∈ l.map (tieN kss p), ∀ y ∈ l.map (tieN kss p), x = y) ↔ (l.any fun m => decide (tieN kss p m ≠ tieN kss p (l.headD 0))) = false := by
  cases l with
  | nil => exact absurd rfl h
  | cons a l =>
    rw [List.any_eq_false]
    constructor
    · intro g m hm
      have := g (tieN kss p m) (List.mem_map_of_mem hm) (tieN kss p a) (List.mem_map_of_mem (List.mem_cons_self ..))
      show ¬ decide (tieN kss p m ≠ tieN kss p a) = true
      rw [this]
      simp
    · intro g x hx y hy
      obtain ⟨m, hm, rfl⟩ := List.mem_map.mp hx
      obtain ⟨o, ho, rfl⟩ := List.mem_map.mp hy
      have e : ∀ z ∈ a :: l, tieN kss p z = tieN kss p a := fun z hz => by
        have := g z hz
        have t2 : ¬ decide (tieN kss p z ≠ tieN kss p a) = true := this
        simp at t2
        exact t2
      rw [e m hm, e o ho]
section
variable {P : Program} {w : World} {K : PySem.W.Frag} {mg : Str → Option Value} {base : Heap}
abbrev nCouples : List Str := ["_law_size", "_law_found", "_law_one", "_law_other"]
theorem scCouples : FnScope nCouples ["_law_size"] (defScope sCouples) := ⟨rfl, rfl, rfl, by decide +kernel, rfl, by decide +kernel, by decide +kernel⟩
def spCouples : Sp := fun vs H Q _ => ∃ n : Nat, vs = [.int n] ∧ n ≤ 100 ∧ ∀ (p : Addr) (ts : List (Addr × Nat × Nat)) (H' : Hp), Same H H' → H p = none → Cpls H H' p ts → ts.map (·.2) = cplTo n n → Q (.ref p) H'
theorem ok_couples {f : Addr} {fd : FuncData} (F : Fun K "_law_couples" "_law_couples" sCouples f fd) (T : Bi mg) : FnOk P w K mg base CX0 1 f fd ["_law_size"] spCouples := by
  refine F.ok scCouples (fun vs H Q E h => ?_) (fun cdv A outer s H vs Q E hr h => ?_)
  · obtain ⟨n, rfl, _⟩ := h
    rfl
  · obtain ⟨n, rfl, n100, q⟩ := h
    refine ⟨_, pss_cons (ps_set (i := 1) scCouples.nd rfl (Or.inl rfl) (pe_lst pa_nil))
      (pss_cons (ps_for PassesOwn.never rfl (pi_range1 (by rfl) T.range (pa_cons (pv 0) pa_nil)) (pg_name (i := 2) scCouples.nd rfl (Or.inr rfl))
        (pss_one (ps_set (i := 1) scCouples.nd rfl (Or.inl rfl) (pe_op op_cat (pv 1) (pe_lc (own := [("_law_other", 3)]) (g := gName 3) (tt := tYes) rfl scCouples.nd (pi_range2 (by rfl) T.range (pa_cons (pe_op op_add (pv 2) pe_int) (pa_cons (pv 0) pa_nil))) (blkOk_by (N := nCouples) (sc := defScope sCouples) (by decide +kernel))
          (fun _ _ _ _ _ => pg_name (i := 3) scCouples.nd rfl (Or.inl rfl)) (fun _ _ _ _ _ => pts_nil) (fun _ _ _ _ _ => by exact (pe_tup (pa_cons (pv 2) (pa_cons (pv 3) pa_nil)))))))))
      (pss_one (ps_ret (pv 1)))), ?_⟩
    refine ⟨Nat.zero_le _, fun f0 hf0 => ?_⟩
    have big : ∀ m, m ≤ 100 → m * n ≤ 10000 := fun m hm => Nat.mul_le_mul hm n100
    have szl : ∀ x, x ≤ 10200 → x < sizeLine := fun x hx => by rw [sizeLine_eq]; omega
    refine ⟨_, rfl, _, rfl, by omega, by omega, ?_⟩
    refine for_range (lo := 0) (n := (n : Int).toNat) (fun i σ H' => ∃ (a : Addr) (ts : List (Addr × Nat × Nat)) (pv : Option V), σ = [some (.int n), some (.ref a), pv, none] ∧ Same H H' ∧ H a = none ∧ Cpls H H' a ts ∧ ts.map (·.2) = cplTo n i)
      ⟨f0, [], none, rfl, same_new hf0, hf0, ⟨upd_same, by simp, by simp⟩, rfl⟩ ?_ ?_
    · rintro i σ H' hi ⟨a, ts, pv0, rfl, s1, ha, R, e1⟩
      have lts : ts.length ≤ i * n := by
        have := congrArg List.length e1
        rw [List.length_map] at this
        rw [this]
        exact cpl_len n i
      have b1 := big i (by omega)
      refine ⟨_, rfl, _, rfl, _, _, rfl, rfl, _, rfl, _, _, rfl, ⟨by omega, by omega, by omega, by omega⟩, fun D hD => ?_⟩
      have kn : ((n : Int) - (0 + (i : Int) + 1)).toNat = n - (i + 1) := by omega
      refine lc_it (walk_range (lo := 0 + (i : Int) + 1) (n := ((n : Int) - (0 + (i : Int) + 1)).toNat)) (fun j H5 => Same H' H5 ∧ ∃ us, Cpls H' H5 D us ∧ us.map (·.2) = (List.range j).map fun j => (i, i + 1 + j))
        ⟨same_new hD, [], ⟨upd_same, by simp, by simp⟩, rfl⟩ (fun _ _ _ _ => trivial) ?_ ?_
      · rintro j y H5 H6 hj ⟨s5, us, R5, e5⟩ ⟨rfl, rfl⟩
        refine ⟨rfl, yes_of ?_⟩
        refine ⟨_, rfl, _, rfl, (by show 2 ≤ sizeLine; decide), fun p hp => ?_⟩
        have ev : ([V.int (0 + (i : Int)), V.int (0 + (i : Int) + 1 + (j : Int))] : List V) = [V.int (i : Nat), V.int ((i + 1 + j : Nat) : Int)] := by
          rw [show (0 + (i : Int)) = (i : Int) by omega, show ((i : Int) + 1 + (j : Int)) = ((i + 1 + j : Nat) : Int) by omega]
        rw [ev]
        obtain ⟨H7, e7, s7, f7⟩ := gen H6 hp (.tup [V.int (i : Nat), V.int ((i + 1 + j : Nat) : Int)])
        rw [e7]
        clear e7
        have Dp : D ≠ p := ne_of_none R5.top hp
        refine ⟨_, s7 _ _ R5.top, ?_, fun b o e' => ?_, us ++ [(p, i, i + 1 + j)], ⟨?_, ?_, ?_⟩, ?_⟩
        · have lu : us.length = j := by
            have := congrArg List.length e5
            rw [List.length_map, List.length_map, List.length_range] at this
            exact this
          rw [List.length_map]
          exact small1000 (by omega)
        · rw [upd_ne (ne_of_none e' hD)]
          exact s7 b o (s5 b o e')
        · rw [upd_same, List.map_append]
          rfl
        · intro u hu
          rcases List.mem_append.mp hu with hu | hu
          · have h0 := R5.row u hu
            have uD : u.1 ≠ D := ne_of h0 R5.top (by intro z; cases z)
            rw [upd_ne uD]
            exact s7 _ _ h0
          · rw [List.mem_singleton] at hu
            subst hu
            show upd H7 D _ p = _
            rw [upd_ne Dp.symm]
            exact f7
        · intro u hu
          rcases List.mem_append.mp hu with hu | hu
          · exact R5.new u hu
          · rw [List.mem_singleton] at hu
            subst hu
            exact s5.free hp
        · rw [List.map_append, e5, List.range_succ, List.map_append]
          rfl
      · rintro H5 ⟨s5, us, R5, e5⟩
        rw [kn] at e5
        have lus : us.length ≤ n := by
          have := congrArg List.length e5
          rw [List.length_map, List.length_map, List.length_range] at this
          omega
        refine ⟨a, D, _, _, rfl, rfl, s5 _ _ R.top, R5.top, ?_, fun p hp => ?_⟩
        · rw [List.length_map, List.length_map]
          exact Nat.le_of_lt (szl _ (by omega))
        · obtain ⟨H6, e6, s6, f6⟩ := gen H5 hp (.lst ((ts.map fun t => V.ref t.1) ++ (us.map fun t => V.ref t.1)))
          rw [e6]
          clear e6
          refine ⟨p, ts ++ us, _, rfl, s1.trans (s5.trans s6), s1.free (s5.free hp), ⟨?_, ?_, ?_⟩, ?_⟩
          · rw [f6, List.map_append]
          · intro t ht
            rcases List.mem_append.mp ht with ht | ht
            · exact s6 _ _ (s5 _ _ (R.row t ht))
            · exact s6 _ _ (R5.row t ht)
          · intro t ht
            rcases List.mem_append.mp ht with ht | ht
            · exact R.new t ht
            · exact s1.free (R5.new t ht)
          · rw [List.map_append, e1, e5]
            rfl
    · rintro σ H' ⟨a, ts, pv0, rfl, s1, ha, R, e1⟩
      have nn : (n : Int).toNat = n := Int.toNat_natCast n
      rw [nn] at e1
      exact ⟨_, rfl, q a ts H' s1 ha R e1⟩
abbrev nAlike : List Str := ["_law_company_here", "_law_one", "_law_other", "_law_mate"]
theorem scAlike : FnScope nAlike ["_law_company_here", "_law_one", "_law_other"] (defScope sAlike) := ⟨rfl, rfl, rfl, by decide +kernel, rfl, by decide +kernel, by decide +kernel⟩
def spAlike : Sp := fun vs H Q _ => ∃ (c : Addr) (rs : List Addr) (kss : List (List Int)) (k : Int) (a b : Nat), vs = [.ref c, .int a, .int b] ∧ Tab H c rs kss ∧ Fine k kss ∧ kss.length ≤ 100 ∧ a < kss.length ∧ b < kss.length ∧ ∀ H', Same H H' → Q (.bl (alikeB kss a b)) H'
theorem ok_alike {f : Addr} {fd : FuncData} (F : Fun K "_law_alike" "_law_alike" sAlike f fd) (T : Bi mg) (UT : Use P w K mg base "_law_tie" ["_law_company_here", "_law_one", "_law_other"] spTie 1) : FnOk P w K mg base CX0 2 f fd ["_law_company_here", "_law_one", "_law_other"] spAlike := by
  refine F.ok scAlike (fun vs H Q E h => ?_) (fun cdv A outer s H vs Q E hr h => ?_)
  · obtain ⟨c, rs, kss, k, a, b, rfl, _⟩ := h
    rfl
  · obtain ⟨c, rs, kss, k, a, b, rfl, t, fine, n100, al, bl, q⟩ := h
    refine ⟨_, pss_cons (ps_for PassesOwn.never rfl (pi_range1 (by rfl) T.range (pa_cons (pe_callB call_len_seq (by rfl) T.len PySem.boot_len (pa_cons (pv 0) pa_nil)) pa_nil)) (pg_name (i := 3) scAlike.nd rfl (Or.inl rfl))
        (pss_one (ps_if (PW.pt (pw_and (pt_cmpR op_notIn_seq (pv 3) (pe_lst (pa_cons (pv 1) (pa_cons (pv 2) pa_nil))) (by rfl)) (pw_and1 (pt_cmpR op_ne (pe_use UT hr (by rfl) (pa_cons (pv 0) (pa_cons (pv 3) (pa_cons (pv 1) pa_nil)))) (pe_use UT hr (by rfl) (pa_cons (pv 0) (pa_cons (pv 3) (pa_cons (pv 2) pa_nil)))) (nomark _)))))
          (pss_one (ps_ret pe_bl)) pss_nil)))
      (pss_one (ps_ret pe_bl)), ?_⟩
    have lr : (rs.map V.ref).length = kss.length := by rw [List.length_map, t.len]
    refine ⟨_, rfl, c, _, rfl, .inl (SqL.of t.top), _, rfl, by omega, by omega, ?_⟩
    rw [lr]
    refine for_range (lo := 0) (n := (kss.length : Int).toNat) (fun i σ H' => ∃ m : Option V, σ = [some (.ref c), some (.int a), some (.int b), m] ∧ Same H H' ∧ ∀ j, j < i → (j == a || j == b || decide (tieN kss j a = tieN kss j b)) = true)
      ⟨none, rfl, Same.refl _, fun j hj => absurd hj (Nat.not_lt_zero j)⟩ ?_ ?_
    · rintro i σ H' hi ⟨m, rfl, s1, yes⟩
      have il : i < kss.length := by omega
      have next : ∀ H', Same H H' → (i == a || i == b || decide (tieN kss i a = tieN kss i b)) = true → ∃ m : Option V, [some (.ref c), some (.int a), some (.int b), some (.int (0 + (i : Int)))] = [some (.ref c), some (.int a), some (.int b), m] ∧ Same H H' ∧ ∀ j, j < i + 1 → (j == a || j == b || decide (tieN kss j a = tieN kss j b)) = true := fun H' s' z =>
        ⟨_, rfl, s', fun p hp => by
          by_cases c : p = i
          · subst c
            exact z
          · exact yes p (by omega)⟩
      have i0 : (0 + (i : Int)) = (i : Int) := Int.zero_add _
      refine ⟨_, rfl, _, rfl, _, rfl, (by show 2 ≤ sizeLine; decide), fun l hl => ?_⟩
      obtain ⟨H2, e2, s2, f2⟩ := gen H' hl (.lst [.int (a : Nat), .int (b : Nat)])
      rw [e2]
      clear e2
      have s12 := s1.trans s2
      refine ⟨l, _, rfl, .inl (SqL.of f2), rfl, rfl, _, rfl, ?_⟩
      show ite ((!inV (.int (0 + (i : Int))) [.int (a : Nat), .int (b : Nat)]) = true) _ _
      rw [i0, inV_two]
      cases h2 : (i == a || i == b) with
      | true =>
        refine iteF (iteF ?_)
        have := next H2 s12 (by rw [h2]; rfl)
        rw [i0] at this
        exact this
      | false =>
        have ne : i ≠ a ∧ i ≠ b := by
          rw [Bool.or_eq_false_iff] at h2
          exact ⟨fun z => by simp [z] at h2, fun z => by simp [z] at h2⟩
        refine iteT ⟨_, rfl, _, rfl, _, rfl, c, rs, kss, k, i, a, rfl, t.same s12, fine, il, al, ne.1, ?_⟩
        refine ⟨_, rfl, _, rfl, _, rfl, c, rs, kss, k, i, b, rfl, t.same s12, fine, il, bl, ne.2, rfl, _, rfl, ?_⟩
        by_cases c3 : tieN kss i a = tieN kss i b
        · rw [c3]
          refine iteNS (by simp) ?_
          have := next H2 s12 (by rw [h2, c3]; simp)
          rw [i0] at this
          exact this
        · have ef : alikeB kss a b = false := by
            cases h : alikeB kss a b with
            | false => rfl
            | true =>
              have := List.all_eq_true.mp h i (List.mem_range.mpr il)
              rw [h2] at this
              simp [c3] at this
          rw [ef] at q
          exact ite2 (fun _ => q H2 s12) (fun z => (z (by simp [c3])).elim)
    · rintro σ H' ⟨m, rfl, s1, yes⟩
      have ea : alikeB kss a b = true := by
        unfold alikeB
        exact List.all_eq_true.mpr fun j hj => yes j (by have := List.mem_range.mp hj; omega)
      rw [ea] at q
      exact q H' s1
abbrev nPart2 : List Str := ["_law_company_here", "_law_lot", "_law_person", "_law_mate"]
theorem scPart2 : FnScope nPart2 ["_law_company_here", "_law_lot"] (defScope sPart2) := ⟨rfl, rfl, rfl, by decide +kernel, rfl, by decide +kernel, by decide +kernel⟩
def spPart2 : Sp := fun vs H Q _ => ∃ (c o : Addr) (rs : List Addr) (kss : List (List Int)) (k : Int) (l : List Nat), vs = [.ref c, .ref o] ∧ Tab H c rs kss ∧ Fine k kss ∧ kss.length ≤ 100 ∧ H o = some (.lst (natV l)) ∧ Lot kss.length l ∧ ∀ H', Same H H' → Q (optV (partingOf kss l)) H'
theorem ok_part2 {f : Addr} {fd : FuncData} (F : Fun K "_law_parting" "_law_parting" sPart2 f fd) (T : Bi mg) (UT : Use P w K mg base "_law_tie" ["_law_company_here", "_law_one", "_law_other"] spTie 1) : FnOk P w K mg base CX0 2 f fd ["_law_company_here", "_law_lot"] spPart2 := by
  refine F.ok scPart2 (fun vs H Q E h => ?_) (fun cdv A outer s H vs Q E hr h => ?_)
  · obtain ⟨c, o, rs, kss, k, l, rfl, _⟩ := h
    rfl
  · obtain ⟨c, o, rs, kss, k, l, rfl, t, fine, n100, ho, lot, q⟩ := h
    refine ⟨_, pss_cons (ps_for PassesOwn.never rfl (pi_range1 (by rfl) T.range (pa_cons (pe_callB call_len_seq (by rfl) T.len PySem.boot_len (pa_cons (pv 0) pa_nil)) pa_nil)) (pg_name (i := 2) scPart2.nd rfl (Or.inr rfl))
        (pss_one (ps_if (pt_cmpR op_notIn_seq (pv 2) (pv 1) (by rfl))
          (pss_one (ps_if (pt_cmpR op_gt (pe_lenSetV (by rfl) T.len (by rfl) T.set
              (pe_lc (own := [("_law_mate", 3)]) (g := gName 3) (tt := tYes) rfl scPart2.nd (pi_list (pv 1)) (blkOk_by (N := nPart2) (sc := defScope sPart2) (by decide +kernel)) (fun _ _ _ _ _ => pg_name (i := 3) scPart2.nd rfl (Or.inl rfl)) (fun _ _ _ _ _ => pts_nil)
                (fun _ _ _ _ _ => pe_use UT hr (by rfl) (pa_cons (pv 0) (pa_cons (pv 2) (pa_cons (pv 3) pa_nil)))))) pe_int (nomark _))
            (pss_one (ps_ret (pv 2))) pss_nil)) pss_nil)))
      (pss_one (ps_ret pe_non)), ?_⟩
    have lr : (rs.map V.ref).length = kss.length := by rw [List.length_map, t.len]
    obtain ⟨l1, l2⟩ := lot.len
    refine ⟨_, rfl, c, _, rfl, .inl (SqL.of t.top), _, rfl, by omega, by omega, ?_⟩
    rw [lr]
    refine for_range (lo := 0) (n := (kss.length : Int).toNat) (fun i σ H' => ∃ m : Option V, σ = [some (.ref c), some (.ref o), m, none] ∧ Same H H' ∧ ∀ j, j < i → partsB kss l j = false)
      ⟨none, rfl, Same.refl _, fun j hj => absurd hj (Nat.not_lt_zero j)⟩ ?_ ?_
    · rintro i σ H' hi ⟨m, rfl, s1, no⟩
      have il : i < kss.length := by omega
      have i0 : (0 + (i : Int)) = (i : Int) := Int.zero_add _
      have next : ∀ H', Same H H' → partsB kss l i = false → ∃ m : Option V, [some (.ref c), some (.ref o), some (.int (i : Int)), none] = [some (.ref c), some (.ref o), m, none] ∧ Same H H' ∧ ∀ j, j < i + 1 → partsB kss l j = false := fun H' s' z =>
        ⟨_, rfl, s', fun p hp => by
          by_cases c : p = i
          · subst c
            exact z
          · exact no p (by omega)⟩
      refine ⟨_, rfl, _, rfl, o, _, rfl, .inl (SqL.of (s1 _ _ ho)), rfl, flat_nat l, _, rfl, ?_⟩
      rw [i0]
      show ite ((!inV (.int (i : Nat)) (natV l)) = true) _ _
      rw [inV_nat]
      by_cases c1 : i ∈ l
      · rw [decide_eq_true c1]
        refine iteF ?_
        exact next _ s1 (by unfold partsB; rw [decide_eq_false (fun z => z c1)]; rfl)
      · rw [decide_eq_false c1]
        refine iteT ⟨_, rfl, o, rfl, ⟨_, SqL.of (s1 _ _ ho)⟩, fun D hD => ?_⟩
        refine lc_list (K := K) (a := o) (xs := natV l) (fun j H5 => Same H' H5 ∧ H5 D = some (.lst (((l.take j).map (tieN kss i)).map V.int))) ⟨same_new hD, upd_same⟩ (fun j H5 _ z => SqL.of (z.1 _ _ (s1 _ _ ho))) ?_ ?_
        · rintro j y H5 hj ⟨s5, h5⟩
          unfold natV at hj
          rw [List.getElem?_map] at hj
          cases e : l[j]? with
          | none =>
            rw [e] at hj
            cases hj
          | some x =>
            rw [e] at hj
            cases hj
            have jl := (List.getElem?_eq_some_iff.mp e).1
            have xl := lot.low x (List.mem_of_getElem? e)
            have xi : i ≠ x := fun z => c1 (by rw [z]; exact List.mem_of_getElem? e)
            refine ⟨rfl, yes_of ?_⟩
            refine ⟨_, rfl, _, rfl, _, rfl, c, rs, kss, k, i, x, rfl, (t.same s1).same s5, fine, il, xl, xi, _, h5, ?_, ?_, ?_⟩
            · rw [List.length_map, List.length_map, List.length_take]
              exact small1000 (by omega)
            · intro b o' e'
              rw [upd_ne (ne_of_none e' hD)]
              exact s5 b o' e'
            · rw [upd_same, take_more (tieN kss i) e, List.map_append]
              rfl
        · rintro H5 ⟨s5, h5⟩
          have lx : (natV l).length = l.length := List.length_map _
          rw [lx, List.take_length] at h5
          have s15 := s1.trans s5
          refine ⟨D, l.map (tieN kss i), rfl, SqL.of h5, by rw [List.length_map]; omega, fun n hn => ⟨_, _, rfl, rfl, _, rfl, ?_⟩⟩
          rw [same_any kss i l lot.some] at hn
          have pe : partsB kss l i = l.any fun m => decide (tieN kss i m ≠ tieN kss i (l.headD 0)) := by
            unfold partsB
            rw [decide_eq_true c1]
            rfl
          rw [← pe] at hn
          cases pb : partsB kss l i with
          | true =>
            have n1 : 1 < n := by
              rcases Nat.lt_or_ge 1 n with h | h
              · exact h
              · rw [hn.mp h] at pb
                cases pb
            rw [decide_eq_true (by omega : (n : Int) > 1)]
            refine iteT ⟨_, rfl, ?_⟩
            have e5 : partingOf kss l = some i := find_some il no pb
            rw [e5] at q
            exact q H5 s15
          | false =>
            have n1 := hn.mpr pb
            rw [decide_eq_false (by omega : ¬ (n : Int) > 1)]
            refine iteF ?_
            exact next _ s15 pb
    · rintro σ H1 ⟨m, rfl, s1, no⟩
      have e5 : partingOf kss l = none := find_none fun p hp => no p (by omega)
      rw [e5] at q
      exact q H1 s1
end
end K6

namespace K6
open PySem PySem.Spec PyProof.Rows L2 GL
/-! ### what is true of houses -/
def IsH (kss : List (List Int)) (l : List Nat) : Prop := ∀ p, p < kss.length → p ∉ l → ∀ m ∈ l, ∀ o ∈ l, tieN kss p m = tieN kss p o
theorem house_iff {kss : List (List Int)} {l : List Nat} (h : l ≠ []) : houseB kss l = true ↔ IsH kss l := by
  unfold houseB
  rw [Option.isNone_iff_eq_none]
  unfold partingOf
  rw [List.find?_eq_none]
  constructor
  · intro g p hp np m hm o ho
    have := g p (List.mem_range.mpr hp)
    unfold partsB at this
    rw [decide_eq_true np, Bool.true_and, Bool.not_eq_true, ← same_any kss p l h] at this
    exact this _ (List.mem_map_of_mem hm) _ (List.mem_map_of_mem ho)
  · intro g p hp
    have hp' := List.mem_range.mp hp
    unfold partsB
    by_cases c : p ∈ l
    · rw [decide_eq_false (fun z => z c)]
      simp
    · rw [decide_eq_true c, Bool.true_and, Bool.not_eq_true, ← same_any kss p l h]
      intro x hx y hy
      obtain ⟨m, hm, rfl⟩ := List.mem_map.mp hx
      obtain ⟨o, ho, rfl⟩ := List.mem_map.mp hy
      exact g p hp' c m hm o ho
/-- who is in both, who is in the first one alone -/
def meet (l m : List Nat) : List Nat := l.filter fun p => decide (p ∈ m)
def less (l m : List Nat) : List Nat := l.filter fun p => !decide (p ∈ m)
theorem mem_meet {l m : List Nat} {p : Nat} : p ∈ meet l m ↔ p ∈ l ∧ p ∈ m := by
  unfold meet
  rw [List.mem_filter, decide_eq_true_eq]
theorem mem_less {l m : List Nat} {p : Nat} : p ∈ less l m ↔ p ∈ l ∧ p ∉ m := by
  unfold less
  rw [List.mem_filter, Bool.not_eq_true', decide_eq_false_iff_not]
theorem Lot.sub {n : Nat} {l : List Nat} (h : Lot n l) (f : Nat → Bool) (g : l.filter f ≠ []) : Lot n (l.filter f) := ⟨g, h.up.sublist List.filter_sublist, fun p hp => h.low p (List.mem_filter.mp hp).1⟩
theorem IsH.meet {kss : List (List Int)} {l m : List Nat} (h1 : IsH kss l) (h2 : IsH kss m) : IsH kss (meet l m) := by
  intro p hp np a ha b hb
  have ha' := mem_meet.mp ha
  have hb' := mem_meet.mp hb
  by_cases c : p ∈ l
  · have c2 : p ∉ m := fun z => np (mem_meet.mpr ⟨c, z⟩)
    exact h2 p hp c2 a ha'.2 b hb'.2
  · exact h1 p hp c a ha'.1 b hb'.1
theorem IsH.join {kss : List (List Int)} {l m u : List Nat} (h1 : IsH kss l) (h2 : IsH kss m) (hu : ∀ p, p ∈ u ↔ p ∈ m ∨ p ∈ l) {z : Nat} (z1 : z ∈ l) (z2 : z ∈ m) : IsH kss u := by
  intro p hp np a ha b hb
  have n1 : p ∉ l := fun z => np ((hu p).mpr (.inr z))
  have n2 : p ∉ m := fun z => np ((hu p).mpr (.inl z))
  have e : ∀ x ∈ u, tieN kss p x = tieN kss p z := fun x hx => by
    rcases (hu x).mp hx with hx | hx
    · exact h2 p hp n2 x hx z z2
    · exact h1 p hp n1 x hx z z1
  rw [e a ha, e b hb]
theorem IsH.less {kss : List (List Int)} {l m : List Nat} (h1 : IsH kss l) (h2 : IsH kss m) (bl : ∀ p ∈ l, p < kss.length) (bm : ∀ p ∈ m, p < kss.length) {z : Nat} (z1 : z ∈ m) (z2 : z ∉ l) : IsH kss (less l m) := by
  intro p hp np a ha b hb
  obtain ⟨a1, a2⟩ := mem_less.mp ha
  obtain ⟨b1, b2⟩ := mem_less.mp hb
  by_cases c : p ∈ l
  · have c2 : p ∈ m := by
      by_cases c3 : p ∈ m
      · exact c3
      · exact (np (mem_less.mpr ⟨c, c3⟩)).elim
    have e : ∀ x, x ∈ l → x ∉ m → tieN kss p x = tieN kss z x := fun x x1 x2 => by
      rw [tieN_comm kss p x, tieN_comm kss z x]
      exact h2 x (bl x x1) x2 p c2 z z1
    rw [e a a1 a2, e b b1 b2]
    exact h1 z (bm z z1) z2 a a1 b b1
  · exact h1 p hp c a a1 b b1
theorem nodup_up {l : List Nat} (h : l.Pairwise (· < ·)) : l.Nodup := h.imp fun x => Nat.ne_of_lt x
theorem nodup_le : ∀ {m l : List Nat}, m.Nodup → (∀ z ∈ m, z ∈ l) → m.length ≤ l.length
  | [], _, _, _ => Nat.zero_le _
  | a :: m, l, h, s => by
    obtain ⟨h1, h2⟩ := List.nodup_cons.mp h
    have hl := s a (List.mem_cons_self ..)
    have := nodup_le (l := l.erase a) h2 fun z hz => (List.mem_erase_of_ne fun e => h1 (by rw [← e]; exact hz)).mpr (s z (List.mem_cons_of_mem _ hz))
    rw [List.length_erase_of_mem hl] at this
    have := List.length_pos_of_mem hl
    rw [List.length_cons]
    omega
/-- somebody of m isn't in l, when fewer than all of m are in both -/
theorem out_of {l m : List Nat} (hl : l.Nodup) (hm : m.Nodup) (h : (meet l m).length < m.length) : ∃ z ∈ m, z ∉ l := by
  apply Classical.byContradiction
  intro c
  have all : ∀ z ∈ m, z ∈ l := fun z hz => by
    apply Classical.byContradiction
    intro g
    exact c ⟨z, hz, g⟩
  have := nodup_le (l := meet l m) hm fun z hz => mem_meet.mpr ⟨all z hz, hz⟩
  omega
theorem nums_map (l : List Nat) : (nums l).map Int.toNat = l := by
  unfold nums
  rw [List.map_map]
  exact List.map_id'' (fun x => Int.toNat_natCast x) l
theorem sorted_back {u : List Nat} {ns : List Int} (pm : ns.Perm (nums u)) (so : ns.Pairwise (· ≤ ·)) (nd : u.Nodup) : ∃ v : List Nat, ns = nums v ∧ v.Perm u ∧ v.Pairwise (· < ·) := by
  have pos : ∀ z ∈ ns, 0 ≤ z := fun z hz => by
    obtain ⟨j, _, rfl⟩ := List.mem_map.mp (pm.mem_iff.mp hz)
    omega
  have p2 : (ns.map Int.toNat).Perm u := by
    have := pm.map Int.toNat
    rwa [nums_map] at this
  refine ⟨ns.map Int.toNat, ?_, p2, ?_⟩
  · unfold nums
    rw [List.map_map]
    conv => lhs; rw [← List.map_id ns]
    exact List.map_congr_left fun z hz => by
      have := pos z hz
      show z = ((z.toNat : Nat) : Int)
      omega
  · have nd2 : (ns.map Int.toNat).Nodup := p2.nodup_iff.mpr nd
    have le : (ns.map Int.toNat).Pairwise (· ≤ ·) := List.pairwise_map.mpr (so.imp fun h => by omega)
    exact (List.pairwise_and_iff.mpr ⟨le, nd2⟩).imp fun ⟨a, b⟩ => by omega
theorem house_alike {kss : List (List Int)} {a b : Nat} (ha : a < kss.length) (hb : b < kss.length) : houseB kss [a, b] = alikeB kss a b := by
  rw [Bool.eq_iff_iff, house_iff (by simp)]
  unfold alikeB
  rw [List.all_eq_true]
  constructor
  · intro h m hm
    by_cases c : m = a ∨ m = b
    · rcases c with rfl | rfl <;> simp
    · have np : m ∉ [a, b] := by simpa using c
      have := h m (List.mem_range.mp hm) np a (by simp) b (by simp)
      simp [this]
  · intro h p hp np m hm o ho
    have np' : ¬ (p = a ∨ p = b) := by simpa using np
    have := h p (List.mem_range.mpr hp)
    have e : tieN kss p a = tieN kss p b := by
      have h1 : (p == a) = false := by simp; exact fun z => np' (.inl z)
      have h2 : (p == b) = false := by simp; exact fun z => np' (.inr z)
      rw [h1, h2] at this
      simpa using this
    have f : ∀ x ∈ [a, b], tieN kss p x = tieN kss p a := fun x hx => by
      rcases (by simpa using hx : x = a ∨ x = b) with rfl | rfl
      · rfl
      · exact e.symm
    rw [f m hm, f o ho]
theorem house_all (kss : List (List Int)) (h : 1 ≤ kss.length) : Lot kss.length (List.range kss.length) ∧ houseB kss (List.range kss.length) = true := by
  have ne : List.range kss.length ≠ [] := fun z => by
    have := congrArg List.length z
    rw [List.length_range] at this
    have e0 : ([] : List Nat).length = 0 := rfl
    omega
  exact ⟨⟨ne, List.pairwise_lt_range, fun p hp => List.mem_range.mp hp⟩, (house_iff ne).mpr fun p hp np => absurd (List.mem_range.mpr hp) np⟩
end K6

namespace K6
open PySem PySem.Spec PyProof.Rows L2 GL
abbrev sLotRight : Stmt := topS 38
/-- a company and a lot, as data -/
def pairP (kss : List (List Int)) (l : List Nat) : PyData := .list [tabP kss, rowP (nums l)]
theorem lay_tab (kss : List (List Int)) : PyData.canLay0 (tabP kss) = true := by
  unfold tabP
  simp only [PyData.canLay0]
  exact lay_rows kss
theorem lay_pair (kss : List (List Int)) (l : List Nat) : PyData.canLay0 (pairP kss l) = true := by
  unfold pairP
  simp only [PyData.canLay0, PyData.canLayAll0]
  rw [lay_tab, lay_row]
  rfl
theorem shaped_pair (kss : List (List Int)) (l : List Nat) : SeqAt.shaped (pairP kss l) = true := by
  have d : (pairP kss l).depth ≤ 3 := by
    unfold pairP
    simp only [PyData.depth, PyData.depthAll]
    have := depth_rows kss
    have := depth_row (nums l)
    omega
  unfold SeqAt.shaped
  rw [lay_pair, decide_eq_true (Nat.le_trans d (by decide))]
  rfl
theorem eqv_pair (kss : List (List Int)) (l : List Nat) : PyData.eqv (pairP kss l) (pairP kss l) = true := SeqAt.eqv_refl _ (lay_pair kss l)
theorem Tab.dp {K : PySem.W.Frag} {H : Hp} {c : Addr} {rs : List Addr} {kss : List (List Int)} (t : Tab H c rs kss) : Dp K H (.ref c) (tabP kss) := .lst (SqL.of t.top) (dpAll_rows t.len fun i r ks a b => SqL.of (t.row i r ks a b))
theorem nat_dp {K : PySem.W.Frag} {H : Hp} {o : Addr} {l : List Nat} (h : H o = some (.lst (natV l))) : Dp K H (.ref o) (rowP (nums l)) := dp_row (SqL.of (by rw [← natV_nums]; exact h))
section
variable {P : Program} {w : World} {K : PySem.W.Frag} {mg : Str → Option Value} {base : Heap}
abbrev nLotRight : List Str := ["_law_kinds", "_law_company_here", "_law_lot", "_law_handed", "_law_due"]
theorem scLotRight : FnScope nLotRight ["_law_kinds", "_law_company_here", "_law_lot"] (defScope sLotRight) := ⟨rfl, rfl, rfl, by decide +kernel, rfl, by decide +kernel, by decide +kernel⟩
def spLotRight : Sp := fun vs H Q _ => ∃ (kss : List (List Int)) (l : List Nat), Asked H vs kss l ∧ ∀ H', Same H H' → Q (.bl true) H'
/-- parting_person, called by its names -/
def UseKw (P : Program) (w : World) (K : PySem.W.Frag) (mg : Str → Option Value) (base : Heap) : Prop := ∃ f fd, FnOk P w K mg base CX0 6 f fd ["kinds", "company", "lot"] spPart ∧ mg "parting_person" = some (.ref f) ∧ PySem.W.keepIn K (.ref f) = true ∧ KBinds K fd ["kinds", "company", "lot"] ["lot", "company", "kinds"] gK gKV
theorem ok_lotRight {f : Addr} {fd : FuncData} (F : Fun K "_law_lot_right" "_law_lot_right" sLotRight f fd) (T : Bi mg) (UK : Use P w K mg base "_law_kept" ["_law_company_here"] spKept 1) (UP : Use P w K mg base "_law_parting" ["_law_company_here", "_law_lot"] spPart2 2)
    (US : UseG P w K mg base "_law_same" ["_law_told", "_law_due"] (spSame K) 1) (UH : Use P w K mg base "is_house" ["kinds", "company", "lot"] spHouse 6) (UW : UseKw P w K mg base) : FnG P w K mg base CX0 7 f fd ["_law_kinds", "_law_company_here", "_law_lot"] spLotRight := by
  obtain ⟨fk, fdk, FK, mk, kk, bk⟩ := UW
  refine FnG.mk' F scLotRight (fun vs H Q E h => ?_) (fun cdv A outer s H vs Q E hgd hr h => ?_)
  · obtain ⟨kss, l, a, _⟩ := h
    obtain ⟨k, c, o, rs, rfl, _⟩ := a.ex
    rfl
  · obtain ⟨kss, l, a, q⟩ := h
    obtain ⟨k, c, o, rs, rfl, k2, k9, t, fine, ho⟩ := a.ex
    have hr1 : Room 1 (A.deeper (envOfC "_law_lot_right" (defScope sLotRight) s.heap.objs.size f cdv)) := hr.mono (by decide)
    have hr2 : Room 2 (A.deeper (envOfC "_law_lot_right" (defScope sLotRight) s.heap.objs.size f cdv)) := hr.mono (by decide)
    have hgd' : (A.deeper (envOfC "_law_lot_right" (defScope sLotRight) s.heap.objs.size f cdv)).guards = some [] := hgd
    refine ⟨_, pss_cons (ps_set (i := 3) scLotRight.nd rfl (Or.inl rfl) (pe_lst (pa_cons (pe_use UK hr1 (by rfl) (pa_cons (pv 1) pa_nil)) (pa_cons (pe_callTy call_lstL (by rfl) T.list PyProof.Rows.boot_list (pa_cons (pv 2) pa_nil)) pa_nil))))
      (pss_cons (ps_set (i := 4) scLotRight.nd rfl (Or.inl rfl) (pe_use UP hr2 (by rfl) (pa_cons (pv 1) (pa_cons (pv 2) pa_nil))))
      (pss_cons (ps_if (pt_not (pt_val (pe_useG US hgd' hr1 (by rfl) (pa_cons (pe_use UH hr (by rfl) (pa_cons (pv 0) (pa_cons (pe_ix ix_list (pv 3) pe_int (fun _ _ => rfl)) (pa_cons (pe_ix ix_list (pv 3) pe_int (fun _ _ => rfl)) pa_nil))))
          (pa_cons (pe_cmpR op_isN (pv 4) pe_non (nomark _)) pa_nil))))) (pss_one (ps_ret pe_bl)) pss_nil)
      (pss_cons (ps_if (pt_not (pt_val (pe_useG US hgd' hr1 (by rfl) (pa_cons (pe_kws FK hr (by rfl) mk kk bk pass0 (pk_cons (pe_ix ix_list (pv 3) pe_int (fun _ _ => rfl)) (pk_cons (pe_ix ix_list (pv 3) pe_int (fun _ _ => rfl)) (pk_cons (pv 0) pk_nil)))) (pa_cons (pv 4) pa_nil)))))
          (pss_one (ps_ret pe_bl)) pss_nil)
      (pss_one (ps_ret (pe_cmpR (op_eqD hr.units) (pv 3) (pe_lst (pa_cons (pv 1) (pa_cons (pv 2) pa_nil))) (nomark _))))))), ?_⟩
    have l100 : kss.length ≤ 100 := by have := a.most; omega
    refine ⟨_, rfl, _, _, _, rfl, t, l100, fun p ps H1 s1 u np hp0 hn0 => ?_⟩
    refine ⟨_, rfl, o, _, rfl, SqL.of (s1 _ _ ho), fun l2 hl2 => ?_⟩
    obtain ⟨H2, e2, s2, f2⟩ := gen H1 hl2 (.lst (natV l))
    rw [e2]
    clear e2
    refine ⟨(by show 2 ≤ sizeLine; decide), fun hd hhd => ?_⟩
    obtain ⟨H3, e3, s3, f3⟩ := gen H2 hhd (.lst [.ref p, .ref l2])
    rw [e3]
    clear e3
    have s13 := s1.trans (s2.trans s3)
    have u3 := (u.same s2).same s3
    have f23 := s3 _ _ f2
    refine ⟨_, rfl, _, rfl, c, o, rs, kss, k, l, rfl, t.same s13, fine, l100, s13 _ _ ho, a.lot, fun H4 s4 => ?_⟩
    have u4 := u3.same s4
    have f4 := s4 _ _ f23
    have h4 := s4 _ _ f3
    have at0 : atI [V.ref p, V.ref l2] 0 = some (.ref p) := rfl
    have at1 : atI [V.ref p, V.ref l2] 1 = some (.ref l2) := rfl
    refine ⟨_, rfl, _, rfl, hd, _, _, _, rfl, rfl, SqL.of h4, at0, _, rfl, hd, _, _, _, rfl, rfl, SqL.of h4, at1, kss, l, ⟨⟨k, p, l2, ps, rfl, k2, k9, u4, fine, f4⟩, a.one, a.most, a.lot⟩, fun H5 s5 => ?_⟩
    refine ⟨_, rfl, rfl, ?_⟩
    rw [opt_non]
    refine ⟨.bl (houseB kss l), .bl (houseB kss l), .bool (houseB kss l), rfl, .bl _, .bl _, Nice.leaf trivial, _, rfl, iteF ?_⟩
    have u5 := u4.same s5
    have f5 := s5 _ _ f4
    have h5 := s5 _ _ h4
    refine ⟨_, rfl, hd, _, _, _, rfl, rfl, SqL.of h5, at1, _, rfl, hd, _, _, _, rfl, rfl, SqL.of h5, at0, _, rfl, kss, l, ⟨⟨k, p, l2, ps, rfl, k2, k9, u5, fine, f5⟩, a.one, a.most, a.lot⟩, fun H6 s6 => ?_⟩
    have od : ∀ H : Hp, Dt K H (optV (partingOf kss l)) (match partingOf kss l with | none => .none | some p => .int (p : Nat)) ∧ Nice 3 (match partingOf kss l with | none => .none | some p => .int (p : Nat)) := fun H => by
      cases e : partingOf kss l with
      | none => exact ⟨.non, Nice.leaf trivial⟩
      | some p =>
        have : p < kss.length := by
          have := List.mem_of_find?_eq_some e
          exact List.mem_range.mp this
        exact ⟨.int _, Nice.leaf (by show ((p : Nat) : Int).natAbs < 2 ^ 100; have := a.most; omega)⟩
    refine ⟨_, rfl, _, _, _, rfl, (od H6).1, (od H6).1, (od H6).2, _, rfl, iteF ?_⟩
    have s16 := s13.trans (s4.trans (s5.trans s6))
    refine ⟨_, rfl, _, rfl, _, rfl, (by show 2 ≤ sizeLine; decide), fun z hz => ?_⟩
    obtain ⟨H7, e7, s7, f7⟩ := gen H6 hz (.lst [.ref c, .ref o])
    rw [e7]
    clear e7
    have s17 := s16.trans s7
    refine ⟨pairP kss l, pairP kss l, .lst (SqL.of (s7 _ _ (s6 _ _ h5))) (.cons ((u5.same s6).same s7).dp (.cons (nat_dp (s7 _ _ (s6 _ _ f5))) .nil)), .lst (SqL.of f7) (.cons (t.same s17).dp (.cons (nat_dp (s17 _ _ ho)) .nil)), shaped_pair kss l, shaped_pair kss l, ?_⟩
    rw [eqv_pair]
    exact q _ s17
end
end K6

namespace K6
open PySem PySem.Spec PyProof.Rows L2 GL
abbrev sRight : Stmt := topS 39
def fst (t : Addr × List Nat) : V := .ref t.1
/-- the houses among the lots -/
def homes (kss : List (List Int)) (ts : List (Addr × List Nat)) : List (Addr × List Nat) := ts.filter fun t => houseB kss t.2
theorem homes_more {kss : List (List Int)} {ts : List (Addr × List Nat)} {j : Nat} {u : Addr × List Nat} (e : ts[j]? = some u) : homes kss (ts.take (j + 1)) = homes kss (ts.take j) ++ (if houseB kss u.2 then [u] else []) := by
  unfold homes
  rw [List.take_add_one, e, List.filter_append]
  congr 1
  show [u].filter _ = _
  cases c : houseB kss u.2 <;> simp [c]
theorem rows_dp {K : PySem.W.Frag} {H0 H : Hp} {a : Addr} {ts : List (Addr × List Nat)} (r : Rows H0 H a ts) : Dp K H (.ref a) (tabP (ts.map fun t => nums t.2)) := by
  have : tabP (ts.map fun t => nums t.2) = .list ((ts.map fun t => nums t.2).map rowP) := rfl
  rw [this]
  refine .lst (SqL.of r.top) ?_
  have g : ∀ us : List (Addr × List Nat), (∀ t ∈ us, H t.1 = some (.lst (natV t.2))) → DpAll K H (us.map fun t => V.ref t.1) ((us.map fun t => nums t.2).map rowP) := fun us => by
    induction us with
    | nil => exact fun _ => .nil
    | cons u us ih => exact fun h => .cons (nat_dp (h u (List.mem_cons_self ..))) (ih fun t ht => h t (List.mem_cons_of_mem _ ht))
  exact g ts r.row
theorem in_rows {ts : List (Addr × List Nat)} {l : List Nat} (h : ∃ t ∈ ts, t.2 = l) : (((ts.map fun t => nums t.2).map rowP).any fun z => PyData.eqv z (rowP (nums l))) = true := by
  rw [any_row, decide_eq_true_eq, List.mem_map]
  obtain ⟨t, ht, rfl⟩ := h
  exact ⟨t, ht, rfl⟩
theorem Rows.but {H0 H H' : Hp} {a g : Addr} {n : Nat} {ts : List (Addr × List Nat)} (r : Rows H0 H a ts) (b : But g H H') (G : Gen H0 g n) (ag : a ≠ g) : Rows H0 H' a ts := ⟨b _ _ r.top ag, fun t ht => b _ _ (r.row t ht) (G.ne (r.new t ht)).symm, r.new⟩
theorem filter_more {f : Nat → Bool} {l : List Nat} {i p : Nat} (h : l[i]? = some p) : (l.take (i + 1)).filter f = (l.take i).filter f ++ (if f p then [p] else []) := by
  rw [List.take_add_one, h, List.filter_append]
  show _ ++ [p].filter f = _
  cases c : f p with
  | true => rw [List.filter_cons_of_pos c]; rfl
  | false => rw [List.filter_cons_of_neg (by rw [c]; decide)]; rfl
section
variable {P : Program} {w : World} {K : PySem.W.Frag} {mg : Str → Option Value} {base : Heap}
abbrev nRight : List Str := ["_law_generator_here", "_law_kinds", "_law_company_here", "_law_lots_here", "_law_lot", "_law_told", "_law_turn", "_law_one", "_law_other", "_law_shared", "_law_person", "_law_rest"]
theorem scRight : FnScope nRight ["_law_generator_here"] (defScope sRight) := ⟨rfl, rfl, rfl, by decide +kernel, rfl, by decide +kernel, by decide +kernel⟩
def spRight : Sp := fun vs H Q _ => ∃ (g : Addr) (n : Nat), vs = [.ref g] ∧ Gen H g (n + 30000) ∧ ∀ H', But g H H' → Q (.bl true) H'
theorem ok_right {f : Addr} {fd : FuncData} (F : Fun K "_law_right" "_law_right" sRight f fd) (T : Bi mg) (U : Use P w K mg base "_law_random" ["_law_generator_here", "_law_bound"] spRandom 2) (UC : Use P w K mg base "_law_company" ["_law_generator_here", "_law_kinds", "_law_most"] spCompany 4)
    (UL : Use P w K mg base "_law_lots" ["_law_size"] spLots 1) (UR : UseG P w K mg base "_law_lot_right" ["_law_kinds", "_law_company_here", "_law_lot"] spLotRight 7) (UH : Use P w K mg base "is_house" ["kinds", "company", "lot"] spHouse 6) : FnG P w K mg base CX0 8 f fd ["_law_generator_here"] spRight := by
  refine FnG.mk' F scRight (fun vs H Q E h => ?_) (fun cdv A outer s H vs Q E hgd hr h => ?_)
  · obtain ⟨g, n, rfl, _⟩ := h
    rfl
  · obtain ⟨g, n, rfl, G, q⟩ := h
    have hr1 : Room 1 (A.deeper (envOfC "_law_right" (defScope sRight) s.heap.objs.size f cdv)) := hr.mono (by decide)
    have hr2 : Room 2 (A.deeper (envOfC "_law_right" (defScope sRight) s.heap.objs.size f cdv)) := hr.mono (by decide)
    have hr4 : Room 4 (A.deeper (envOfC "_law_right" (defScope sRight) s.heap.objs.size f cdv)) := hr.mono (by decide)
    have hr6 : Room 6 (A.deeper (envOfC "_law_right" (defScope sRight) s.heap.objs.size f cdv)) := hr.mono (by decide)
    have hgd' : (A.deeper (envOfC "_law_right" (defScope sRight) s.heap.objs.size f cdv)).guards = some [] := hgd
    have h65 : (A.deeper (envOfC "_law_right" (defScope sRight) s.heap.objs.size f cdv)).units + 65 < cLine := by
      have := hr.un
      omega
    refine ⟨_, pss_cons (ps_set (i := 1) scRight.nd rfl (Or.inr rfl) (pe_op op_add pe_int (pe_use U hr2 (by rfl) (pa_cons (pv 0) (pa_cons pe_int pa_nil)))))
      (pss_cons (ps_set (i := 2) scRight.nd rfl (Or.inr rfl) (pe_use UC hr4 (by rfl) (pa_cons (pv 0) (pa_cons (pv 1) (pa_cons pe_int pa_nil)))))
      (pss_cons (ps_set (i := 3) scRight.nd rfl (Or.inl rfl) (pe_use UL hr1 (by rfl) (pa_cons (pe_callB call_len_seq (by rfl) T.len PySem.boot_len (pa_cons (pv 2) pa_nil)) pa_nil)))
      (pss_cons (ps_if (pt_cmpR (op_neNil hr.units) (pe_lc (own := [("_law_lot", 4)]) (g := gName 4) rfl scRight.nd (pi_list (pv 3)) (blkOk_by (N := nRight) (sc := defScope sRight) (by decide +kernel)) (fun _ _ _ _ _ => pg_name (i := 4) scRight.nd rfl (Or.inl rfl))
            (fun _ _ _ _ _ => by exact (pts_one (pt_not (pt_val (pe_useG UR hgd' hr (by rfl) (pa_cons (pv 1) (pa_cons (pv 2) (pa_cons (pv 4) pa_nil)))))))) (fun _ _ _ _ _ => pv 4)) (pe_lst pa_nil) (nomark _)) (pss_one (ps_ret pe_bl)) pss_nil)
      (pss_cons (ps_setLc (i := 5) (own := [("_law_lot", 4)]) (g := gName 4) rfl scRight.nd rfl rfl (sw_true rfl rfl rfl (by decide +kernel)) (pi_list (pv 3)) (blkOk_by (N := nRight) (sc := defScope sRight) (by decide +kernel)) (fun _ _ _ _ _ => pg_name (i := 4) scRight.nd rfl (Or.inl rfl))
            (fun _ _ _ _ _ => by exact (pts_one (pt_val (pe_use UH hr6 (by rfl) (pa_cons (pv 1) (pa_cons (pv 2) (pa_cons (pv 4) pa_nil))))))) (fun _ _ _ _ _ => pv 4))
      (pss_cons (ps_for PassesOwn.never rfl (pi_range1 (by rfl) T.range (pa_cons pe_int pa_nil)) (pg_name (i := 6) scRight.nd rfl (Or.inl rfl))
        (pss_cons (ps_asg (pe_tup (pa_cons (pe_ix ix_list (pv 5) (pe_use U hr2 (by rfl) (pa_cons (pv 0) (pa_cons (pe_callB call_len_seq (by rfl) T.len PySem.boot_len (pa_cons (pv 5) pa_nil)) pa_nil))) (fun _ _ => rfl))
              (pa_cons (pe_ix ix_list (pv 5) (pe_use U hr2 (by rfl) (pa_cons (pv 0) (pa_cons (pe_callB call_len_seq (by rfl) T.len PySem.boot_len (pa_cons (pv 5) pa_nil)) pa_nil))) (fun _ _ => rfl)) pa_nil)))
            (pg_tup rfl (pgs_cons (pg_name (i := 7) scRight.nd rfl (Or.inl rfl)) (pgs_cons (pg_name (i := 8) scRight.nd rfl (Or.inr rfl)) pgs_nil))))
        (pss_cons (ps_setLc (i := 9) (own := [("_law_person", 10)]) (g := gName 10) (tt := tTest (tOp (rIn K false) (tVar 10) (tVar 8))) rfl scRight.nd rfl rfl (sw_true rfl rfl rfl (by decide +kernel)) (pi_list (pv 7)) (blkOk_by (N := nRight) (sc := defScope sRight) (by decide +kernel)) (fun _ _ _ _ _ => pg_name (i := 10) scRight.nd rfl (Or.inl rfl))
            (fun _ _ _ _ _ => by exact (pts_one (pt_cmpR op_in_seq (pv 10) (pv 8) (by rfl)))) (fun _ _ _ _ _ => pv 10))
        (pss_cons (ps_setLc (i := 11) (own := [("_law_person", 10)]) (g := gName 10) (tt := tTest (tOp (rIn K true) (tVar 10) (tVar 8))) rfl scRight.nd rfl rfl (sw_true rfl rfl rfl (by decide +kernel)) (pi_list (pv 7)) (blkOk_by (N := nRight) (sc := defScope sRight) (by decide +kernel)) (fun _ _ _ _ _ => pg_name (i := 10) scRight.nd rfl (Or.inl rfl))
            (fun _ _ _ _ _ => by exact (pts_one (pt_cmpR op_notIn_seq (pv 10) (pv 8) (by rfl)))) (fun _ _ _ _ _ => pv 10))
        (pss_cons (ps_if (PW.pt (pw_and (pt_cmpR (op_neNil hr.units) (pv 9) (pe_lst pa_nil) (nomark _)) (pw_and1 (PW.pt (pw_or (pt_cmpR (op_notInD h65) (pv 9) (pv 5) (by rfl))
              (pw_or1 (pt_cmpR (op_notInD h65) (pe_callB cr_sortedI (by rfl) T.sorted (by decide +kernel) (pa_cons (pe_op op_cat (pv 8) (pv 11)) pa_nil)) (pv 5) (by rfl)))))))) (pss_one (ps_ret pe_bl)) pss_nil)
        (pss_one (ps_if (PW.pt (pw_and (pt_cmpR (op_neNil hr.units) (pv 9) (pe_lst pa_nil) (nomark _)) (pw_and (pt_cmpR (op_neNil hr.units) (pv 11) (pe_lst pa_nil) (nomark _))
              (pw_and (pt_cmpR op_lt (pe_callB call_len_seq (by rfl) T.len PySem.boot_len (pa_cons (pv 9) pa_nil)) (pe_callB call_len_seq (by rfl) T.len PySem.boot_len (pa_cons (pv 8) pa_nil)) (nomark _)) (pw_and1 (pt_cmpR (op_notInD h65) (pv 11) (pv 5) (by rfl))))))) (pss_one (ps_ret pe_bl)) pss_nil)))))))
      (pss_one (ps_ret pe_bl))))))), ?_⟩
    refine ⟨_, rfl, g, 3, n + 29995, rfl, by decide, by decide, G, fun r H1 r0 r1 G1 b1 => ⟨_, _, rfl, rfl, ?_⟩⟩
    refine ⟨_, rfl, _, rfl, g, 2 + r, 6, n + 9995, rfl, by omega, by omega, by decide, by decide, G1, fun c H2 sz b2 G2 z1 z6 co => ?_⟩
    obtain ⟨rs, kss, t, lk, fine, nc, nc0, nr0⟩ := co.ex
    have k2 : (2 : Int) ≤ 2 + r := by omega
    have k9 : 2 + r ≤ 9 := by omega
    have cg : c ≠ g := (G1.ne nc0).symm
    have gr : g ∉ rs := notin_new G1 nr0
    have lr : (rs.map V.ref).length = sz := by rw [List.length_map, t.len, lk]
    refine ⟨_, rfl, c, _, rfl, .inl (SqL.of t.top), ?_⟩
    rw [lr]
    refine ⟨sz, rfl, by omega, fun L ts H3 s3 nL R pm so => ?_⟩
    have Lg : L ≠ g := (G2.ne nL).symm
    have G3 := G2.same s3
    have t3 := t.same s3
    have m1 : 1 ≤ kss.length := by omega
    have m40 : kss.length ≤ 40 := by omega
    have isLot : ∀ u ∈ ts, Lot kss.length u.2 := fun u hu => by
      have : u.2 ∈ (rawLots sz).filter fun l => !l.isEmpty := pm.mem_iff.mp (List.mem_map_of_mem hu)
      obtain ⟨x1, x2⟩ := List.mem_filter.mp this
      obtain ⟨y1, y2⟩ := (raw_mem sz _).mp x1
      exact ⟨fun z => (by rw [z] at x2; cases x2), y1, fun p hp => (by rw [lk]; exact y2 p hp)⟩
    have allLots : ∀ l, Lot kss.length l → ∃ u ∈ ts, u.2 = l := fun l hl => by
      have : l ∈ ts.map (·.2) := pm.mem_iff.mpr (List.mem_filter.mpr ⟨(raw_mem sz l).mpr ⟨hl.up, fun p hp => by rw [← lk]; exact hl.low p hp⟩, by
        cases e : l with
        | nil => exact absurd e hl.some
        | cons => rfl⟩)
      obtain ⟨u, hu, e⟩ := List.mem_map.mp this
      exact ⟨u, hu, e⟩
    have lts : ts.length ≤ 64 := by
      have h1 := pm.length_eq
      rw [List.length_map] at h1
      have h2 := List.length_filter_le (fun l : List Nat => !l.isEmpty) (rawLots sz)
      rw [raw_len] at h2
      have h3 : 2 ^ sz ≤ 64 := Nat.pow_le_pow_right (n := 2) (by decide) (by omega : sz ≤ 6)
      omega
    -- all lots are judged
    refine ⟨_, rfl, L, rfl, ⟨_, SqL.of R.top⟩, fun D hD => ?_⟩
    refine lc_list (K := K) (a := L) (xs := ts.map fun t => V.ref t.1) (fun j H5 => Same H3 H5 ∧ H5 D = some (.lst [])) ⟨same_new hD, upd_same⟩ (fun j H5 _ z => SqL.of (z.1 _ _ R.top)) ?_ ?_
    · rintro j y H5 hj ⟨s5, h5⟩
      rw [List.getElem?_map] at hj
      cases e : ts[j]? with
      | none =>
        rw [e] at hj
        cases hj
      | some u =>
        rw [e] at hj
        cases hj
        have um := List.mem_of_getElem? e
        refine ⟨rfl, ?_⟩
        refine ⟨_, rfl, _, rfl, _, rfl, kss, u.2, ⟨⟨2 + r, c, u.1, rs, rfl, k2, k9, t3.same s5, fine, s5 _ _ (R.row u um)⟩, m1, m40, isLot u um⟩, fun H6 s6 => ⟨_, rfl, ?_⟩⟩
        exact iteF ⟨s5.trans s6, s6 _ _ h5⟩
    · rintro H5 ⟨s5, h5⟩
      refine ⟨Nat.zero_le _, fun b hb => ?_⟩
      obtain ⟨H6, e6, s6, f6⟩ := gen H5 hb (.lst [])
      rw [e6]
      clear e6
      refine ⟨D, b, [], rfl, rfl, SqL.of (s6 _ _ h5), SqL.of f6, _, rfl, iteF ?_⟩
      have s36 := s5.trans s6
      have R6 := R.same s36
      have t6 := t3.same s36
      have G6 := G3.same s36
      -- the houses among them
      refine ⟨_, rfl, L, rfl, ⟨_, SqL.of R6.top⟩, fun T' hT => ?_⟩
      refine lc_list (K := K) (a := L) (xs := ts.map fun t => V.ref t.1) (fun j H7 => Same H6 H7 ∧ H7 T' = some (.lst ((homes kss (ts.take j)).map fun t => V.ref t.1))) ⟨same_new hT, upd_same⟩ (fun j H7 _ z => SqL.of (z.1 _ _ R6.top)) ?_ ?_
      · rintro j y H7 hj ⟨s7, h7⟩
        rw [List.getElem?_map] at hj
        cases e : ts[j]? with
        | none =>
          rw [e] at hj
          cases hj
        | some u =>
          rw [e] at hj
          cases hj
          have um := List.mem_of_getElem? e
          have jl := (List.getElem?_eq_some_iff.mp e).1
          have tk := homes_more (kss := kss) e
          refine ⟨rfl, ?_⟩
          refine ⟨_, rfl, _, rfl, _, rfl, kss, u.2, ⟨⟨2 + r, c, u.1, rs, rfl, k2, k9, t6.same s7, fine, s7 _ _ (R6.row u um)⟩, m1, m40, isLot u um⟩, fun H8 s8 => ⟨_, rfl, ?_⟩⟩
          cases hb2 : houseB kss u.2 with
          | false =>
            refine iteF ⟨s7.trans s8, ?_⟩
            rw [tk, hb2, if_neg (by decide), List.append_nil]
            exact s8 _ _ h7
          | true =>
            refine iteT ⟨_, rfl, _, s8 _ _ h7, ?_, fun b o e' => ?_, ?_⟩
            · rw [List.length_map]
              have := List.length_filter_le (fun t : Addr × List Nat => houseB kss t.2) (ts.take j)
              rw [List.length_take] at this
              exact small1000 (by unfold homes; omega)
            · rw [upd_ne (ne_of_none e' hT)]
              exact s8 b o (s7 b o e')
            · rw [upd_same, tk, hb2, List.map_append]
              rfl
      · rintro H7 ⟨s7, h7⟩
        rw [List.length_map, List.take_length] at h7
        obtain ⟨us, hus⟩ : ∃ us, homes kss ts = us := ⟨_, rfl⟩
        rw [hus] at h7
        have uin : ∀ u ∈ us, u ∈ ts ∧ houseB kss u.2 = true := fun u hu => by
          rw [← hus] at hu
          exact List.mem_filter.mp hu
        have RU : Rows H2 H7 T' us := ⟨h7, fun u hu => s7 _ _ (R6.row u (uin u hu).1), fun u hu => R.new u (uin u hu).1⟩
        have Tg : T' ≠ g := (G6.ne hT).symm
        have G7 : Gen H7 g (n + 9000) := (G6.same s7).less (by omega)
        have isH : ∀ u ∈ us, IsH kss u.2 := fun u hu => (house_iff (isLot u (uin u hu).1).some).mp (uin u hu).2
        have told : ∀ l, Lot kss.length l → IsH kss l → ∃ u ∈ us, u.2 = l := fun l hl hh => by
          obtain ⟨u, hu, e⟩ := allLots l hl
          refine ⟨u, ?_, e⟩
          rw [← hus]
          exact List.mem_filter.mpr ⟨hu, by rw [e]; exact (house_iff hl.some).mpr hh⟩
        have lus : 1 ≤ us.length ∧ us.length ≤ 64 := by
          obtain ⟨w1, w2⟩ := house_all kss m1
          obtain ⟨u, hu, _⟩ := told _ w1 ((house_iff w1.some).mp w2)
          refine ⟨List.length_pos_of_mem hu, ?_⟩
          have := List.length_filter_le (fun t : Addr × List Nat => houseB kss t.2) ts
          rw [← hus]
          unfold homes
          omega
        have lV : (us.map fun t => V.ref t.1).length = us.length := List.length_map _
        refine ⟨12, rfl, by decide, by decide, ?_⟩
        refine for_range (lo := 0) (n := (12 : Int).toNat) (fun i σ H' => ∃ tv ov pv sv rv : Option V, σ = [some (.ref g), some (.int (2 + r)), some (.ref c), some (.ref L), none, some (.ref T'), tv, ov, pv, sv, none, rv] ∧ But g H7 H' ∧ Gen H' g (n + 9000 - 10 * i))
          ⟨none, none, none, none, none, rfl, But.refl, G7⟩ ?_ ?_
        · rintro i σ H' hi ⟨tv, ov, pv, sv, rv, rfl, bt, G'⟩
          have i12 : i < 12 := hi
          have RT := RU.but bt G2 Tg
          refine ⟨_, rfl, _, rfl, _, rfl, T', _, rfl, .inl (SqL.of RT.top), ?_⟩
          rw [lV]
          refine ⟨g, us.length, n + 9000 - 10 * i - 5, rfl, by omega, by omega, G'.less (by omega), fun a Ha a0 a1 Ga ba => ?_⟩
          have RTa := RT.but ba G2 Tg
          obtain ⟨an, rfl⟩ : ∃ an : Nat, a = (an : Int) := ⟨a.toNat, by omega⟩
          have al : an < us.length := by omega
          refine ⟨T', _, _, _, rfl, rfl, SqL.of RTa.top, atI_nat (v := V.ref us[an].1) (by rw [List.getElem?_map, List.getElem?_eq_getElem al]; rfl), ?_⟩
          refine ⟨_, rfl, _, rfl, _, rfl, T', _, rfl, .inl (SqL.of RTa.top), ?_⟩
          rw [lV]
          refine ⟨g, us.length, n + 9000 - 10 * (i + 1), rfl, by omega, by omega, Ga.less (by omega), fun b Hb b0 b1' Gb bb => ?_⟩
          have RTb := RTa.but bb G2 Tg
          obtain ⟨bn, rfl⟩ : ∃ bn : Nat, b = (bn : Int) := ⟨b.toNat, by omega⟩
          have bl : bn < us.length := by omega
          refine ⟨T', _, _, _, rfl, rfl, SqL.of RTb.top, atI_nat (v := V.ref us[bn].1) (by rw [List.getElem?_map, List.getElem?_eq_getElem bl]; rfl), ?_⟩
          refine ⟨(by show 2 ≤ sizeLine; decide), fun tp htp => ?_⟩
          obtain ⟨H8, e8, s8, f8⟩ := gen Hb htp (.tup [.ref us[an].1, .ref us[bn].1])
          rw [e8]
          clear e8
          refine ⟨tp, _, rfl, SqT.of f8, rfl, _, _, rfl, _, _, rfl, rfl, ?_⟩
          have R8 := RTb.same s8
          obtain ⟨A1, hA1⟩ : ∃ A1, us[an] = A1 := ⟨_, rfl⟩
          obtain ⟨B1, hB1⟩ : ∃ B1, us[bn] = B1 := ⟨_, rfl⟩
          have Am : A1 ∈ us := by rw [← hA1]; exact List.getElem_mem _
          have Bm : B1 ∈ us := by rw [← hB1]; exact List.getElem_mem _
          rw [hA1, hB1]
          have LA := isLot A1 (uin A1 Am).1
          have LB := isLot B1 (uin B1 Bm).1
          have ha8 := R8.row A1 Am
          have hb8 := R8.row B1 Bm
          have bt8 : But g H7 H8 := bt.trans (ba.trans (bb.trans (.of s8)))
          have G8 : Gen H8 g (n + 9000 - 10 * (i + 1)) := Gb.same s8
          have la := LA.len
          have lb := LB.len
          -- who is in both
          refine ⟨_, rfl, A1.1, rfl, ⟨_, SqL.of ha8⟩, fun S hS => ?_⟩
          refine lc_list (K := K) (a := A1.1) (xs := natV A1.2) (fun j H9 => Same H8 H9 ∧ H9 S = some (.lst (natV ((A1.2.take j).filter fun p => decide (p ∈ B1.2))))) ⟨same_new hS, upd_same⟩ (fun j H9 _ z => SqL.of (z.1 _ _ ha8)) ?_ ?_
          · rintro j y H9 hj ⟨s9, h9⟩
            unfold natV at hj
            rw [List.getElem?_map] at hj
            cases e : A1.2[j]? with
            | none =>
              rw [e] at hj
              cases hj
            | some x =>
              rw [e] at hj
              cases hj
              have jl := (List.getElem?_eq_some_iff.mp e).1
              refine ⟨rfl, ?_⟩
              refine ⟨_, rfl, _, rfl, B1.1, _, rfl, .inl (SqL.of (s9 _ _ hb8)), rfl, flat_nat B1.2, _, rfl, ?_⟩
              show ite ((inV (.int (x : Nat)) (natV B1.2)) = true) _ _
              rw [inV_nat]
              cases cx : decide (x ∈ B1.2) with
              | false =>
                refine iteF ⟨s9, ?_⟩
                rw [filter_more e, cx, if_neg (by decide), List.append_nil]
                exact h9
              | true =>
                refine iteT ⟨_, rfl, _, h9, ?_, fun b o e' => ?_, ?_⟩
                · unfold natV
                  rw [List.length_map]
                  have := List.length_filter_le (fun p => decide (p ∈ B1.2)) (A1.2.take j)
                  rw [List.length_take] at this
                  exact small1000 (by omega)
                · rw [upd_ne (ne_of_none e' hS)]
                  exact s9 b o e'
                · rw [upd_same, filter_more e, cx]
                  unfold natV
                  rw [List.map_append]
                  rfl
          · rintro H9 ⟨s9, h9⟩
            have lnA : (natV A1.2).length = A1.2.length := List.length_map _
            rw [lnA, List.take_length] at h9
            have h9' : H9 S = some (.lst (natV (meet A1.2 B1.2))) := h9
            have ha9 := s9 _ _ ha8
            have hb9 := s9 _ _ hb8
            refine ⟨_, rfl, A1.1, rfl, ⟨_, SqL.of ha9⟩, fun S2 hS2 => ?_⟩
            refine lc_list (K := K) (a := A1.1) (xs := natV A1.2) (fun j H10 => Same H9 H10 ∧ H10 S2 = some (.lst (natV ((A1.2.take j).filter fun p => !decide (p ∈ B1.2))))) ⟨same_new hS2, upd_same⟩ (fun j H10 _ z => SqL.of (z.1 _ _ ha9)) ?_ ?_
            · rintro j y H10 hj ⟨s10, h10⟩
              unfold natV at hj
              rw [List.getElem?_map] at hj
              cases e : A1.2[j]? with
              | none =>
                rw [e] at hj
                cases hj
              | some x =>
                rw [e] at hj
                cases hj
                have jl := (List.getElem?_eq_some_iff.mp e).1
                refine ⟨rfl, ?_⟩
                refine ⟨_, rfl, _, rfl, B1.1, _, rfl, .inl (SqL.of (s10 _ _ hb9)), rfl, flat_nat B1.2, _, rfl, ?_⟩
                show ite ((!inV (.int (x : Nat)) (natV B1.2)) = true) _ _
                rw [inV_nat]
                cases cx : (!decide (x ∈ B1.2)) with
                | false =>
                  refine iteF ⟨s10, ?_⟩
                  rw [filter_more e, cx, if_neg (by decide), List.append_nil]
                  exact h10
                | true =>
                  refine iteT ⟨_, rfl, _, h10, ?_, fun b o e' => ?_, ?_⟩
                  · unfold natV
                    rw [List.length_map]
                    have := List.length_filter_le (fun p => !decide (p ∈ B1.2)) (A1.2.take j)
                    rw [List.length_take] at this
                    exact small1000 (by omega)
                  · rw [upd_ne (ne_of_none e' hS2)]
                    exact s10 b o e'
                  · rw [upd_same, filter_more e, cx]
                    unfold natV
                    rw [List.map_append]
                    rfl
            · rintro H10 ⟨s10, h10⟩
              rw [lnA, List.take_length] at h10
              have h10' : H10 S2 = some (.lst (natV (less A1.2 B1.2))) := h10
              have hs10 := s10 _ _ h9'
              have R10 := (R8.same s9).same s10
              have hb10 := s10 _ _ hb9
              have next : ∀ H', Same H10 H' → ∃ tv ov pv sv rv : Option V, [some (V.ref g), some (.int (2 + r)), some (.ref c), some (.ref L), none, some (.ref T'), some (.int (0 + (i : Int))), some (.ref A1.1), some (.ref B1.1), some (.ref S), none, some (.ref S2)] = [some (.ref g), some (.int (2 + r)), some (.ref c), some (.ref L), none, some (.ref T'), tv, ov, pv, sv, none, rv] ∧ But g H7 H' ∧ Gen H' g (n + 9000 - 10 * (i + 1)) :=
                fun H' s' => ⟨_, _, _, _, _, rfl, bt8.trans (.of (s9.trans (s10.trans s'))), G8.same (s9.trans (s10.trans s'))⟩
              have eV : ∀ l : List Nat, (natV l).isEmpty = l.isEmpty := fun l => by cases l <;> rfl
              have tabs := shaped_tab (us.map fun t => nums t.2)
              have HA := isH A1 Am
              have HB := isH B1 Bm
              refine ⟨_, rfl, Nat.zero_le _, fun e1 he1 => ?_⟩
              obtain ⟨H11, q11, s11, f11⟩ := gen H10 he1 (.lst [])
              rw [q11]
              clear q11
              refine ⟨S, e1, _, rfl, rfl, SqL.of (s11 _ _ hs10), SqL.of f11, _, rfl, ?_⟩
              rw [eV]
              cases cm : (meet A1.2 B1.2).isEmpty with
              | true =>
                refine iteF (iteF ?_)
                refine ⟨_, rfl, Nat.zero_le _, fun e2 he2 => ?_⟩
                obtain ⟨H12, q12, s12, f12⟩ := gen H11 he2 (.lst [])
                rw [q12]
                clear q12
                refine ⟨S, e2, _, rfl, rfl, SqL.of (s12 _ _ (s11 _ _ hs10)), SqL.of f12, _, rfl, ?_⟩
                rw [eV, cm]
                exact iteF (iteF (next _ (s11.trans s12)))
              | false =>
                have nm : meet A1.2 B1.2 ≠ [] := fun z => by rw [z] at cm; cases cm
                obtain ⟨z, hz⟩ := List.exists_mem_of_ne_nil _ nm
                obtain ⟨zA, zB⟩ := mem_meet.mp hz
                have LM : Lot kss.length (meet A1.2 B1.2) := LA.sub _ nm
                have in1 := in_rows (told _ LM (HA.meet HB))
                refine iteT ⟨_, rfl, _, rfl, rowP (nums (meet A1.2 B1.2)), _, nat_dp (s11 _ _ hs10), rows_dp (R10.same s11), shaped_row _, tabs, _, rfl, ?_⟩
                rw [in1]
                refine iteF ⟨_, rfl, _, rfl, B1.1, S2, _, _, rfl, rfl, s11 _ _ hb10, s11 _ _ h10', ?_, fun p hp => ?_⟩
                · unfold natV
                  rw [List.length_map, List.length_map]
                  have := List.length_filter_le (fun p => !decide (p ∈ B1.2)) A1.2
                  exact Nat.le_of_lt (small1000 (by unfold less; omega))
                obtain ⟨H12, q12, s12, f12⟩ := gen H11 hp (.lst (natV B1.2 ++ natV (less A1.2 B1.2)))
                rw [q12]
                clear q12
                have ej : natV B1.2 ++ natV (less A1.2 B1.2) = (nums (B1.2 ++ less A1.2 B1.2)).map V.int := by
                  rw [← natV_nums]
                  unfold natV
                  rw [List.map_append]
                refine ⟨p, nums (B1.2 ++ less A1.2 B1.2), rfl, SqL.of (by rw [f12, ej]), fun ns' p2 pm2 so2 hp2 => ?_⟩
                obtain ⟨H13, q13, s13, f13⟩ := gen H12 hp2 (.lst (ns'.map V.int))
                rw [q13]
                clear q13
                have ndj : (B1.2 ++ less A1.2 B1.2).Nodup := List.nodup_append.mpr ⟨nodup_up LB.up, (nodup_up LA.up).sublist List.filter_sublist, fun x hx y hy e => (mem_less.mp hy).2 (by rw [← e]; exact hx)⟩
                obtain ⟨v, rfl, pv, uv⟩ := sorted_back pm2 so2 ndj
                have mv : ∀ p, p ∈ v ↔ p ∈ B1.2 ∨ p ∈ A1.2 := fun p => by
                  rw [pv.mem_iff, List.mem_append, mem_less]
                  by_cases c : p ∈ B1.2
                  · simp [c]
                  · simp [c]
                have nv : v ≠ [] := fun e => by
                  have := (mv z).mpr (.inl zB)
                  rw [e] at this
                  cases this
                have LV : Lot kss.length v := ⟨nv, uv, fun p hp => by
                  rcases (mv p).mp hp with h | h
                  · exact LB.low p h
                  · exact LA.low p h⟩
                have in2 := in_rows (told _ LV (HA.join HB mv zA zB))
                have s13' := s11.trans (s12.trans s13)
                refine ⟨_, rfl, rowP (nums v), _, dp_row (SqL.of f13), rows_dp (R10.same s13'), shaped_row _, tabs, _, rfl, ?_⟩
                rw [in2]
                refine iteF ?_
                refine ⟨_, rfl, Nat.zero_le _, fun e2 he2 => ?_⟩
                obtain ⟨H14, q14, s14, f14⟩ := gen H13 he2 (.lst [])
                rw [q14]
                clear q14
                have s14' := s13'.trans s14
                refine ⟨S, e2, _, rfl, rfl, SqL.of (s14' _ _ hs10), SqL.of f14, _, rfl, ?_⟩
                rw [eV, cm]
                refine iteT ⟨_, rfl, Nat.zero_le _, fun e3 he3 => ?_⟩
                obtain ⟨H15, q15, s15, f15⟩ := gen H14 he3 (.lst [])
                rw [q15]
                clear q15
                have s15' := s14'.trans s15
                refine ⟨S2, e3, _, rfl, rfl, SqL.of (s15' _ _ h10'), SqL.of f15, _, rfl, ?_⟩
                rw [eV]
                cases cl : (less A1.2 B1.2).isEmpty with
                | true => exact iteF (iteF (next _ s15'))
                | false =>
                  have nl : less A1.2 B1.2 ≠ [] := fun z => by rw [z] at cl; cases cl
                  refine iteT ⟨_, rfl, S, _, rfl, .inl (SqL.of (s15' _ _ hs10)), _, rfl, B1.1, _, rfl, .inl (SqL.of (s15' _ _ hb10)), _, _, rfl, rfl, _, rfl, ?_⟩
                  refine ite2 (fun lt => ?_) (fun _ => iteF (next _ s15'))
                  have lt2 : (meet A1.2 B1.2).length < B1.2.length := by
                    have := of_decide_eq_true lt
                    unfold natV at this
                    rw [List.length_map, List.length_map] at this
                    omega
                  obtain ⟨y, y1, y2⟩ := out_of (nodup_up LA.up) (nodup_up LB.up) lt2
                  have LL : Lot kss.length (less A1.2 B1.2) := LA.sub _ nl
                  have in3 := in_rows (told _ LL (HA.less HB LA.low LB.low y1 y2))
                  refine ⟨_, rfl, _, rfl, rowP (nums (less A1.2 B1.2)), _, nat_dp (s15' _ _ h10'), rows_dp (R10.same s15'), shaped_row _, tabs, _, rfl, ?_⟩
                  rw [in3]
                  exact iteF (next _ s15')
        · rintro σ H' ⟨tv, ov, pv, sv, rv, rfl, bt, G'⟩
          exact q H' (b1.trans (b2.trans ((But.of (s3.trans (s36.trans s7))).trans bt)))
end
end K6

namespace K6
open PySem PySem.Spec PyProof.Rows L2 GL
abbrev sGreat : Stmt := topS 40
abbrev sLaw : Stmt := topS 41
theorem rows_nodup {H : Hp} {rs : List Addr} {kss : List (List Int)} {k : Int} (f : Fine k kss) (l : rs.length = kss.length) (row : ∀ (i : Nat) (r : Addr) (ks : List Int), rs[i]? = some r → kss[i]? = some ks → H r = some (.lst (ks.map V.int))) : rs.Nodup := by
  refine List.pairwise_iff_getElem.mpr fun i j hi hj lt e => ?_
  have h1 := row i _ _ (List.getElem?_eq_getElem hi) (List.getElem?_eq_getElem (by omega : i < kss.length))
  have h2 := row j _ _ (List.getElem?_eq_getElem hj) (List.getElem?_eq_getElem (by omega : j < kss.length))
  rw [e, h2] at h1
  have h3 := congrArg List.length (HO.lst.inj (Option.some.inj h1))
  rw [List.length_map, List.length_map] at h3
  have a := (f i _ (List.getElem?_eq_getElem (by omega : i < kss.length))).1
  have b := (f j _ (List.getElem?_eq_getElem (by omega : j < kss.length))).1
  omega
theorem Tab.made {H : Hp} {c : Addr} {rs : List Addr} {kss : List (List Int)} {k : Int} (f : Fine k kss) (l : rs.length = kss.length) (top : H c = some (.lst (rs.map V.ref))) (row : ∀ (i : Nat) (r : Addr) (ks : List Int), rs[i]? = some r → kss[i]? = some ks → H r = some (.lst (ks.map V.int))) : Tab H c rs kss :=
  ⟨top, l, row, rows_nodup f l row⟩
/-- written companies -/
def fineB (k : Int) (kss : List (List Int)) : Bool := (List.range kss.length).all fun i => decide ((kss.getD i []).length = i) && (kss.getD i []).all fun z => decide (0 ≤ z) && decide (z < k)
theorem fine_of {k : Int} {kss : List (List Int)} (h : fineB k kss = true) : Fine k kss := fun i ks e => by
  have il := (List.getElem?_eq_some_iff.mp e).1
  have := List.all_eq_true.mp h i (List.mem_range.mpr il)
  rw [List.getD_eq_getElem?_getD, e] at this
  show ks.length = i ∧ _
  have t2 : (decide (ks.length = i) && ks.all fun z => decide (0 ≤ z) && decide (z < k)) = true := this
  rw [Bool.and_eq_true] at t2
  refine ⟨of_decide_eq_true t2.1, fun z hz => ?_⟩
  have := List.all_eq_true.mp t2.2 z hz
  rw [Bool.and_eq_true] at this
  exact ⟨of_decide_eq_true this.1, of_decide_eq_true this.2⟩
def lotB (n : Nat) (l : List Nat) : Bool := !l.isEmpty && (List.range l.length).all (fun i => decide (l.getD i 0 < n) && (decide (i + 1 = l.length) || decide (l.getD i 0 < l.getD (i + 1) 0)))
def pathK : List (List Int) := [[], [1], [0, 1]]
def lastK : List (List Int) := [[], [1], [1, 0]]
theorem Lot.one {n p : Nat} (h : p < n) : Lot n [p] := ⟨by simp, List.pairwise_singleton .., fun q hq => by rw [List.mem_singleton] at hq; omega⟩
theorem Lot.two {n p q : Nat} (h : p < q) (h2 : q < n) : Lot n [p, q] := ⟨by simp, List.pairwise_cons.mpr ⟨fun z hz => by rw [List.mem_singleton] at hz; omega, List.pairwise_singleton ..⟩, fun z hz => by
  rcases List.mem_cons.mp hz with hz | hz
  · omega
  · rw [List.mem_singleton] at hz
    omega⟩
/-- rows of noughts -/
def zs (n : Nat) : List (List Int) := (List.range n).map fun j => List.replicate j 0
theorem zs_more (n : Nat) : zs (n + 1) = zs n ++ [List.replicate n 0] := by
  unfold zs
  rw [List.range_succ, List.map_append]
  rfl
theorem zs_len (n : Nat) : (zs n).length = n := by
  unfold zs
  rw [List.length_map, List.length_range]
theorem v1 : houseB pathK [0, 2] = true := by decide +kernel
theorem v2 : houseB pathK [0, 1] = false := by decide +kernel
theorem v3 : optV (partingOf pathK [0, 1]) = .int 2 := by
  have e : partingOf pathK [0, 1] = some 2 := by decide +kernel
  rw [e]
  rfl
theorem v4 : optV (partingOf pathK [1]) = .non := by
  have e : partingOf pathK [1] = none := by decide +kernel
  rw [e]
  rfl
theorem v5 : houseB (zs 40) [0, 39] = true := by decide +kernel
theorem v6 : houseB [[]] [0] = true := by decide +kernel
theorem v7 : optV (partingOf lastK [0, 2]) = .int 1 := by
  have e : partingOf lastK [0, 2] = some 1 := by decide +kernel
  rw [e]
  rfl
theorem fz : Fine 2 (zs 40) := fine_of (by decide +kernel)
section
variable {P : Program} {w : World} {K : PySem.W.Frag} {mg : Str → Option Value} {base : Heap}
abbrev nGreat : List Str := ["_law_generator_here", "_law_kinds", "_law_company_here", "_law_one", "_law_other", "_law_lot", "_law_person"]
theorem scGreat : FnScope nGreat ["_law_generator_here"] (defScope sGreat) := ⟨rfl, rfl, rfl, by decide +kernel, rfl, by decide +kernel, by decide +kernel⟩
def spGreat : Sp := fun vs H Q _ => ∃ (g : Addr) (n : Nat), vs = [.ref g] ∧ Gen H g (n + 30000) ∧ ∀ H', But g H H' → Q (.bl true) H'
theorem ok_great {f : Addr} {fd : FuncData} (F : Fun K "_law_great_right" "_law_great_right" sGreat f fd) (T : Bi mg) (U : Use P w K mg base "_law_random" ["_law_generator_here", "_law_bound"] spRandom 2) (UC : Use P w K mg base "_law_company" ["_law_generator_here", "_law_kinds", "_law_most"] spCompany 4)
    (UO : Use P w K mg base "_law_couples" ["_law_size"] spCouples 1) (US : UseG P w K mg base "_law_same" ["_law_told", "_law_due"] (spSame K) 1) (UA : Use P w K mg base "_law_alike" ["_law_company_here", "_law_one", "_law_other"] spAlike 2)
    (UR : UseG P w K mg base "_law_lot_right" ["_law_kinds", "_law_company_here", "_law_lot"] spLotRight 7) (UH : Use P w K mg base "is_house" ["kinds", "company", "lot"] spHouse 6) : FnG P w K mg base CX0 8 f fd ["_law_generator_here"] spGreat := by
  refine FnG.mk' F scGreat (fun vs H Q E h => ?_) (fun cdv A outer s H vs Q E hgd hr h => ?_)
  · obtain ⟨g, n, rfl, _⟩ := h
    rfl
  · obtain ⟨g, n, rfl, G, q⟩ := h
    have hr1 : Room 1 (A.deeper (envOfC "_law_great_right" (defScope sGreat) s.heap.objs.size f cdv)) := hr.mono (by decide)
    have hr2 : Room 2 (A.deeper (envOfC "_law_great_right" (defScope sGreat) s.heap.objs.size f cdv)) := hr.mono (by decide)
    have hr4 : Room 4 (A.deeper (envOfC "_law_great_right" (defScope sGreat) s.heap.objs.size f cdv)) := hr.mono (by decide)
    have hr6 : Room 6 (A.deeper (envOfC "_law_great_right" (defScope sGreat) s.heap.objs.size f cdv)) := hr.mono (by decide)
    have hgd' : (A.deeper (envOfC "_law_great_right" (defScope sGreat) s.heap.objs.size f cdv)).guards = some [] := hgd
    refine ⟨_, pss_cons (ps_set (i := 1) scGreat.nd rfl (Or.inl rfl) (pe_op op_add pe_int (pe_use U hr2 (by rfl) (pa_cons (pv 0) (pa_cons pe_int pa_nil)))))
      (pss_cons (ps_set (i := 2) scGreat.nd rfl (Or.inl rfl) (pe_use UC hr4 (by rfl) (pa_cons (pv 0) (pa_cons (pv 1) (pa_cons pe_int pa_nil)))))
      (pss_cons (ps_for PassesOwn.never rfl (pi_list (pe_use UO hr1 (by rfl) (pa_cons (pe_callB call_len_seq (by rfl) T.len PySem.boot_len (pa_cons (pv 2) pa_nil)) pa_nil))) (pg_tup rfl (pgs_cons (pg_name (i := 3) scGreat.nd rfl (Or.inl rfl)) (pgs_cons (pg_name (i := 4) scGreat.nd rfl (Or.inl rfl)) pgs_nil)))
        (pss_one (ps_if (pt_not (pt_val (pe_useG US hgd' hr1 (by rfl) (pa_cons (pe_use UH hr6 (by rfl) (pa_cons (pv 1) (pa_cons (pv 2) (pa_cons (pe_lst (pa_cons (pv 3) (pa_cons (pv 4) pa_nil))) pa_nil))))
          (pa_cons (pe_use UA hr2 (by rfl) (pa_cons (pv 2) (pa_cons (pv 3) (pa_cons (pv 4) pa_nil)))) pa_nil))))) (pss_one (ps_ret pe_bl)) pss_nil)))
      (pss_cons (ps_setLc (i := 5) (own := [("_law_person", 6)]) (g := gName 6) rfl scGreat.nd rfl rfl (sw_true rfl rfl rfl (by decide +kernel)) (pi_range1 (by rfl) T.range (pa_cons (pe_callB call_len_seq (by rfl) T.len PySem.boot_len (pa_cons (pv 2) pa_nil)) pa_nil)) (blkOk_by (N := nGreat) (sc := defScope sGreat) (by decide +kernel))
          (fun _ _ _ _ _ => pg_name (i := 6) scGreat.nd rfl (Or.inl rfl)) (fun _ _ _ _ _ => by exact (pts_one (pt_cmpR op_eq (pe_use U hr2 (by rfl) (pa_cons (pv 0) (pa_cons pe_int pa_nil))) pe_int (nomark _)))) (fun _ _ _ _ _ => pv 6))
      (pss_one (ps_ret (pe_or (pe_cmpR (op_eqD hr.units) (pv 5) (pe_lst pa_nil) (nomark _)) (pe_one (pe_useG UR hgd' hr (by rfl) (pa_cons (pv 1) (pa_cons (pv 2) (pa_cons (pv 5) pa_nil))))))))))), ?_⟩
    refine ⟨_, rfl, g, 8, n + 29995, rfl, by decide, by decide, G, fun r H1 r0 r1 G1 b1 => ⟨_, _, rfl, rfl, ?_⟩⟩
    refine ⟨_, rfl, _, rfl, g, 2 + r, 20, n + 9995, rfl, by omega, by omega, by decide, by decide, G1, fun c H2 sz b2 G2 z1 z20 co => ?_⟩
    obtain ⟨rs, kss, t, lk, fine, nc, nc0, nr0⟩ := co.ex
    have k2 : (2 : Int) ≤ 2 + r := by omega
    have k9 : 2 + r ≤ 9 := by omega
    have cg : c ≠ g := (G1.ne nc0).symm
    have gr : g ∉ rs := notin_new G1 nr0
    have lr : (rs.map V.ref).length = sz := by rw [List.length_map, t.len, lk]
    have m1 : 1 ≤ kss.length := by omega
    have m40 : kss.length ≤ 40 := by omega
    refine ⟨_, rfl, c, _, rfl, .inl (SqL.of t.top), ?_⟩
    rw [lr]
    refine ⟨sz, rfl, by omega, fun L ts H3 s3 nL R ec => ?_⟩
    refine ⟨L, rfl, ⟨_, SqL.of R.top⟩, ?_⟩
    refine for_list (K := K) (a := L) (xs := ts.map fun t => V.ref t.1) (fun i σ H' => ∃ a b : Option V, σ = [some (.ref g), some (.int (2 + r)), some (.ref c), a, b, none, none] ∧ Same H3 H')
      ⟨none, none, rfl, Same.refl _⟩ (fun i σ H' _ z => by
        obtain ⟨_, _, _, s'⟩ := z
        exact SqL.of (s' _ _ R.top)) ?_ ?_
    · rintro i y σ H' hi ⟨a, b, rfl, s'⟩
      rw [List.getElem?_map] at hi
      cases e : ts[i]? with
      | none =>
        rw [e] at hi
        cases hi
      | some u =>
        rw [e] at hi
        cases hi
        have um := List.mem_of_getElem? e
        have hu : u.2 ∈ cplTo sz sz := by rw [← ec]; exact List.mem_map_of_mem um
        obtain ⟨w1, w2, w3⟩ := (cpl_mem sz sz u.2.1 u.2.2).mp hu
        refine ⟨u.1, _, rfl, SqT.of (s' _ _ (R.row u um)), rfl, _, _, rfl, _, _, rfl, rfl, ?_⟩
        refine ⟨_, rfl, _, rfl, _, rfl, _, rfl, (by show 2 ≤ sizeLine; decide), fun l hl => ?_⟩
        obtain ⟨H4, e4, s4, f4⟩ := gen H' hl (.lst [.int (u.2.1 : Nat), .int (u.2.2 : Nat)])
        rw [e4]
        clear e4
        have t4 := (t.same s3).same (s'.trans s4)
        refine ⟨kss, [u.2.1, u.2.2], ⟨⟨2 + r, c, l, rs, rfl, k2, k9, t4, fine, f4⟩, m1, m40, Lot.two w2 (by omega)⟩, fun H5 s5 => ?_⟩
        refine ⟨_, rfl, _, rfl, _, rfl, c, rs, kss, 2 + r, u.2.1, u.2.2, rfl, t4.same s5, fine, by omega, by omega, by omega, fun H6 s6 => ?_⟩
        rw [house_alike (by omega : u.2.1 < kss.length) (by omega : u.2.2 < kss.length)]
        refine ⟨.bl _, .bl _, .bool _, rfl, .bl _, .bl _, Nice.leaf trivial, _, rfl, iteF ?_⟩
        exact ⟨_, _, rfl, s'.trans (s4.trans (s5.trans s6))⟩
    · rintro σ H' ⟨a, b, rfl, s'⟩
      have s2' := s3.trans s'
      have t' := t.same s2'
      have G' := G2.same s2'
      refine ⟨_, rfl, c, _, rfl, .inl (SqL.of t'.top), ?_⟩
      rw [lr]
      refine ⟨_, rfl, by omega, by omega, fun D hD => ?_⟩
      have Dg : D ≠ g := (G'.ne hD).symm
      refine lc_it (walk_range (lo := 0) (n := (sz : Int).toNat)) (fun i H5 => But g H' H5 ∧ Gen H5 g (n + 9000 - 5 * i) ∧ ∃ l : List Nat, H5 D = some (.lst (natV l)) ∧ l.Pairwise (· < ·) ∧ (∀ p ∈ l, p < i) ∧ l.length ≤ i)
        ⟨But.new hD, (G'.new hD).less (by omega), [], upd_same, .nil, by simp, Nat.le_refl _⟩ (fun _ _ _ _ => trivial) ?_ ?_
      · rintro i y H5 H6 hi ⟨b5, G5, l, h5, pw, bd, ll⟩ ⟨rfl, rfl⟩
        refine ⟨rfl, ?_⟩
        refine ⟨_, rfl, g, 2, n + 9000 - 5 * (i + 1), rfl, by decide, by decide, G5.less (by omega), fun x H7 x0 x1 G7 b7 => ⟨rfl, _, rfl, ?_⟩⟩
        have h7 := b7 _ _ h5 Dg
        refine ite2 (fun _ => ?_) (fun _ => ?_)
        · refine ⟨_, rfl, _, h7, ?_, fun b o e nb => ?_, G7.other Dg, l ++ [i], ?_, ?_, ?_, ?_⟩
          · unfold natV
            rw [List.length_map]
            exact small1000 (by omega)
          · rw [upd_ne (ne_of_none e hD)]
            exact b7 b o (b5 b o e nb) nb
          · have ez : natV (l ++ [i]) = natV l ++ [V.int (0 + (i : Int))] := by
              unfold natV
              rw [List.map_append, Int.zero_add]
              rfl
            rw [upd_same, ez]
          · refine List.pairwise_append.mpr ⟨pw, List.pairwise_singleton .., fun a ha b hb => ?_⟩
            rw [List.mem_singleton] at hb
            subst hb
            exact bd a ha
          · intro p hp
            rcases List.mem_append.mp hp with hp | hp
            · exact Nat.lt_succ_of_lt (bd p hp)
            · rw [List.mem_singleton] at hp
              omega
          · rw [List.length_append]
            show l.length + 1 ≤ i + 1
            omega
        · exact ⟨b5.trans b7, G7, l, h7, pw, fun p hp => Nat.lt_succ_of_lt (bd p hp), Nat.le_succ_of_le ll⟩
      · rintro H5 ⟨b5, G5, l, h5, pw, bd, ll⟩
        have t5 := t'.but b5 cg gr
        refine ⟨_, rfl, Nat.zero_le _, fun e1 he1 => ?_⟩
        obtain ⟨H6, q6, s6, f6⟩ := gen H5 he1 (.lst [])
        rw [q6]
        clear q6
        have fin := b1.trans (b2.trans ((But.of s2').trans (b5.trans (.of s6))))
        refine ⟨rowP (nums l), rowP [], nat_dp (s6 _ _ h5), dp_row (ns := []) (SqL.of f6), shaped_row _, shaped_row _, _, rfl, ?_⟩
        rw [eqv_row]
        refine ite2 (fun _ => q _ fin) (fun ne => ?_)
        have nl : l ≠ [] := fun z => ne (by rw [z]; exact decide_eq_true rfl)
        refine ⟨_, rfl, _, rfl, _, rfl, kss, l, ⟨⟨2 + r, c, D, rs, rfl, k2, k9, t5.same s6, fine, s6 _ _ h5⟩, m1, m40, ⟨nl, pw, fun p hp => ?_⟩⟩, fun H7 s7 => q _ (fin.trans (.of s7))⟩
        have := bd p hp
        omega
end
end K6

namespace K6
open PySem PySem.Spec PyProof.Rows L2 GL
def dataL : PyData := .list [.bool true, .bool false, .int 2, .none, .bool true, .bool true, .int 1]
theorem nice_last : Nice 3 dataL := Nice.list (by show 7 ≤ 50; decide) fun e he => by
  rcases List.mem_cons.mp he with rfl | he
  · exact Nice.leaf trivial
  rcases List.mem_cons.mp he with rfl | he
  · exact Nice.leaf trivial
  rcases List.mem_cons.mp he with rfl | he
  · exact Nice.leaf (by show (2 : Int).natAbs < 2 ^ 100; decide)
  rcases List.mem_cons.mp he with rfl | he
  · exact Nice.leaf trivial
  rcases List.mem_cons.mp he with rfl | he
  · exact Nice.leaf trivial
  rcases List.mem_cons.mp he with rfl | he
  · exact Nice.leaf trivial
  rcases List.mem_cons.mp he with rfl | he
  · exact Nice.leaf (by show (1 : Int).natAbs < 2 ^ 100; decide)
  cases he
theorem dts_last {K : PySem.W.Frag} {H : Hp} : Dts K H [.bl true, .bl false, .int 2, .non, .bl true, .bl true, .int 1] [.bool true, .bool false, .int 2, .none, .bool true, .bool true, .int 1] := .cons (.bl true) (.cons (.bl false) (.cons (.int 2) (.cons .non (.cons (.bl true) (.cons (.bl true) (.cons (.int 1) .nil))))))
/-- three rows made -/
theorem three_tab {H : Hp} {p a b c : Addr} {k : Int} {x y z : List Int} (f : Fine k [x, y, z]) (h : H p = some (.lst [.ref a, .ref b, .ref c])) (ha : H a = some (.lst (x.map V.int))) (hb : H b = some (.lst (y.map V.int))) (hc : H c = some (.lst (z.map V.int))) : Tab H p [a, b, c] [x, y, z] :=
  Tab.made f rfl h fun i r ks h1 h2 => by
    match i, h1, h2 with
    | 0, h1, h2 => cases h1; cases h2; exact ha
    | 1, h1, h2 => cases h1; cases h2; exact hb
    | 2, h1, h2 => cases h1; cases h2; exact hc
    | i + 3, h1, h2 => simp at h1
theorem one_tab {H : Hp} {p a : Addr} {k : Int} (f : Fine k [[]]) (h : H p = some (.lst [.ref a])) (ha : H a = some (.lst [])) : Tab H p [a] [[]] :=
  Tab.made f rfl h fun i r ks h1 h2 => by
    match i, h1, h2 with
    | 0, h1, h2 => cases h1; cases h2; exact ha
    | i + 1, h1, h2 => simp at h1
section
variable {P : Program} {w : World} {K : PySem.W.Frag} {mg : Str → Option Value} {base : Heap}
abbrev nLaw : List Str := ["_law_script", "_law_index", "_law_path", "_law_told", "_law_wide", "_law_size"]
theorem scLaw : FnScope nLaw ["_law_script"] (defScope sLaw) := ⟨rfl, rfl, rfl, by decide +kernel, rfl, by decide +kernel, by decide +kernel⟩
def spLaw (K : PySem.W.Frag) : Sp := fun vs H Q _ => ∃ (a : Addr) (ns : List Int), vs = [.ref a] ∧ SqL K H a (ns.map V.int) ∧ ∀ H', Q (.bl true) H'
theorem ok_law {f : Addr} {fd : FuncData} (F : Fun K "law" "law" sLaw f fd) (T : Bi mg) (UR : UseG P w K mg base "_law_right" ["_law_generator_here"] spRight 8) (UT : UseG P w K mg base "_law_great_right" ["_law_generator_here"] spGreat 8) (UG : Use P w K mg base "_law_generator" ["_law_script", "_law_index"] (spGen K) 2)
    (UH : Use P w K mg base "is_house" ["kinds", "company", "lot"] spHouse 6) (UP : Use P w K mg base "parting_person" ["kinds", "company", "lot"] spPart 6) (US : UseG P w K mg base "_law_same" ["_law_told", "_law_due"] (spSame K) 1) : FnG P w K mg base CX0 9 f fd ["_law_script"] (spLaw K) := by
  refine FnG.mk' F scLaw (fun vs H Q E h => ?_) (fun cdv A outer s H vs Q E hgd hr h => ?_)
  · obtain ⟨a, ns, rfl, _⟩ := h
    rfl
  · obtain ⟨a, ns, rfl, hS, q⟩ := h
    have hr1 : Room 1 (A.deeper (envOfC "law" (defScope sLaw) s.heap.objs.size f cdv)) := hr.mono (by decide)
    have hr2 : Room 2 (A.deeper (envOfC "law" (defScope sLaw) s.heap.objs.size f cdv)) := hr.mono (by decide)
    have hr6 : Room 6 (A.deeper (envOfC "law" (defScope sLaw) s.heap.objs.size f cdv)) := hr.mono (by decide)
    have hgd' : (A.deeper (envOfC "law" (defScope sLaw) s.heap.objs.size f cdv)).guards = some [] := hgd
    refine ⟨_, pss_cons (ps_for PassesOwn.never rfl (pi_range1 (by rfl) T.range (pa_cons pe_int pa_nil)) (pg_name (i := 1) scLaw.nd rfl (Or.inl rfl))
        (pss_one (ps_if (pt_not (pt_val (pe_useG UR hgd' hr (by rfl) (pa_cons (pe_use UG hr2 (by rfl) (pa_cons (pv 0) (pa_cons (pv 1) pa_nil))) pa_nil)))) (pss_one (ps_ret pe_bl)) pss_nil)))
      (pss_cons (ps_if (pt_not (pt_val (pe_useG UT hgd' hr (by rfl) (pa_cons (pe_use UG hr2 (by rfl) (pa_cons (pv 0) (pa_cons pe_int pa_nil))) pa_nil)))) (pss_one (ps_ret pe_bl)) pss_nil)
      (pss_cons (ps_set (i := 2) scLaw.nd rfl (Or.inl rfl) (pe_lst (pa_cons (pe_lst pa_nil) (pa_cons (pe_lst (pa_cons pe_int pa_nil)) (pa_cons (pe_lst (pa_cons pe_int (pa_cons pe_int pa_nil))) pa_nil)))))
      (pss_cons (ps_set (i := 3) scLaw.nd rfl (Or.inl rfl) (pe_lst (pa_cons (pe_use UH hr6 (by rfl) (pa_cons pe_int (pa_cons (pv 2) (pa_cons (pe_lst (pa_cons pe_int (pa_cons pe_int pa_nil))) pa_nil)))) (pa_cons (pe_use UH hr6 (by rfl) (pa_cons pe_int (pa_cons (pv 2) (pa_cons (pe_lst (pa_cons pe_int (pa_cons pe_int pa_nil))) pa_nil)))) pa_nil))))
      (pss_cons (ps_set (i := 3) scLaw.nd rfl (Or.inl rfl) (pe_op op_cat (pv 3) (pe_lst (pa_cons (pe_use UP hr6 (by rfl) (pa_cons pe_int (pa_cons (pv 2) (pa_cons (pe_lst (pa_cons pe_int (pa_cons pe_int pa_nil))) pa_nil)))) (pa_cons (pe_use UP hr6 (by rfl) (pa_cons pe_int (pa_cons (pv 2) (pa_cons (pe_lst (pa_cons pe_int pa_nil)) pa_nil)))) pa_nil)))))
      (pss_cons (ps_setLc (i := 4) (own := [("_law_size", 5)]) (g := gName 5) (tt := tYes) rfl scLaw.nd rfl rfl (sw_true rfl rfl rfl (by decide +kernel)) (pi_range1 (by rfl) T.range (pa_cons pe_int pa_nil))
          (blkOk_by (N := nLaw) (sc := defScope sLaw) (by decide +kernel)) (fun _ _ _ _ _ => pg_name (i := 5) scLaw.nd rfl (Or.inl rfl)) (fun _ _ _ _ _ => pts_nil) (fun _ _ _ _ _ => by exact (pe_op op_rep (pe_lst (pa_cons pe_int pa_nil)) (pv 5))))
      (pss_cons (ps_set (i := 3) scLaw.nd rfl (Or.inl rfl) (pe_op op_cat (pv 3) (pe_lst (pa_cons (pe_use UH hr6 (by rfl) (pa_cons pe_int (pa_cons (pv 4) (pa_cons (pe_lst (pa_cons pe_int (pa_cons pe_int pa_nil))) pa_nil))))
          (pa_cons (pe_use UH hr6 (by rfl) (pa_cons pe_int (pa_cons (pe_lst (pa_cons (pe_lst pa_nil) pa_nil)) (pa_cons (pe_lst (pa_cons pe_int pa_nil)) pa_nil))))
          (pa_cons (pe_use UP hr6 (by rfl) (pa_cons pe_int (pa_cons (pe_lst (pa_cons (pe_lst pa_nil) (pa_cons (pe_lst (pa_cons pe_int pa_nil)) (pa_cons (pe_lst (pa_cons pe_int (pa_cons pe_int pa_nil))) pa_nil)))) (pa_cons (pe_lst (pa_cons pe_int (pa_cons pe_int pa_nil))) pa_nil)))) pa_nil))))))
      (pss_one (ps_ret (pe_useG US hgd' hr1 (by rfl) (pa_cons (pv 3) (pa_cons (pe_lst (pa_cons pe_bl (pa_cons pe_bl (pa_cons pe_int (pa_cons pe_non (pa_cons pe_bl (pa_cons pe_bl (pa_cons pe_int pa_nil)))))))) pa_nil))))))))))), ?_⟩
    refine ⟨3, rfl, by decide, by decide, for_range (lo := 0) (n := (3 : Int).toNat) (fun i σ H' => ∃ v : Option V, σ = [some (.ref a), v, none, none, none, none] ∧ Same H H') ⟨none, rfl, Same.refl _⟩ ?_ ?_⟩
    · rintro i σ H' hi ⟨v, rfl, s1⟩
      have i3 : i < 3 := hi
      refine ⟨_, rfl, _, rfl, a, ns, i, (show [V.ref a, V.int (0 + (i : Int))] = [V.ref a, V.int (i : Int)] by rw [Int.zero_add]), by omega, s1.seq hS, fun g H1 sg ng G1 => ?_⟩
      refine ⟨g, 970000, rfl, G1, fun H2 b2 => ⟨_, rfl, iteF ⟨_, rfl, ?_⟩⟩⟩
      exact fun b o e => b2 b o (sg b o (s1 b o e)) (ne_of_none (s1 b o e) ng)
    · rintro σ H' ⟨v, rfl, s1⟩
      refine ⟨_, rfl, a, ns, 3, rfl, by omega, s1.seq hS, fun g H1 sg ng G1 => ?_⟩
      refine ⟨g, 970000, rfl, G1, fun H2 b2 => ⟨_, rfl, iteF ?_⟩⟩
      -- the path
      refine ⟨Nat.zero_le _, fun p1 n1 => ?_⟩
      obtain ⟨H3, e3, s3, f3⟩ := gen H2 n1 (.lst [])
      rw [e3]
      clear e3
      refine ⟨one_le, fun p2 n2 => ?_⟩
      obtain ⟨H4, e4, s4, f4⟩ := gen H3 n2 (.lst [.int 1])
      rw [e4]
      clear e4
      refine ⟨(by show 2 ≤ sizeLine; decide), fun p3 n3 => ?_⟩
      obtain ⟨H5, e5, s5, f5⟩ := gen H4 n3 (.lst [.int 0, .int 1])
      rw [e5]
      clear e5
      refine ⟨(by show 3 ≤ sizeLine; decide), fun pp np => ?_⟩
      obtain ⟨H6, e6, s6, f6⟩ := gen H5 np (.lst [.ref p1, .ref p2, .ref p3])
      rw [e6]
      clear e6
      have fp : Fine 2 pathK := fine_of (by decide +kernel)
      have tp : Tab H6 pp [p1, p2, p3] pathK := three_tab fp f6 (s6 _ _ (s5 _ _ (s4 _ _ f3))) (s6 _ _ (s5 _ _ f4)) (s6 _ _ f5)
      have ask : ∀ {H : Hp} {o : Addr} {l : List Nat}, Tab H pp [p1, p2, p3] pathK → H o = some (.lst (natV l)) → Lot 3 l → Asked H [.int 2, .ref pp, .ref o] pathK l := fun t h l => ⟨⟨2, pp, _, _, rfl, by decide, by decide, t, fp, h⟩, by decide, by decide, l⟩
      refine ⟨_, rfl, (by show 2 ≤ sizeLine; decide), fun q1 m1 => ?_⟩
      obtain ⟨H7, e7, s7, f7⟩ := gen H6 m1 (.lst [.int 0, .int 2])
      rw [e7]
      clear e7
      have t7 := tp.same s7
      refine ⟨pathK, [0, 2], ask t7 f7 (Lot.two (by decide) (by decide)), fun H8 s8 => ?_⟩
      rw [v1]
      refine ⟨_, rfl, (by show 2 ≤ sizeLine; decide), fun q2 m2 => ?_⟩
      obtain ⟨H9, e9, s9, f9⟩ := gen H8 m2 (.lst [.int 0, .int 1])
      rw [e9]
      clear e9
      have t9 := (t7.same s8).same s9
      refine ⟨pathK, [0, 1], ask t9 f9 (Lot.two (by decide) (by decide)), fun H10 s10 => ?_⟩
      rw [v2]
      have t10 := t9.same s10
      refine ⟨(by show 2 ≤ sizeLine; decide), fun l1 k1 => ?_⟩
      obtain ⟨H11, e11, s11, f11⟩ := gen H10 k1 (.lst [.bl true, .bl false])
      rw [e11]
      clear e11
      refine ⟨_, rfl, _, rfl, (by show 2 ≤ sizeLine; decide), fun q3 m3 => ?_⟩
      obtain ⟨H12, e12, s12, f12⟩ := gen H11 m3 (.lst [.int 0, .int 1])
      rw [e12]
      clear e12
      have t12 := (t10.same s11).same s12
      refine ⟨pathK, [0, 1], ask t12 f12 (Lot.two (by decide) (by decide)), fun H13 s13 => ?_⟩
      rw [v3]
      refine ⟨_, rfl, one_le, fun q4 m4 => ?_⟩
      obtain ⟨H14, e14, s14, f14⟩ := gen H13 m4 (.lst [.int 1])
      rw [e14]
      clear e14
      refine ⟨pathK, [1], ask ((t12.same s13).same s14) f14 (Lot.one (by decide)), fun H15 s15 => ?_⟩
      rw [v4]
      refine ⟨(by show 2 ≤ sizeLine; decide), fun l2 k2 => ?_⟩
      obtain ⟨H16, e16, s16, f16⟩ := gen H15 k2 (.lst [.int 2, .non])
      rw [e16]
      clear e16
      have f11' := s16 _ _ (s15 _ _ (s14 _ _ (s13 _ _ (s12 _ _ f11))))
      refine ⟨l1, l2, _, _, rfl, rfl, f11', f16, (by show 2 + 2 ≤ sizeLine; decide), fun l3 k3 => ?_⟩
      obtain ⟨H17, e17, s17, f17⟩ := gen H16 k3 (.lst ([.bl true, .bl false] ++ [.int 2, .non]))
      rw [e17]
      clear e17
      -- forty rows of noughts
      refine ⟨40, rfl, by decide, by decide, fun D hD => ?_⟩
      refine lc_it (walk_range (lo := 0) (n := (40 : Int).toNat)) (fun i H2 => Same H17 H2 ∧ ∃ rs, Tab H2 D rs (zs i) ∧ D ∉ rs) ⟨same_new hD, [], ⟨upd_same, rfl, fun i r ks h => by simp at h, List.nodup_nil⟩, by simp⟩ (fun _ _ _ _ => trivial) ?_ ?_
      · rintro i y I2 I3 hi ⟨s2, rs, t, nD⟩ ⟨rfl, rfl⟩
        have i40 : i < 40 := hi
        refine ⟨rfl, yes_of ?_⟩
        refine ⟨one_le, fun l nl => ?_⟩
        obtain ⟨J1, e1, r1, f1⟩ := gen I3 nl (.lst [.int 0])
        rw [e1]
        clear e1
        refine ⟨_, rfl, l, _, _, rfl, rfl, f1, by omega, by omega, ?_, fun p np => ?_⟩
        · have : ([V.int 0] : List V).length * (0 + (i : Int)).toNat ≤ 1000 := by
            show 1 * _ ≤ _
            omega
          exact Nat.le_of_lt (small1000 this)
        obtain ⟨J2, e2, r2, f2⟩ := gen J1 np (.lst (List.replicate (0 + (i : Int)).toNat [V.int 0]).flatten)
        rw [e2]
        clear e2
        have f2' : J2 p = some (.lst ((List.replicate i (0 : Int)).map V.int)) := by
          rw [f2, rep_one, show (0 + (i : Int)).toNat = i by omega]
        obtain ⟨t2, n2⟩ := t.push nD (fun r _ o e => r2 _ _ (r1 _ _ e)) (r1.free np) f2'
        have tl := t.len
        rw [zs_len] at tl
        refine ⟨rs.map V.ref, r2 _ _ (r1 _ _ t.top), ?_, fun b o e => ?_, rs ++ [p], ?_, n2⟩
        · rw [List.length_map]
          exact small1000 (by omega)
        · rw [upd_ne (ne_of_none e hD)]
          exact r2 b o (r1 b o (s2 b o e))
        · rw [zs_more]
          exact t2
      · rintro H18 ⟨s18, rs, t, nD⟩
        have t40 : Tab H18 D rs (zs 40) := t
        refine ⟨_, rfl, _, rfl, (by show 2 ≤ sizeLine; decide), fun q5 m5 => ?_⟩
        obtain ⟨H19, e19, s19, f19⟩ := gen H18 m5 (.lst [.int 0, .int 39])
        rw [e19]
        clear e19
        have zl : (zs 40).length = 40 := zs_len 40
        refine ⟨zs 40, [0, 39], ⟨⟨2, D, q5, rs, rfl, by decide, by decide, t40.same s19, fz, f19⟩, by omega, by omega, by rw [zl]; exact Lot.two (by decide) (by decide)⟩, fun H20 s20 => ?_⟩
        rw [v5]
        refine ⟨Nat.zero_le _, fun w1 x1 => ?_⟩
        obtain ⟨H21, e21, s21, f21⟩ := gen H20 x1 (.lst [])
        rw [e21]
        clear e21
        refine ⟨one_le, fun w2 x2 => ?_⟩
        obtain ⟨H22, e22, s22, f22⟩ := gen H21 x2 (.lst [.ref w1])
        rw [e22]
        clear e22
        refine ⟨one_le, fun w3 x3 => ?_⟩
        obtain ⟨H23, e23, s23, f23⟩ := gen H22 x3 (.lst [.int 0])
        rw [e23]
        clear e23
        have fo : Fine 9 [[]] := fine_of (by decide +kernel)
        refine ⟨[[]], [0], ⟨⟨9, w2, w3, [w1], rfl, by decide, by decide, one_tab fo (s23 _ _ f22) (s23 _ _ (s22 _ _ f21)), fo, f23⟩, by decide, by decide, Lot.one (by decide)⟩, fun H24 s24 => ?_⟩
        rw [v6]
        refine ⟨Nat.zero_le _, fun y1 z1 => ?_⟩
        obtain ⟨H25, e25, s25, f25⟩ := gen H24 z1 (.lst [])
        rw [e25]
        clear e25
        refine ⟨one_le, fun y2 z2 => ?_⟩
        obtain ⟨H26, e26, s26, f26⟩ := gen H25 z2 (.lst [.int 1])
        rw [e26]
        clear e26
        refine ⟨(by show 2 ≤ sizeLine; decide), fun y3 z3 => ?_⟩
        obtain ⟨H27, e27, s27, f27⟩ := gen H26 z3 (.lst [.int 1, .int 0])
        rw [e27]
        clear e27
        refine ⟨(by show 3 ≤ sizeLine; decide), fun y4 z4 => ?_⟩
        obtain ⟨H28, e28, s28, f28⟩ := gen H27 z4 (.lst [.ref y1, .ref y2, .ref y3])
        rw [e28]
        clear e28
        refine ⟨(by show 2 ≤ sizeLine; decide), fun y5 z5 => ?_⟩
        obtain ⟨H29, e29, s29, f29⟩ := gen H28 z5 (.lst [.int 0, .int 2])
        rw [e29]
        clear e29
        have fl : Fine 2 lastK := fine_of (by decide +kernel)
        have tl : Tab H29 y4 [y1, y2, y3] lastK := three_tab fl (s29 _ _ f28) (s29 _ _ (s28 _ _ (s27 _ _ (s26 _ _ f25)))) (s29 _ _ (s28 _ _ (s27 _ _ f26))) (s29 _ _ (s28 _ _ f27))
        refine ⟨lastK, [0, 2], ⟨⟨2, y4, y5, _, rfl, by decide, by decide, tl, fl, f29⟩, by decide, by decide, Lot.two (by decide) (by decide)⟩, fun H30 s30 => ?_⟩
        rw [v7]
        refine ⟨(by show 3 ≤ sizeLine; decide), fun l4 k4 => ?_⟩
        obtain ⟨H31, e31, s31, f31⟩ := gen H30 k4 (.lst [.bl true, .bl true, .int 1])
        rw [e31]
        clear e31
        have far : Same H17 H31 := s18.trans (s19.trans (s20.trans (s21.trans (s22.trans (s23.trans (s24.trans (s25.trans (s26.trans (s27.trans (s28.trans (s29.trans (s30.trans s31))))))))))))
        refine ⟨l3, l4, _, _, rfl, rfl, far _ _ f17, f31, (by show 4 + 3 ≤ sizeLine; decide), fun l5 k5 => ?_⟩
        obtain ⟨H32, e32, s32, f32⟩ := gen H31 k5 (.lst (([.bl true, .bl false] ++ [.int 2, .non]) ++ [.bl true, .bl true, .int 1]))
        rw [e32]
        clear e32
        refine ⟨_, rfl, (by show 7 ≤ sizeLine; decide), fun l6 k6 => ?_⟩
        obtain ⟨H33, e33, s33, f33⟩ := gen H32 k6 (.lst [.bl true, .bl false, .int 2, .non, .bl true, .bl true, .int 1])
        rw [e33]
        clear e33
        exact ⟨.ref l5, .ref l6, dataL, rfl, .lst (s33 _ _ f32) dts_last, .lst f33 dts_last, nice_last, q _⟩
end
end K6

namespace K6
open PySem PySem.Spec PyProof.Rows L2 GL
/-- a def of the text stands under its name -/
def Has (K : PySem.W.Frag) (x : Str) (st : Stmt) : Prop := ∃ (f : Addr) (oc : Value) (od : Option Addr) (kV dc pm : Value) (an : Option Addr) (cd ct : Value) (sl : Array (Option Value)), PySem.W.nsIn K mainGlobals x = some (some (.ref f)) ∧
  K.lookup f = some ⟨oc, od, .func (PySem.W.fnOf x x (defArgs st) (defBody st) (defScope st) .none kV dc pm an cd ct), sl⟩ ∧ PySem.W.codeIn K cd x = true ∧ PySem.W.keepIn K (.ref f) = true
theorem Has.fn {K : PySem.W.Frag} {x : Str} {st : Stmt} {h : Heap} {mg : Str → Option Value} (H : Has K x st) (X : K.In h) (G : h.Ns mainGlobals mg) : ∃ (f : Addr) (fd : FuncData), Fun K x x st f fd ∧ mg x = some (.ref f) := by
  obtain ⟨f, oc, od, kV, dc, pm, an, cd, ct, sl, a, l, c, k⟩ := H
  exact ⟨f, _, fun_mk (st := st) l c k, PySem.W.mg_of X G a⟩
theorem has_mk {K : PySem.W.Frag} {x : Str} {st : Stmt} {f : Addr} {oc kV dc pm cd ct : Value} {od an : Option Addr} {sl : Array (Option Value)} (a : PySem.W.nsIn K mainGlobals x = some (some (.ref f)))
    (l : K.lookup f = some ⟨oc, od, .func (PySem.W.fnOf x x (defArgs st) (defBody st) (defScope st) .none kV dc pm an cd ct), sl⟩) (c : PySem.W.codeIn K cd x = true) (k : PySem.W.keepIn K (.ref f) = true) : Has K x st := ⟨f, oc, od, kV, dc, pm, an, cd, ct, sl, a, l, c, k⟩
/-- a written number of the text -/
def HasInt (K : PySem.W.Frag) (x : Str) (n : Int) : Prop := ∃ t, PySem.W.nsIn K mainGlobals x = some (some (.int n t))
theorem hasInt_mk {K : PySem.W.Frag} {x : Str} {n : Int} {t : Tok} (a : PySem.W.nsIn K mainGlobals x = some (some (.int n t))) : HasInt K x n := ⟨t, a⟩
def HasNot (K : PySem.W.Frag) (x : Str) : Prop := PySem.W.nsIn K mainGlobals x = some none
theorem all_mk {l : PySem.W.OpenLaw} {w : World} {K : PySem.W.Frag} {h : Heap} {mg : Str → Option Value} {fa : Addr} (X : K.In h) (G : h.Ns mainGlobals mg) (hfa : mg "law" = some (.ref fa))
    (h9 : Has K "is_whole" sWhole) (h10 : Has K "is_below" sBelow) (h11 : Has K "are_kinds" sKinds) (h12 : Has K "is_row" sRow) (h13 : Has K "is_company_of" sCompOf) (h14 : Has K "is_lot" sLot) (h15 : Has K "check_kinds" sCheck) (h16 : Has K "check_company" sCheckC) (h17 : Has K "check_lot" sCheckL) (h19 : Has K "ties_of" sTies) (h21 : Has K "first_parting" sFirst) (h22 : Has K "is_house" sHouse) (h23 : Has K "parting_person" sParting) (h25 : Has K "_law_hash" sHash) (h26 : Has K "_law_random" sRandom) (h27 : Has K "_law_cell" sCell) (h28 : Has K "_law_generator" sGen) (h29 : Has K "_law_same" sSame) (h30 : Has K "_law_tie" sTie) (h32 : Has K "_law_renamed" sRenamed) (h31 : Has K "_law_company" sCompany) (h33 : Has K "_law_kept" sKept) (h34 : Has K "_law_lots" sLots) (h35 : Has K "_law_couples" sCouples) (h36 : Has K "_law_alike" sAlike) (h37 : Has K "_law_parting" sPart2) (h38 : Has K "_law_lot_right" sLotRight) (h39 : Has K "_law_right" sRight) (h40 : Has K "_law_great_right" sGreat) (h41 : Has K "law" sLaw)
    (c0 : HasInt K "LEAST_KINDS" 2) (c1 : HasInt K "MOST_KINDS" 9) (c2 : HasInt K "MOST_PEOPLE" 40)
    (z0 : HasNot K "int") (z1 : HasNot K "len") (z2 : HasNot K "sum") (z3 : HasNot K "max") (z4 : HasNot K "min") (z5 : HasNot K "range") (z6 : HasNot K "isinstance") (z7 : HasNot K "bool") (z8 : HasNot K "list") (z9 : HasNot K "tuple") (z10 : HasNot K "all") (z11 : HasNot K "enumerate") (z12 : HasNot K "repr") (z13 : HasNot K "zip") (z14 : HasNot K "any") (z15 : HasNot K "set") (z16 : HasNot K "sorted") :
    ∃ fd : FuncData, (∀ (s : Shared) (v : Value), BindsTo s fd ⟨[v], []⟩ [("_law_script", v)]) ∧ ∀ base : Heap, K.In base → base.Ns mainGlobals mg → FnG l.prog w K mg base CX0 9 fa fd ["_law_script"] (spLaw K) := by
  have nn : ∀ {x : Str}, HasNot K x → mg x = none := fun z => PySem.W.mg_none_of X G z
  have T : Bi mg := ⟨nn z0, nn z1, nn z2, nn z3, nn z4, nn z5, nn z6, nn z7, nn z8, nn z9, nn z10, nn z11, nn z12, nn z13, nn z14, nn z15, nn z16⟩
  have C : Cs mg := ⟨let ⟨t, a⟩ := c0; ⟨t, PySem.W.mg_of X G a⟩, let ⟨t, a⟩ := c1; ⟨t, PySem.W.mg_of X G a⟩, let ⟨t, a⟩ := c2; ⟨t, PySem.W.mg_of X G a⟩⟩
  obtain ⟨f9, fd9, F9, g9⟩ := h9.fn X G
  obtain ⟨f10, fd10, F10, g10⟩ := h10.fn X G
  obtain ⟨f11, fd11, F11, g11⟩ := h11.fn X G
  obtain ⟨f12, fd12, F12, g12⟩ := h12.fn X G
  obtain ⟨f13, fd13, F13, g13⟩ := h13.fn X G
  obtain ⟨f14, fd14, F14, g14⟩ := h14.fn X G
  obtain ⟨f15, fd15, F15, g15⟩ := h15.fn X G
  obtain ⟨f16, fd16, F16, g16⟩ := h16.fn X G
  obtain ⟨f17, fd17, F17, g17⟩ := h17.fn X G
  obtain ⟨f19, fd19, F19, g19⟩ := h19.fn X G
  obtain ⟨f21, fd21, F21, g21⟩ := h21.fn X G
  obtain ⟨f22, fd22, F22, g22⟩ := h22.fn X G
  obtain ⟨f23, fd23, F23, g23⟩ := h23.fn X G
  obtain ⟨f25, fd25, F25, g25⟩ := h25.fn X G
  obtain ⟨f26, fd26, F26, g26⟩ := h26.fn X G
  obtain ⟨f27, fd27, F27, g27⟩ := h27.fn X G
  obtain ⟨f28, fd28, F28, g28⟩ := h28.fn X G
  obtain ⟨f29, fd29, F29, g29⟩ := h29.fn X G
  obtain ⟨f30, fd30, F30, g30⟩ := h30.fn X G
  obtain ⟨f32, fd32, F32, g32⟩ := h32.fn X G
  obtain ⟨f31, fd31, F31, g31⟩ := h31.fn X G
  obtain ⟨f33, fd33, F33, g33⟩ := h33.fn X G
  obtain ⟨f34, fd34, F34, g34⟩ := h34.fn X G
  obtain ⟨f35, fd35, F35, g35⟩ := h35.fn X G
  obtain ⟨f36, fd36, F36, g36⟩ := h36.fn X G
  obtain ⟨f37, fd37, F37, g37⟩ := h37.fn X G
  obtain ⟨f38, fd38, F38, g38⟩ := h38.fn X G
  obtain ⟨f39, fd39, F39, g39⟩ := h39.fn X G
  obtain ⟨f40, fd40, F40, g40⟩ := h40.fn X G
  have b9 := F9.binds (ps := ["value"]) fun _ _ _ _ _ _ us hl => match us, hl with | [_], _ => rfl
  have b10 := F10.binds (ps := ["value", "bound"]) fun _ _ _ _ _ _ us hl => match us, hl with | [_, _], _ => rfl
  have b11 := F11.binds (ps := ["value"]) fun _ _ _ _ _ _ us hl => match us, hl with | [_], _ => rfl
  have b12 := F12.binds (ps := ["kinds", "many", "value"]) fun _ _ _ _ _ _ us hl => match us, hl with | [_, _, _], _ => rfl
  have b13 := F13.binds (ps := ["kinds", "value"]) fun _ _ _ _ _ _ us hl => match us, hl with | [_, _], _ => rfl
  have b14 := F14.binds (ps := ["many", "value"]) fun _ _ _ _ _ _ us hl => match us, hl with | [_, _], _ => rfl
  have b15 := F15.binds (ps := ["kinds"]) fun _ _ _ _ _ _ us hl => match us, hl with | [_], _ => rfl
  have b16 := F16.binds (ps := ["kinds", "company"]) fun _ _ _ _ _ _ us hl => match us, hl with | [_, _], _ => rfl
  have b17 := F17.binds (ps := ["company", "lot"]) fun _ _ _ _ _ _ us hl => match us, hl with | [_, _], _ => rfl
  have b19 := F19.binds (ps := ["company"]) fun _ _ _ _ _ _ us hl => match us, hl with | [_], _ => rfl
  have b21 := F21.binds (ps := ["ties", "lot"]) fun _ _ _ _ _ _ us hl => match us, hl with | [_, _], _ => rfl
  have b22 := F22.binds (ps := ["kinds", "company", "lot"]) fun _ _ _ _ _ _ us hl => match us, hl with | [_, _, _], _ => rfl
  have b23 := F23.binds (ps := ["kinds", "company", "lot"]) fun _ _ _ _ _ _ us hl => match us, hl with | [_, _, _], _ => rfl
  have b25 := F25.binds (ps := ["_law_seed", "_law_index"]) fun _ _ _ _ _ _ us hl => match us, hl with | [_, _], _ => rfl
  have b26 := F26.binds (ps := ["_law_generator_here", "_law_bound"]) fun _ _ _ _ _ _ us hl => match us, hl with | [_, _], _ => rfl
  have b27 := F27.binds (ps := ["_law_script", "_law_index"]) fun _ _ _ _ _ _ us hl => match us, hl with | [_, _], _ => rfl
  have b28 := F28.binds (ps := ["_law_script", "_law_index"]) fun _ _ _ _ _ _ us hl => match us, hl with | [_, _], _ => rfl
  have b29 := F29.binds (ps := ["_law_told", "_law_due"]) fun _ _ _ _ _ _ us hl => match us, hl with | [_, _], _ => rfl
  have b30 := F30.binds (ps := ["_law_company_here", "_law_one", "_law_other"]) fun _ _ _ _ _ _ us hl => match us, hl with | [_, _, _], _ => rfl
  have b32 := F32.binds (ps := ["_law_generator_here", "_law_company_here"]) fun _ _ _ _ _ _ us hl => match us, hl with | [_, _], _ => rfl
  have b31 := F31.binds (ps := ["_law_generator_here", "_law_kinds", "_law_most"]) fun _ _ _ _ _ _ us hl => match us, hl with | [_, _, _], _ => rfl
  have b33 := F33.binds (ps := ["_law_company_here"]) fun _ _ _ _ _ _ us hl => match us, hl with | [_], _ => rfl
  have b34 := F34.binds (ps := ["_law_size"]) fun _ _ _ _ _ _ us hl => match us, hl with | [_], _ => rfl
  have b35 := F35.binds (ps := ["_law_size"]) fun _ _ _ _ _ _ us hl => match us, hl with | [_], _ => rfl
  have b36 := F36.binds (ps := ["_law_company_here", "_law_one", "_law_other"]) fun _ _ _ _ _ _ us hl => match us, hl with | [_, _, _], _ => rfl
  have b37 := F37.binds (ps := ["_law_company_here", "_law_lot"]) fun _ _ _ _ _ _ us hl => match us, hl with | [_, _], _ => rfl
  have b38 := F38.binds (ps := ["_law_kinds", "_law_company_here", "_law_lot"]) fun _ _ _ _ _ _ us hl => match us, hl with | [_, _, _], _ => rfl
  have b39 := F39.binds (ps := ["_law_generator_here"]) fun _ _ _ _ _ _ us hl => match us, hl with | [_], _ => rfl
  have b40 := F40.binds (ps := ["_law_generator_here"]) fun _ _ _ _ _ _ us hl => match us, hl with | [_], _ => rfl
  have kw0 : KBinds K fd23 ["kinds", "company", "lot"] ["lot", "company", "kinds"] gK gKV := by
    obtain ⟨oc, od, kV, doc, pm, an, cdv, ct, osl, rfl, lk, hcd⟩ := F23.ex
    refine ⟨fun s us ws _ hl => ?_, fun a b => gK_rel a b⟩
    match us, ws, hl with
    | [], [v0, v1, v2], _ => exact .of_eq rfl
  obtain ⟨fl, oc, od, kV, dc, pm, an, cd, ct, sl, al, ll, cl, kl⟩ := h41
  have e := hfa.symm.trans (PySem.W.mg_of X G al)
  cases e
  refine ⟨PySem.W.fnOf "law" "law" (defArgs sLaw) (defBody sLaw) (defScope sLaw) .none kV dc pm an cd ct, fun s v => .of_eq rfl, fun base _ _ => ?_⟩
  have U9 : Use l.prog w K mg base "is_whole" ["value"] (spWhole K) 1 := ⟨f9, fd9, ok_whole F9 T, g9, F9.kp, b9⟩
  have U10 : Use l.prog w K mg base "is_below" ["value", "bound"] (spBelow K) 2 := ⟨f10, fd10, ok_below F10 U9, g10, F10.kp, b10⟩
  have U11 : Use l.prog w K mg base "are_kinds" ["value"] (spKinds K) 2 := ⟨f11, fd11, ok_kinds F11 C U9, g11, F11.kp, b11⟩
  have U12 : Use l.prog w K mg base "is_row" ["kinds", "many", "value"] (spRow K) 3 := ⟨f12, fd12, ok_row F12 T U10, g12, F12.kp, b12⟩
  have U13 : Use l.prog w K mg base "is_company_of" ["kinds", "value"] (spCompOf K) 4 := ⟨f13, fd13, ok_compOf F13 T C U12, g13, F13.kp, b13⟩
  have U14 : Use l.prog w K mg base "is_lot" ["many", "value"] (spLot K) 3 := ⟨f14, fd14, ok_lot F14 T U10, g14, F14.kp, b14⟩
  have U15 : Use l.prog w K mg base "check_kinds" ["kinds"] spCheck 3 := ⟨f15, fd15, ok_check F15 U11, g15, F15.kp, b15⟩
  have U16 : Use l.prog w K mg base "check_company" ["kinds", "company"] (spCheckC K) 5 := ⟨f16, fd16, ok_checkC F16 U15 U13, g16, F16.kp, b16⟩
  have U17 : Use l.prog w K mg base "check_lot" ["company", "lot"] spCheckL 4 := ⟨f17, fd17, ok_checkL F17 T U14, g17, F17.kp, b17⟩
  have U19 : Use l.prog w K mg base "ties_of" ["company"] spTies 1 := ⟨f19, fd19, ok_ties F19 T, g19, F19.kp, b19⟩
  have U21 : Use l.prog w K mg base "first_parting" ["ties", "lot"] spFirst 1 := ⟨f21, fd21, ok_first F21 T, g21, F21.kp, b21⟩
  have U22 : Use l.prog w K mg base "is_house" ["kinds", "company", "lot"] spHouse 6 := ⟨f22, fd22, ok_house F22 U16 U17 U19 U21, g22, F22.kp, b22⟩
  have U23 : Use l.prog w K mg base "parting_person" ["kinds", "company", "lot"] spPart 6 := ⟨f23, fd23, ok_parting F23 U16 U17 U19 U21, g23, F23.kp, b23⟩
  have KW0 : UseKw l.prog w K mg base := ⟨f23, fd23, ok_parting F23 U16 U17 U19 U21, g23, F23.kp, kw0⟩
  have U25 : Use l.prog w K mg base "_law_hash" ["_law_seed", "_law_index"] spHash 1 := ⟨f25, fd25, ok_hash F25 T, g25, F25.kp, b25⟩
  have U26 : Use l.prog w K mg base "_law_random" ["_law_generator_here", "_law_bound"] spRandom 2 := ⟨f26, fd26, ok_random F26 T U25, g26, F26.kp, b26⟩
  have U27 : Use l.prog w K mg base "_law_cell" ["_law_script", "_law_index"] (spCell K) 1 := ⟨f27, fd27, ok_cell F27 T, g27, F27.kp, b27⟩
  have U28 : Use l.prog w K mg base "_law_generator" ["_law_script", "_law_index"] (spGen K) 2 := ⟨f28, fd28, ok_gen F28 T U27, g28, F28.kp, b28⟩
  have U29 : UseG l.prog w K mg base "_law_same" ["_law_told", "_law_due"] (spSame K) 1 := ⟨f29, fd29, ok_same F29 T, g29, F29.kp, b29⟩
  have U30 : Use l.prog w K mg base "_law_tie" ["_law_company_here", "_law_one", "_law_other"] spTie 1 := ⟨f30, fd30, ok_tie F30 T, g30, F30.kp, b30⟩
  have U32 : Use l.prog w K mg base "_law_renamed" ["_law_generator_here", "_law_company_here"] spRenamed 3 := ⟨f32, fd32, ok_renamed F32 T U26 U30, g32, F32.kp, b32⟩
  have U31 : Use l.prog w K mg base "_law_company" ["_law_generator_here", "_law_kinds", "_law_most"] spCompany 4 := ⟨f31, fd31, ok_company F31 T U26 U30 U32, g31, F31.kp, b31⟩
  have U33 : Use l.prog w K mg base "_law_kept" ["_law_company_here"] spKept 1 := ⟨f33, fd33, ok_kept F33 T, g33, F33.kp, b33⟩
  have U34 : Use l.prog w K mg base "_law_lots" ["_law_size"] spLots 1 := ⟨f34, fd34, ok_lots F34 T, g34, F34.kp, b34⟩
  have U35 : Use l.prog w K mg base "_law_couples" ["_law_size"] spCouples 1 := ⟨f35, fd35, ok_couples F35 T, g35, F35.kp, b35⟩
  have U36 : Use l.prog w K mg base "_law_alike" ["_law_company_here", "_law_one", "_law_other"] spAlike 2 := ⟨f36, fd36, ok_alike F36 T U30, g36, F36.kp, b36⟩
  have U37 : Use l.prog w K mg base "_law_parting" ["_law_company_here", "_law_lot"] spPart2 2 := ⟨f37, fd37, ok_part2 F37 T U30, g37, F37.kp, b37⟩
  have U38 : UseG l.prog w K mg base "_law_lot_right" ["_law_kinds", "_law_company_here", "_law_lot"] spLotRight 7 := ⟨f38, fd38, ok_lotRight F38 T U33 U37 U29 U22 KW0, g38, F38.kp, b38⟩
  have U39 : UseG l.prog w K mg base "_law_right" ["_law_generator_here"] spRight 8 := ⟨f39, fd39, ok_right F39 T U26 U31 U34 U38 U22, g39, F39.kp, b39⟩
  have U40 : UseG l.prog w K mg base "_law_great_right" ["_law_generator_here"] spGreat 8 := ⟨f40, fd40, ok_great F40 T U26 U31 U35 U29 U36 U38 U22, g40, F40.kp, b40⟩
  exact ok_law (fun_mk (st := sLaw) ll cl kl) T U39 U40 U28 U22 U23 U29
end K6
open PySem PySem.W PyProof.Rows
set_option maxRecDepth 100000 in
set_option maxHeartbeats 0 in
theorem PySem.Challenge.cw_twinties_k06_whole_houses_holds : PySem.Challenge.rw_twinties_k06_whole_houses.Holds := by
  w_on; o_law; k_head; (case hw => w_witness2)
  k_fill
  refine GL.walk_ofG (l := PySem.Challenge.rw_twinties_k06_whole_houses) (n := 63) (k := 9) (x := "_law_script") (sp := K6.spLaw) rfl (by decide) rfl ⟨rfl, by decide, by decide⟩ (fun w h Y => PySem.W.kIn_of Y) ?F (fun K H a ns hl _ hS => ⟨a, ns, rfl, hS, fun _ => rfl⟩)
  case F =>
    intro w mg fa h KX G hmg
    refine' K6.all_mk KX G hmg ?h9 ?h10 ?h11 ?h12 ?h13 ?h14 ?h15 ?h16 ?h17 ?h19 ?h21 ?h22 ?h23 ?h25 ?h26 ?h27 ?h28 ?h29 ?h30 ?h32 ?h31 ?h33 ?h34 ?h35 ?h36 ?h37 ?h38 ?h39 ?h40 ?h41 ?c0 ?c1 ?c2 ?z0 ?z1 ?z2 ?z3 ?z4 ?z5 ?z6 ?z7 ?z8 ?z9 ?z10 ?z11 ?z12 ?z13 ?z14 ?z15 ?z16
    (case h9 => refine' K6.has_mk ?a ?l ?c ?k; (case a => k_is); (case l => k_is); (case c => k_is); (case k => k_is))
    (case h10 => refine' K6.has_mk ?a ?l ?c ?k; (case a => k_is); (case l => k_is); (case c => k_is); (case k => k_is))
    (case h11 => refine' K6.has_mk ?a ?l ?c ?k; (case a => k_is); (case l => k_is); (case c => k_is); (case k => k_is))
    (case h12 => refine' K6.has_mk ?a ?l ?c ?k; (case a => k_is); (case l => k_is); (case c => k_is); (case k => k_is))
    (case h13 => refine' K6.has_mk ?a ?l ?c ?k; (case a => k_is); (case l => k_is); (case c => k_is); (case k => k_is))
    (case h14 => refine' K6.has_mk ?a ?l ?c ?k; (case a => k_is); (case l => k_is); (case c => k_is); (case k => k_is))
    (case h15 => refine' K6.has_mk ?a ?l ?c ?k; (case a => k_is); (case l => k_is); (case c => k_is); (case k => k_is))
    (case h16 => refine' K6.has_mk ?a ?l ?c ?k; (case a => k_is); (case l => k_is); (case c => k_is); (case k => k_is))
    (case h17 => refine' K6.has_mk ?a ?l ?c ?k; (case a => k_is); (case l => k_is); (case c => k_is); (case k => k_is))
    (case h19 => refine' K6.has_mk ?a ?l ?c ?k; (case a => k_is); (case l => k_is); (case c => k_is); (case k => k_is))
    (case h21 => refine' K6.has_mk ?a ?l ?c ?k; (case a => k_is); (case l => k_is); (case c => k_is); (case k => k_is))
    (case h22 => refine' K6.has_mk ?a ?l ?c ?k; (case a => k_is); (case l => k_is); (case c => k_is); (case k => k_is))
    (case h23 => refine' K6.has_mk ?a ?l ?c ?k; (case a => k_is); (case l => k_is); (case c => k_is); (case k => k_is))
    (case h25 => refine' K6.has_mk ?a ?l ?c ?k; (case a => k_is); (case l => k_is); (case c => k_is); (case k => k_is))
    (case h26 => refine' K6.has_mk ?a ?l ?c ?k; (case a => k_is); (case l => k_is); (case c => k_is); (case k => k_is))
    (case h27 => refine' K6.has_mk ?a ?l ?c ?k; (case a => k_is); (case l => k_is); (case c => k_is); (case k => k_is))
    (case h28 => refine' K6.has_mk ?a ?l ?c ?k; (case a => k_is); (case l => k_is); (case c => k_is); (case k => k_is))
    (case h29 => refine' K6.has_mk ?a ?l ?c ?k; (case a => k_is); (case l => k_is); (case c => k_is); (case k => k_is))
    (case h30 => refine' K6.has_mk ?a ?l ?c ?k; (case a => k_is); (case l => k_is); (case c => k_is); (case k => k_is))
    (case h32 => refine' K6.has_mk ?a ?l ?c ?k; (case a => k_is); (case l => k_is); (case c => k_is); (case k => k_is))
    (case h31 => refine' K6.has_mk ?a ?l ?c ?k; (case a => k_is); (case l => k_is); (case c => k_is); (case k => k_is))
    (case h33 => refine' K6.has_mk ?a ?l ?c ?k; (case a => k_is); (case l => k_is); (case c => k_is); (case k => k_is))
    (case h34 => refine' K6.has_mk ?a ?l ?c ?k; (case a => k_is); (case l => k_is); (case c => k_is); (case k => k_is))
    (case h35 => refine' K6.has_mk ?a ?l ?c ?k; (case a => k_is); (case l => k_is); (case c => k_is); (case k => k_is))
    (case h36 => refine' K6.has_mk ?a ?l ?c ?k; (case a => k_is); (case l => k_is); (case c => k_is); (case k => k_is))
    (case h37 => refine' K6.has_mk ?a ?l ?c ?k; (case a => k_is); (case l => k_is); (case c => k_is); (case k => k_is))
    (case h38 => refine' K6.has_mk ?a ?l ?c ?k; (case a => k_is); (case l => k_is); (case c => k_is); (case k => k_is))
    (case h39 => refine' K6.has_mk ?a ?l ?c ?k; (case a => k_is); (case l => k_is); (case c => k_is); (case k => k_is))
    (case h40 => refine' K6.has_mk ?a ?l ?c ?k; (case a => k_is); (case l => k_is); (case c => k_is); (case k => k_is))
    (case h41 => refine' K6.has_mk ?a ?l ?c ?k; (case a => k_is); (case l => k_is); (case c => k_is); (case k => k_is))
    (case c0 => refine' K6.hasInt_mk ?a; (case a => k_is))
    (case c1 => refine' K6.hasInt_mk ?a; (case a => k_is))
    (case c2 => refine' K6.hasInt_mk ?a; (case a => k_is))
    (case z0 => (show PySem.W.nsIn _ mainGlobals _ = some none); k_is)
    (case z1 => (show PySem.W.nsIn _ mainGlobals _ = some none); k_is)
    (case z2 => (show PySem.W.nsIn _ mainGlobals _ = some none); k_is)
    (case z3 => (show PySem.W.nsIn _ mainGlobals _ = some none); k_is)
    (case z4 => (show PySem.W.nsIn _ mainGlobals _ = some none); k_is)
    (case z5 => (show PySem.W.nsIn _ mainGlobals _ = some none); k_is)
    (case z6 => (show PySem.W.nsIn _ mainGlobals _ = some none); k_is)
    (case z7 => (show PySem.W.nsIn _ mainGlobals _ = some none); k_is)
    (case z8 => (show PySem.W.nsIn _ mainGlobals _ = some none); k_is)
    (case z9 => (show PySem.W.nsIn _ mainGlobals _ = some none); k_is)
    (case z10 => (show PySem.W.nsIn _ mainGlobals _ = some none); k_is)
    (case z11 => (show PySem.W.nsIn _ mainGlobals _ = some none); k_is)
    (case z12 => (show PySem.W.nsIn _ mainGlobals _ = some none); k_is)
    (case z13 => (show PySem.W.nsIn _ mainGlobals _ = some none); k_is)
    (case z14 => (show PySem.W.nsIn _ mainGlobals _ = some none); k_is)
    (case z15 => (show PySem.W.nsIn _ mainGlobals _ = some none); k_is)
    (case z16 => (show PySem.W.nsIn _ mainGlobals _ = some none); k_is)

